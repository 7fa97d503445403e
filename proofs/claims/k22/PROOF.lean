import PyProof.Rows.All
import Wide.All
import OpenK.AllK
import Wide.FinOn
import Lean
import PyProof.EqAt
import PyProof.EqKinds
import PyProof.TupleCall
import PyProof.StrReplace2
import PyProof.DictItems
import PyProof.EnumStmt
import PyProof.EnumFor
import PyProof.DictItemsLoops
import PyProof.ZipIter
import PyProof.IsRules
import PyProof.Rows.SortRev
import KE.KIntText
import OpenK.KRaise
import KE.TryInHelper
import PyProof.RulesRaise
import PyProof.Rows.RaiseClass
import PyProof.RaisesMany
import PyProof.ExcClass3
import PyProof.ExcBaseAll.ValueError
import KE.KTryMore
import PyProof.InstStoreFacts
import OpenK.KMake
import PyProof.ExcAttrAll.ValueError
import KE.KIsAll
import OpenK.KWalk
import OpenK.KDescr
import PySem.Challenge.RW_cabinet_k22_no_token
set_option Elab.async false
set_option linter.all false
set_option maxRecDepth 100000
set_option maxHeartbeats 4000000
namespace L2
open PySem PySem.Spec PyProof.Rows
/-- a key: an int or a str -/
abbrev Key := Sum Int Str
def keyIs : Key → Value → Bool
  | .inl k, v => Value.isInt k v
  | .inr x, v => Value.isStrOf x v
def keyH (w : World) : Key → Int
  | .inl k => hashInt k
  | .inr x => hashStr w x
theorem keyIs_shape : ∀ {k : Key} {v : Value}, keyIs k v = true → (∃ i t, k = Sum.inl i ∧ v = Value.int i t) ∨ (∃ x t, k = Sum.inr x ∧ v = Value.str x t)
  | .inl i, v, h => by
    obtain ⟨t, e⟩ := Value.isInt_shape (k := i) (v := v) h
    exact .inl ⟨i, t, rfl, e⟩
  | .inr x, v, h => by
    obtain ⟨t, e⟩ := Value.isStrOf_shape (x := x) (v := v) h
    exact .inr ⟨x, t, rfl, e⟩
theorem key_ll (a b : Int) : decide ((Sum.inl a : Key) = Sum.inl b) = (a == b) := by
  by_cases e : a = b
  · subst e; simp
  · have h : ¬ (Sum.inl a : Key) = Sum.inl b := fun q => e (Sum.inl.inj q)
    rw [decide_eq_false h]
    exact (beq_eq_false_iff_ne.mpr e).symm
theorem key_rr (a b : Str) : decide ((Sum.inr a : Key) = Sum.inr b) = decide (a = b) := by
  by_cases e : a = b
  · subst e; simp
  · have h : ¬ (Sum.inr a : Key) = Sum.inr b := fun q => e (Sum.inr.inj q)
    rw [decide_eq_false h, decide_eq_false e]
theorem key_lr (a : Int) (b : Str) : decide ((Sum.inl a : Key) = Sum.inr b) = false := decide_eq_false (fun q => nomatch q)
theorem key_rl (a : Str) (b : Int) : decide ((Sum.inr a : Key) = Sum.inl b) = false := decide_eq_false (fun q => nomatch q)
def mixKind (prog : Program) (w : World) : PySem.KeyKind prog w Key where
  is := keyIs
  hash := keyH w
  inj := fun v a b ha hb => by
    rcases keyIs_shape ha with ⟨i, t, rfl, rfl⟩ | ⟨x, t, rfl, rfl⟩
    · rcases keyIs_shape hb with ⟨j, u, rfl, e⟩ | ⟨y, u, rfl, e⟩
      · injection e with e1 _; rw [e1]
      · exact nomatch e
    · rcases keyIs_shape hb with ⟨j, u, rfl, e⟩ | ⟨y, u, rfl, e⟩
      · exact nomatch e
      · injection e with e1 _; rw [e1]
  byValue := fun k v h => by
    rcases keyIs_shape h with ⟨i, t, rfl, rfl⟩ | ⟨x, t, rfl, rfl⟩ <;> rfl
  pyHash := fun hv h => by
    rcases keyIs_shape hv with ⟨i, t, rfl, rfl⟩ | ⟨x, t, rfl, rfl⟩
    · exact wpAny_pyHash_int h
    · exact wpAny_pyHash_str h
  eqBool := fun hu hv h => by
    rcases keyIs_shape hu with ⟨i, t, rfl, rfl⟩ | ⟨x, t, rfl, rfl⟩
    · rcases keyIs_shape hv with ⟨j, u, rfl, rfl⟩ | ⟨y, u, rfl, rfl⟩
      · rw [key_ll] at h; exact wpAny_eqBool_int h
      · rw [key_lr] at h; exact SeqAt.EqAt.int_str i t y u _ _ _ _ h
    · rcases keyIs_shape hv with ⟨j, u, rfl, rfl⟩ | ⟨y, u, rfl, rfl⟩
      · rw [key_rl] at h; exact SeqAt.EqAt.str_int x t j u _ _ _ _ h
      · rw [key_rr] at h; exact wpAny_eqBool_str h
  «strs» := fun k x t v h => by
    rcases keyIs_shape h with ⟨i, u, rfl, e⟩ | ⟨y, u, rfl, e⟩
    · exact nomatch e
    · injection e with e1 _
      subst e1
      cases v <;> rfl
end L2
namespace L2
open PySem PySem.Spec PyProof.Rows
/-- a value, without the heap -/
inductive V where
  | non | bl (b : Bool) | int (i : Int) | str (x : Str) | byt (b : Array UInt8) | flt (b : UInt64) | ref (a : Addr) | ty (n : String)
  deriving DecidableEq
def RelV : V → Value → Prop
  | .non, u => u = Value.none
  | .bl b, u => u = Value.bool b
  | .int i, u => ∃ t, u = Value.int i t
  | .str x, u => ∃ t, u = Value.str x t
  | .byt b, u => ∃ t, u = Value.bytes b t
  | .flt b, u => ∃ t, u = Value.float b t
  | .ref a, u => u = Value.ref a
  | .ty n, u => u = Value.type n
abbrev Vals : List V → List Value → Prop := Paired RelV
theorem Vals.length {xs : List V} {us : List Value} (r : Vals xs us) : xs.length = us.length := Paired.length r
theorem Vals.get : ∀ {xs : List V} {us : List Value} {i : Nat} {x : V}, Vals xs us → xs[i]? = some x → ∃ u, us[i]? = some u ∧ RelV x u
  | _, _, _, _, .nil, e => by simp at e
  | _, _, 0, _, .cons r _, e => by simp at e; subst e; exact ⟨_, rfl, r⟩
  | _, _, i + 1, x, .cons _ t, e => by
    obtain ⟨u, h1, h2⟩ := Vals.get (i := i) (x := x) t (by simpa using e)
    exact ⟨u, by simpa using h1, h2⟩
theorem Vals.set {x : V} {u : Value} (r : RelV x u) : ∀ {xs : List V} {us : List Value} (i : Nat), Vals xs us → Vals (xs.set i x) (us.set i u)
  | _, _, _, .nil => .nil
  | _, _, 0, .cons _ t => .cons r t
  | _, _, i + 1, .cons q t => .cons q (Vals.set r i t)
theorem Vals.append : ∀ {xs ys : List V} {us ws : List Value}, Vals xs us → Vals ys ws → Vals (xs ++ ys) (us ++ ws)
  | _, _, _, _, .nil, s => s
  | _, _, _, _, .cons r t, s => .cons r (Vals.append t s)
theorem Vals.take : ∀ {xs : List V} {us : List Value} (n : Nat), Vals xs us → Vals (xs.take n) (us.take n)
  | _, _, 0, _ => .nil
  | _, _, _ + 1, .nil => .nil
  | _, _, n + 1, .cons r t => .cons r (Vals.take n t)
theorem Vals.drop : ∀ {xs : List V} {us : List Value} (n : Nat), Vals xs us → Vals (xs.drop n) (us.drop n)
  | _, _, 0, r => r
  | _, _, _ + 1, .nil => .nil
  | _, _, n + 1, .cons _ t => Vals.drop n t
theorem Vals.none_of : ∀ {xs : List V} {us : List Value} {i : Nat}, Vals xs us → xs[i]? = none → us[i]? = none := fun {xs us i} r e => by
  have h1 := r.length
  have h2 : xs.length ≤ i := List.getElem?_eq_none_iff.mp e
  exact List.getElem?_eq_none_iff.mpr (by omega)
def RelO : Option V → Option Value → Prop
  | some v, some u => RelV v u
  | none, none => True
  | _, _ => False
def KV {κ : Type} : List (κ × V) → List (κ × Value) → Prop := Paired fun (p : κ × V) (q : κ × Value) => p.1 = q.1 ∧ RelV p.2 q.2
/-- a key of a dict (00_mix): an int or a text -/
def kV : Key → V
  | .inl i => .int i
  | .inr x => .str x
/-- what stands at a tracked address -/
inductive HO where
  /-- a list -/
  | lst (xs : List V)
  /-- a tuple (never changes) -/
  | tup (xs : List V)
  /-- a dict whose keys are ints and texts; one whose keys are tuples of ints and texts (the empty one is both) -/
  | dK (kvs : List (Key × V)) | dT (kvs : List (List Key × V))
  /-- a set of ints: its members, its size -/
  | set (S : Int → Bool) (n : Nat)
  /-- an instance of the class at C, its dict at dx, its attributes -/
  | ins (C dx : Addr) (fs : List (Str × V))
  /-- the dict of the instance at x -/
  | own (x : Addr)
  /-- the dict of an exception -/
  | xd (fs : List (Str × V))
  /-- a bound method, f of x -/
  | met (f x : Addr)
  /-- a range object lo, lo + 1, .. below hi -/
  | rng (lo hi : Int)
  /-- a thing that is known to the object (the script; a dict while a loop walks it): read, never written while it is so -/
  | frz (o : Obj) (u : HO)
  /-- a code object's table -/
  | tbl (ps : Array Value)
  /-- any other thing, by what is true of its one object (a def of one's own: SetO a S n := HO.ext fun h => ..) -/
  | ext (φ : Heap → Prop)
abbrev Hp := Addr → Option HO
def upd (H : Hp) (a : Addr) (o : HO) : Hp := fun b => if b = a then some o else H b
theorem upd_same {H : Hp} {a : Addr} {o : HO} : upd H a o a = some o := by unfold upd; rw [if_pos rfl]
theorem upd_ne {H : Hp} {a b : Addr} {o : HO} (h : b ≠ a) : upd H a o b = H b := by unfold upd; rw [if_neg h]
theorem upd_upd {H : Hp} {a : Addr} {o u : HO} : upd (upd H a o) a u = upd H a u := by
  funext b; unfold upd; split <;> rfl
theorem ne_of_none {H : Hp} {a b : Addr} {o : HO} (h : H a = some o) (h' : H b = none) : a ≠ b := by
  intro e; subst e; rw [h] at h'; cases h'
section
variable (P : Program) (w : World)
def ObjOk (H : Hp) (h : Heap) (a : Addr) : HO → Prop
  | .lst xs => xs.length ≤ sizeLine ∧ ∃ (its : List Value) (n : Nat), Vals xs its ∧ h.get? a = some { cls := .type "list", data := .seq its.toArray n }
  | .tup xs => xs.length ≤ sizeLine ∧ ∃ its : List Value, Vals xs its ∧ IsTup h a its.toArray
  | .dK kvs => kvs.length ≤ sizeLine ∧ (a == sysModules) = false ∧ ∃ vs, KV kvs vs ∧ h.DictOf (mixKind P w) a vs
  | .dT kvs => kvs.length ≤ sizeLine ∧ (a == sysModules) = false ∧ ∃ xs : List (List Key × Addr × Value),
      Paired (fun (p : List Key × V) (q : List Key × Addr × Value) => p.1 = q.1 ∧ H q.2.1 = some (.tup (p.1.map kV)) ∧ RelV p.2 q.2.2) kvs xs ∧
      ∃ o es ep, h.get? a = some o ∧ o.ExactDict ∧ o.data = .dict es ep ∧ es.toList = xs.map (entryOfKey (tupleKind (mixKind P w))) ∧ (xs.map (·.1)).Nodup
  | .set S n => h.SetOf (intKind P w) a S n
  | .ins C dx fs => H dx = some (.own a) ∧ fs.length ≤ 1000 ∧ dx ≠ a ∧ h.get? a = some (PySem.W.instObj C dx) ∧
      ∃ mA, h.Ns1 dx mA ∧ (∀ f, RelO (fs.lookup f) (mA f)) ∧ PySem.Within mA (fs.map (·.1))
  | .own _ => ∃ o, h.get? a = some o
  | .xd fs => ∃ mA, h.Ns1 a mA ∧ ∀ f, RelO (fs.lookup f) (mA f)
  | .rng lo hi => ∃ t u v, h.get? a = some { cls := .type "range", data := .fields #[.int lo t, .int hi u, .int 1 v] }
  | .frz o u => h.get? a = some o ∧ ObjOk H h a u
  | .tbl ps => h.get? a = some { cls := .none, data := .fields ps }
  | .met f x => h.get? a = some (PySem.W.methodObj (.ref f) (.ref x))
  | .ext φ => φ h ∧ (∃ o, h.get? a = some o) ∧ ∀ h1 h2 : Heap, φ h1 → (∀ o, h1.get? a = some o → h2.get? a = some o) → φ h2
/-- the abstract heap is held -/
def HOk (H : Hp) (h : Heap) : Prop := ∀ a o, H a = some o → ObjOk P w H h a o
end
section
variable {P : Program} {w : World} {H H' : Hp} {h h' : Heap} {a : Addr} {o : HO}
theorem ObjOk.lt (x : ObjOk P w H h a o) : a < h.objs.size := by
  cases o with
  | lst xs => obtain ⟨_, _, _, _, e⟩ := x; exact Heap.lt_size e
  | tup xs => obtain ⟨_, _, _, p⟩ := x; exact p.lt
  | dK kvs => obtain ⟨_, _, _, _, o, _, _, e, _⟩ := x; exact Heap.lt_size e
  | dT kvs => obtain ⟨_, _, _, _, o, _, _, e, _⟩ := x; exact Heap.lt_size e
  | set S n => obtain ⟨o, _, _, _, e, _⟩ := x; exact Heap.lt_size e
  | ins C dx fs => obtain ⟨_, _, _, e, _⟩ := x; exact Heap.lt_size e
  | own y => obtain ⟨_, e⟩ := x; exact Heap.lt_size e
  | xd fs => obtain ⟨_, ⟨_, _, _, e, _⟩, _⟩ := x; exact Heap.lt_size e
  | rng lo hi => obtain ⟨_, _, _, e⟩ := x; exact Heap.lt_size e
  | frz ob u => obtain ⟨e, _⟩ := x; exact Heap.lt_size e
  | tbl ps => exact Heap.lt_size (show h.get? a = some _ from x)
  | met f y => exact Heap.lt_size (show h.get? a = some _ from x)
  | ext φ => obtain ⟨_, ⟨_, e⟩, _⟩ := x; exact Heap.lt_size e
theorem Paired.mapP {α β : Type} {F G : α → β → Prop} : ∀ {l₁ : List α} {l₂ : List β}, Paired F l₁ l₂ → (∀ a b, F a b → G a b) → Paired G l₁ l₂
  | _, _, .nil, _ => .nil
  | _, _, .cons r t, f => .cons (f _ _ r) (Paired.mapP t f)
/-- what an object's description leans on: its own object, its own dict, the tuples -/
theorem ObjOk.stay (x : ObjOk P w H h a o) (k : ∀ b u, (b = a ∨ H b = some (.own a)) → h.get? b = some u → h'.get? b = some u)
    (ho : ∀ b, H b = some (.own a) → H' b = some (.own a)) (ht : ∀ b xs, H b = some (.tup xs) → H' b = some (.tup xs)) : ObjOk P w H' h' a o := by
  induction o with
  | lst xs => obtain ⟨z, its, n, r, e⟩ := x; exact ⟨z, its, n, r, k _ _ (.inl rfl) e⟩
  | tup xs => obtain ⟨z, its, r, ob, e, c⟩ := x; exact ⟨z, its, r, ob, k _ _ (.inl rfl) e, c⟩
  | dK kvs => obtain ⟨z, y, vs, r, ob, es, ep, e, c⟩ := x; exact ⟨z, y, vs, r, ob, es, ep, k _ _ (.inl rfl) e, c⟩
  | dT kvs =>
    obtain ⟨z, y, xs, r, ob, es, ep, e, c⟩ := x
    exact ⟨z, y, xs, Paired.mapP r fun p q z => ⟨z.1, ht _ _ z.2.1, z.2.2⟩, ob, es, ep, k _ _ (.inl rfl) e, c⟩
  | set S n => obtain ⟨ob, es, ep, t, e, c⟩ := x; exact ⟨ob, es, ep, t, k _ _ (.inl rfl) e, c⟩
  | ins C dx fs =>
    obtain ⟨d, z, ne, e, mA, ⟨od, es, ep, e2, c⟩, r⟩ := x
    exact ⟨ho _ d, z, ne, k _ _ (.inl rfl) e, mA, ⟨od, es, ep, k _ _ (.inr d) e2, c⟩, r⟩
  | own y => obtain ⟨ob, e⟩ := x; exact ⟨ob, k _ _ (.inl rfl) e⟩
  | xd fs => obtain ⟨mA, ⟨od, es, ep, e, c⟩, r⟩ := x; exact ⟨mA, ⟨od, es, ep, k _ _ (.inl rfl) e, c⟩, r⟩
  | rng lo hi => obtain ⟨t, u, v, e⟩ := x; exact ⟨t, u, v, k _ _ (.inl rfl) e⟩
  | frz ob u ih => obtain ⟨e, q⟩ := x; exact ⟨k _ _ (.inl rfl) e, ih q⟩
  | tbl ps =>
    have e : h.get? a = some { cls := .none, data := .fields ps } := x
    show h'.get? a = some { cls := .none, data := .fields ps }
    exact k a _ (.inl rfl) e
  | met f y =>
    have e : h.get? a = some (PySem.W.methodObj (.ref f) (.ref y)) := x
    show h'.get? a = some (PySem.W.methodObj (.ref f) (.ref y))
    exact k a _ (.inl rfl) e
  | ext φ => obtain ⟨p, ⟨o, e⟩, st⟩ := x; exact ⟨st _ _ p fun o q => k _ _ (.inl rfl) q, ⟨o, k _ _ (.inl rfl) e⟩, st⟩
theorem HOk.lt (x : HOk P w H h) (e : H a = some o) : a < h.objs.size := (x a o e).lt
theorem HOk.fresh (x : HOk P w H h) (e : h.objs.size ≤ a) : H a = none := by
  cases q : H a with
  | none => rfl
  | some u => exact absurd (Nat.lt_of_lt_of_le (x.lt q) e) (Nat.lt_irrefl _)
/-- every object of the heap is kept -/
theorem HOk.kept (x : HOk P w H h) (k : ∀ b u, h.get? b = some u → h'.get? b = some u) : HOk P w H h' := fun a o e =>
  (x a o e).stay (fun b u _ q => k b u q) (fun _ q => q) fun _ _ q => q
/-- a new object is laid and tracked -/
theorem HOk.laid (x : HOk P w H h) (k : ∀ b u, h.get? b = some u → h'.get? b = some u) (hp : h.objs.size ≤ a) (new : ObjOk P w (upd H a o) h' a o) : HOk P w (upd H a o) h' := fun b u e => by
  have hn := x.fresh hp
  by_cases hb : b = a
  · subst hb; rw [upd_same] at e; cases e; exact new
  · rw [upd_ne hb] at e
    exact (x b u e).stay (fun c v _ q => k c v q) (fun c q => by rw [upd_ne (ne_of_none q hn)]; exact q) fun c xs q => by rw [upd_ne (ne_of_none q hn)]; exact q
end
/-- what may be read as u: it is u, or a known u -/
def Rd (H : Hp) (a : Addr) (u : HO) : Prop := H a = some u ∨ ∃ o, H a = some (.frz o u)
theorem Rd.of {H : Hp} {a : Addr} {u : HO} (h : H a = some u) : Rd H a u := .inl h
theorem Rd.ok {P : Program} {w : World} {H : Hp} {h : Heap} {a : Addr} {u : HO} (r : Rd H a u) (x : HOk P w H h) : ObjOk P w H h a u := by
  rcases r with r | ⟨o, r⟩
  · exact x a u r
  · obtain ⟨_, q⟩ := x a _ r
    exact q
/-- what may be written -/
def Mut : Option HO → Prop
  | some (.lst _) => True
  | some (.dK _) => True
  | some (.dT _) => True
  | some (.set _ _) => True
  | some (.ins _ _ _) => True
  | some (.ext _) => True
  | _ => False
section
variable {P : Program} {w : World} {H : Hp} {h h' : Heap} {x e : Addr} {o' : HO}
/-- the object at e is changed: x itself, or the dict of the instance x -/
theorem HOk.write (ok : HOk P w H h) (mu : Mut (H x)) (he : e = x ∨ H e = some (.own x)) (k : ∀ b u, b ≠ e → h.get? b = some u → h'.get? b = some u) (heo : ∃ u, h'.get? e = some u)
    (new : ObjOk P w (upd H x o') h' x o') : HOk P w (upd H x o') h' := fun b u q => by
  have nown : ∀ c y, H c = some (.own y) → c ≠ x := fun c y r z => by subst z; rw [r] at mu; exact mu
  have ntup : ∀ c xs, H c = some (.tup xs) → c ≠ x := fun c xs r z => by subst z; rw [r] at mu; exact mu
  by_cases hb : b = x
  · subst hb; rw [upd_same] at q; cases q; exact new
  · rw [upd_ne hb] at q
    by_cases hbe : b = e
    · have q' : H b = some (.own x) := by
        rcases he with z | z
        · exact absurd (hbe.trans z) hb
        · rw [hbe]; exact z
      rw [q] at q'; cases q'
      obtain ⟨v, hv⟩ := heo
      exact ⟨v, by rw [hbe]; exact hv⟩
    · refine (ok b u q).stay (fun c v hc r => k c v ?_ r) (fun c r => by rw [upd_ne (nown c b r)]; exact r) fun c xs r => by rw [upd_ne (ntup c xs r)]; exact r
      rcases hc with rfl | hc
      · exact hbe
      · rintro rfl
        rcases he with z | z
        · exact nown c b hc z
        · rw [hc] at z; cases z; exact hb rfl
end
structure Un (fs ex : List Addr) (H H' : Hp) (h h' : Heap) : Prop where
  keep : ∀ b o, h.get? b = some o → H b = none → b ∉ fs → b ∉ ex → h'.get? b = some o
  slot : ∀ b o, h.get? b = some o → H b = none → b ∈ fs → b ∉ ex → ∃ sl, h'.get? b = some { o with slots := sl }
  free : ∀ b o, h.get? b = some o → H b = none → b ∉ ex → H' b = none
  there : ∀ b o, h.get? b = some o → b ∉ ex → ∃ o', h'.get? b = some o'
  tups : ∀ b xs, H b = some (.tup xs) → H' b = some (.tup xs)
  frzs : ∀ b o u, H b = some (.frz o u) → H' b = some (.frz o u)
  tbls : ∀ b ps, H b = some (.tbl ps) → ∃ more, H' b = some (.tbl (ps ++ more))
section
variable {fs fs' ex ex' : List Addr} {H H1 H2 : Hp} {h h1 h2 h' : Heap} {a x e : Addr} {o : HO}
theorem Un.any (u : Un fs ex H H1 h h1) {b : Addr} {ob : Obj} (q : h.get? b = some ob) (n : H b = none) (hx : b ∉ ex) : ∃ sl, h1.get? b = some { ob with slots := sl } := by
  by_cases hb : b ∈ fs
  · exact u.slot b ob q n hb hx
  · exact ⟨ob.slots, u.keep b ob q n hb hx⟩
theorem Un.trans (a : Un fs ex H H1 h h1) (b : Un fs ex H1 H2 h1 h2) : Un fs ex H H2 h h2 where
  keep := fun c ob q n hc hx => b.keep c ob (a.keep c ob q n hc hx) (a.free c ob q n hx) hc hx
  slot := fun c ob q n hc hx => by
    obtain ⟨sl, e1⟩ := a.slot c ob q n hc hx
    obtain ⟨sl', e2⟩ := b.slot c _ e1 (a.free c ob q n hx) hc hx
    exact ⟨sl', e2⟩
  free := fun c ob q n hx => by
    obtain ⟨o', e1⟩ := a.there c ob q hx
    exact b.free c o' e1 (a.free c ob q n hx) hx
  there := fun c ob q hx => by
    obtain ⟨o', e1⟩ := a.there c ob q hx
    exact b.there c o' e1 hx
  tups := fun c xs q => b.tups c xs (a.tups c xs q)
  frzs := fun c ob xs q => b.frzs c ob xs (a.frzs c ob xs q)
  tbls := fun c ps q => by
    obtain ⟨m1, e1⟩ := a.tbls c ps q
    obtain ⟨m2, e2⟩ := b.tbls c _ e1
    exact ⟨m1 ++ m2, by rw [e2, Array.append_assoc]⟩
theorem Un.kept (k : ∀ b u, h.get? b = some u → h'.get? b = some u) : Un fs ex H H h h' :=
  ⟨fun b ob q _ _ _ => k b ob q, fun b ob q _ _ _ => ⟨ob.slots, k b ob q⟩, fun _ _ _ n _ => n, fun b ob q _ => ⟨ob, k b ob q⟩, fun _ _ q => q, fun _ _ _ q => q, fun _ ps q => ⟨#[], by rw [q]; simp⟩⟩
theorem Un.refl : Un fs ex H H h h := Un.kept fun _ _ q => q
theorem Un.laid (k : ∀ b u, h.get? b = some u → h'.get? b = some u) (hp : h.objs.size ≤ a) (hn : H a = none) : Un fs ex H (upd H a o) h h' where
  keep := fun b u q _ _ _ => k b u q
  slot := fun b u q _ _ _ => ⟨u.slots, k b u q⟩
  free := fun b u q n _ => by rw [upd_ne (Nat.ne_of_lt (Nat.lt_of_lt_of_le (Heap.lt_size q) hp))]; exact n
  there := fun b u q _ => ⟨u, k b u q⟩
  tups := fun b xs q => by rw [upd_ne (ne_of_none q hn)]; exact q
  frzs := fun b u xs q => by rw [upd_ne (ne_of_none q hn)]; exact q
  tbls := fun b ps q => ⟨#[], by rw [upd_ne (ne_of_none q hn), q]; simp⟩
theorem Un.write (mu : Mut (H x)) (he : e = x ∨ H e = some (.own x)) (k : ∀ b u, b ≠ e → h.get? b = some u → h'.get? b = some u) (heo : ∃ u, h'.get? e = some u) : Un fs ex H (upd H x o) h h' := by
  have hx : ∀ b, H b = none → b ≠ x := fun b n z => by subst z; rw [n] at mu; exact mu
  have hb : ∀ b, H b = none → b ≠ e := fun b n z => by
    subst z
    rcases he with r | r
    · exact hx b n r
    · rw [n] at r; cases r
  have hm : ∀ b u, H b = some u → ¬ Mut (some u) → b ≠ x := fun b u q nm z => by subst z; rw [q] at mu; exact nm mu
  refine ⟨fun b u q n _ _ => k b u (hb b n) q, fun b u q n _ _ => ⟨u.slots, k b u (hb b n) q⟩, fun b u q n _ => by rw [upd_ne (hx b n)]; exact n, fun b u q _ => ?_,
    fun b xs q => by rw [upd_ne (hm b _ q fun z => z)]; exact q, fun b u xs q => by rw [upd_ne (hm b _ q fun z => z)]; exact q, fun b ps q => ⟨#[], by rw [upd_ne (hm b _ q fun z => z), q]; simp⟩⟩
  by_cases hbe : b = e
  · subst hbe; exact heo
  · exact ⟨u, k b u hbe q⟩
theorem Un.mono (u : Un fs ex H H1 h h1) (hs : ∀ b ∈ fs, b ∈ fs') (hx : ∀ b ∈ ex, b ∈ ex') : Un fs' ex' H H1 h h1 :=
  ⟨fun b ob q n hb he => u.keep b ob q n (fun z => hb (hs b z)) fun z => he (hx b z), fun _ _ q n _ he => u.any q n fun z => he (hx _ z), fun b ob q n he => u.free b ob q n fun z => he (hx b z), fun b ob q he => u.there b ob q fun z => he (hx b z), u.tups, u.frzs, u.tbls⟩
end
def trk (h : Heap) (H : Hp) : List Addr := (List.range h.objs.size).filter fun a => (H a).isSome
def hidT (h : Heap) (H : Hp) : Heap := PySem.W.hideAll h (trk h H)
theorem hidT_size (h : Heap) (H : Hp) : (hidT h H).objs.size = h.objs.size := PySem.W.hideAll_size _ _
theorem hidT_get {h : Heap} {H : Hp} {b : Addr} {o : Obj} (e : h.get? b = some o) (n : H b = none) : (hidT h H).get? b = some o :=
  PySem.W.hideAll_get _ e fun hm => by
    have q : (H b).isSome = true := (List.mem_filter.mp hm).2
    rw [n] at q; simp at q
theorem of_hidT {h : Heap} {H : Hp} {b : Addr} {o : Obj} (e : (hidT h H).get? b = some o) : h.get? b = some o ∧ H b = none := by
  have e' : h.get? b = some o := PySem.W.of_hideAll (trk h H) e
  refine ⟨e', ?_⟩
  cases q : H b with
  | none => rfl
  | some x =>
    have hm : b ∈ trk h H := List.mem_filter.mpr ⟨List.mem_range.mpr (Heap.lt_size e'), by simp [q]⟩
    have z : (hidT h H).get? b = none := PySem.W.hideAll_none (trk h H) hm
    rw [z] at e; cases e
def allNews (g h : Heap) (L : Addr) : List (Addr × Obj) := (List.range h.objs.size).filterMap fun a => if a = L ∨ (g.get? a).isSome = true then none else (h.get? a).map fun o => (a, o)
def rest (g h : Heap) (L d : Addr) : List (Addr × Obj) := (allNews g h L).filter fun p => decide (p.1 ≠ d)
end L2
namespace L2
open PySem PySem.Spec PyProof.Rows
/-- the module's facts, over the base: the heap at the law's entry without what is tracked there -/
structure Mod (K : PySem.W.Frag) (mg : Str → Option Value) (base : Heap) : Prop where
  kin : K.In base
  glob : base.Ns mainGlobals mg
  blt : ∃ mb, base.Ns builtinsNs mb ∧ ∀ x : Str, x ≠ "__name__" → mb x = bootBuiltins x
  nolimit : base.NoLimit
/-- the context: a def's body (or a comprehension's block) running. base: fixed through the whole law; s₀, H₀: the entry; outer: the frames whose slots others may change (a def's callers); stack: all frames that run;
   ex: iterators that were made ahead of the entry and are walked here (a comprehension's); fn: the names whose cells were made at the entry (a def: all; a comprehension's block: its own); calm: not within an except suite; pn: pins that every state bears; xe: what is wanted of an exception that leaves the code -/
structure Cx where
  prog : Program
  w : World
  K : PySem.W.Frag
  mg : Str → Option Value
  base : Heap
  A : Around
  N : List Str
  s₀ : Shared
  H₀ : Hp
  env : Env
  outer : List Env
  stack : List Env
  ex : List Addr
  fn : Str → Bool
  calm : Bool
  pn : List (Addr × Obj)
  xe : Value → Shared → Prop
/-- the callers' frames -/
def frs (l : List Env) : List Addr := l.filterMap (·.frame)
abbrev Cx.fs (X : Cx) : List Addr := frs X.outer
def Vis (sc : Scope) (x : Str) : Prop := sc.names.lookup x = some .local ∨ sc.names.lookup x = some .cell ∨ sc.names.lookup x = some .free
def Loc (sc : Scope) (x : Str) : Prop := sc.names.lookup x = some .local ∨ sc.names.lookup x = some .cell
def Look (env : Env) (h : Heap) (m : Str → Option Value) (x : Str) (u : Value) : Prop :=
  (env.kindOf x = some .local ∧ m x = some u) ∨ ((env.kindOf x = some .cell ∨ env.kindOf x = some .free) ∧ ∃ c, env.cells.lookup x = some c ∧ h.IsCell c (some u))
structure Cx.Ok (X : Cx) : Prop where
  mod : Mod X.K X.mg X.base
  kind : X.env.scope.kind = .function
  glob : X.env.globals = mainGlobals
  blt : X.env.builtins = builtinsNs
  above : X.s₀.heap.objs.size ≤ X.env.locals
  inj : ∀ x y c, X.env.cells.lookup x = some c → X.env.cells.lookup y = some c → x = y
  has : ∀ x, (X.env.kindOf x = some .cell ∨ X.env.kindOf x = some .free) → ∃ c, X.env.cells.lookup x = some c
  cab : ∀ x c, X.fn x = true → X.env.cells.lookup x = some c → X.s₀.heap.objs.size ≤ c
  hd : X.calm = true → X.A.handled = none
  frames : X.A.frames = some X.stack
  stk : X.stack = X.outer ∨ (X.stack = X.env :: X.outer ∧ X.env.frame = some X.env.locals)
  exf : ∀ b ∈ X.ex, b ≠ X.env.locals ∧ ∀ x c, X.env.cells.lookup x = some c → c ≠ b
  bs : ∀ b o, X.base.get? b = some o → X.s₀.heap.get? b = some o ∧ X.H₀ b = none
  bsz : X.base.objs.size ≤ X.s₀.heap.objs.size
  noex : ∀ b o, X.base.get? b = some o → b ∉ X.ex
  exfs : ∀ b ∈ X.ex, b ∉ X.fs
  funs : X.s₀.heap.FunFrames X.base X.outer
  frf : ∀ b ∈ X.fs, X.H₀ b = none
structure Inv (X : Cx) (pins : List (Addr × Obj)) (σ : List (Option V)) (H : Hp) (s : Shared) : Prop where
  ok : X.Ok
  os : s.os = X.s₀.os
  bare : AllBare s.gens
  base : Un X.fs X.ex X.H₀ H X.s₀.heap s.heap
  loc : ∃ m, s.heap.Ns X.env.locals m ∧ ∀ (i : Nat) (x : Str) (v : V), X.N[i]? = some x → σ[i]? = some (some v) → Vis X.env.scope x → ∃ u, RelV v u ∧ Look X.env s.heap m x u
  cell : ∀ x c, X.env.cells.lookup x = some c → ∃ v, s.heap.IsCell c v
  free : H X.env.locals = none
  freeC : ∀ x c, X.env.cells.lookup x = some c → H c = none
  pin : ∀ p ∈ X.pn ++ pins, s.heap.get? p.1 = some p.2 ∧ H p.1 = none ∧ p.1 ≠ X.env.locals ∧ p.1 ∉ X.fs ∧ ∀ v, p.2.data ≠ .cell v
  hok : HOk X.prog X.w H s.heap
  len : σ.length = X.N.length
section
variable {X : Cx} {pins : List (Addr × Obj)} {σ : List (Option V)} {H H' : Hp} {s : Shared} {h' : Heap}
theorem Cx.Ok.nofr (ok : X.Ok) {b : Addr} {o : Obj} (e : X.base.get? b = some o) : b ∉ X.fs := fun hb => by
  have := (ok.funs.mem hb).1
  rw [e] at this; cases this
theorem Inv.bs (I : Inv X pins σ H s) : ∀ b o, X.base.get? b = some o → s.heap.get? b = some o ∧ H b = none := fun b o e =>
  ⟨I.base.keep b o (I.ok.bs b o e).1 (I.ok.bs b o e).2 (I.ok.nofr e) (I.ok.noex b o e), I.base.free b o (I.ok.bs b o e).1 (I.ok.bs b o e).2 (I.ok.noex b o e)⟩
theorem Inv.bk (I : Inv X pins σ H s) : ∀ b o, X.base.get? b = some o → s.heap.get? b = some o := fun b o e => (I.bs b o e).1
theorem Inv.mod (I : Inv X pins σ H s) : Mod X.K X.mg X.base := I.ok.mod
theorem Inv.kIn (I : Inv X pins σ H s) : X.K.In s.heap := I.ok.mod.kin.keeps I.bk
theorem Inv.nolimit (I : Inv X pins σ H s) : s.heap.NoLimit := I.ok.mod.nolimit.keeps I.bk
/-- the frame over the base: for OpenK's rules (K.In X.base is I.mod.kin) -/
theorem Inv.fr (I : Inv X pins σ H s) : ∃ m, Fr X.base X.env.locals s.heap m :=
  let ⟨m, hn, _⟩ := I.loc
  ⟨m, hn, I.bk, Nat.le_trans I.ok.bsz I.ok.above⟩
theorem Inv.lt (I : Inv X pins σ H s) : X.env.locals < s.heap.objs.size := let ⟨_, hn, _⟩ := I.loc; hn.lt
theorem Inv.sz (I : Inv X pins σ H s) : X.s₀.heap.objs.size ≤ s.heap.objs.size := Nat.le_trans I.ok.above (Nat.le_of_lt I.lt)
theorem Inv.nofs (I : Inv X pins σ H s) {a : Addr} (h : s.heap.objs.size ≤ a) : a ∉ X.fs := fun hb => by
  obtain ⟨_, o, ho, _⟩ := I.ok.funs.mem hb
  exact absurd (Nat.lt_of_lt_of_le (Heap.lt_size ho) (Nat.le_trans I.sz h)) (Nat.lt_irrefl _)
theorem Inv.cne (I : Inv X pins σ H s) : ∀ x c, X.env.cells.lookup x = some c → c ≠ X.env.locals := fun x c e z => by
  obtain ⟨v, o, ho, hd⟩ := I.cell x c e
  obtain ⟨m, ⟨o', es, ep, ho', hd', _⟩, _⟩ := I.loc
  rw [z, ho'] at ho; cases ho; rw [hd'] at hd; cases hd
theorem Inv.funs (I : Inv X pins σ H s) : s.heap.FunFrames X.base X.outer := by
  have all : ∀ (l : List Env), (∀ b ∈ frs l, b ∈ X.fs) → X.s₀.heap.FunFrames X.base l → s.heap.FunFrames X.base l := by
    intro l
    induction l with
    | nil => intro _ _; trivial
    | cons env r ih =>
      intro hs hl
      obtain ⟨hk, ⟨L, o, hf, hn, ho, hd⟩, hr⟩ := hl
      have hL : L ∈ X.fs := hs L (by unfold frs; rw [List.filterMap_cons, hf]; exact List.mem_cons_self)
      obtain ⟨sl, e⟩ := I.base.slot L o ho (I.ok.frf L hL) hL fun z => I.ok.exfs L z hL
      exact ⟨hk, ⟨L, _, hf, hn, e, hd⟩, ih (fun b hb => hs b (by unfold frs; rw [List.filterMap_cons, hf]; exact List.mem_cons_of_mem _ hb)) hr⟩
  exact all X.outer (fun _ hb => hb) I.ok.funs
/-- the frames that run, for a call -/
theorem Inv.stack (I : Inv X pins σ H s) : s.heap.FunFrames X.base X.stack := by
  rcases I.ok.stk with e | ⟨e, hf⟩
  · rw [e]; exact I.funs
  · rw [e]
    obtain ⟨m, hn, _⟩ := I.loc
    refine .cons (by rw [I.ok.kind]; decide) hf hn ?_ I.funs
    exact Heap.get?_none_of_le (Nat.le_trans I.ok.bsz I.ok.above)
theorem Inv.stkSub (I : Inv X pins σ H s) : ∀ b ∈ frs X.stack, b ∈ X.env.locals :: X.fs := fun b hb => by
  rcases I.ok.stk with e | ⟨e, hf⟩
  · rw [e] at hb; exact List.mem_cons_of_mem _ hb
  · rw [e] at hb
    unfold frs at hb
    rw [List.filterMap_cons, hf] at hb
    exact hb
theorem Inv.stkFree (I : Inv X pins σ H s) : ∀ b ∈ frs X.stack, H b = none := fun b hb => by
  rcases List.mem_cons.mp (I.stkSub b hb) with e | hb
  · rw [e]; exact I.free
  · obtain ⟨_, o, ho, _⟩ := I.ok.funs.mem hb
    exact I.base.free b o ho (I.ok.frf b hb) fun z => I.ok.exfs b z hb
/-- THE STEP: the untracked objects but the frame and the records at ch are kept (the callers' frames up to slots), the frame's map is kept, the new abstract heap is held -/
theorem Inv.step {g' : Array GenState} {t' : Nat} {d' : Drawn} {ch : List Addr} (I : Inv X pins σ H s)
    (hch : ∀ b ∈ ch, (b ∈ X.ex ∨ X.s₀.heap.objs.size ≤ b) ∧ b ≠ X.env.locals ∧ (∀ x c, X.env.cells.lookup x = some c → c ≠ b) ∧ ∀ p ∈ X.pn ++ pins, p.1 ≠ b)
    (keep : ∀ b o, b ≠ X.env.locals → b ∉ X.fs → b ∉ ch → s.heap.get? b = some o → H b = none → h'.get? b = some o)
    (slot : ∀ b o, b ≠ X.env.locals → b ∈ X.fs → b ∉ ch → s.heap.get? b = some o → H b = none → ∃ sl, h'.get? b = some { o with slots := sl }) (free : ∀ b o, b ∉ ch → s.heap.get? b = some o → H b = none → H' b = none)
    (there : ∀ b o, b ∉ ch → s.heap.get? b = some o → ∃ o', h'.get? b = some o')
    (tups : ∀ b xs, H b = some (.tup xs) → H' b = some (.tup xs)) (frzs : ∀ b o u, H b = some (.frz o u) → H' b = some (.frz o u)) (tbls : ∀ b ps, H b = some (.tbl ps) → ∃ more, H' b = some (.tbl (ps ++ more)))
    (ns : ∀ m, s.heap.Ns X.env.locals m → h'.Ns X.env.locals m) (hok : HOk X.prog X.w H' h') (hg : AllBare g') :
    Inv X pins σ H' { s with heap := h', gens := g', drawn := d', toks := t' } := by
  have neL : ∀ b o, X.s₀.heap.get? b = some o → b ≠ X.env.locals := fun b o e => Nat.ne_of_lt (Nat.lt_of_lt_of_le (Heap.lt_size e) I.ok.above)
  have neC : ∀ b o, X.s₀.heap.get? b = some o → b ∉ X.ex → b ∉ ch := fun b o e hx hb => by
    rcases (hch b hb).1 with z | z
    · exact hx z
    · exact absurd (Nat.lt_of_lt_of_le (Heap.lt_size e) z) (Nat.lt_irrefl _)
  have cellK : ∀ x c, X.env.cells.lookup x = some c → ∀ v, s.heap.IsCell c v → h'.IsCell c v := fun x c e v ⟨o, ho, hd⟩ => by
    have nch : c ∉ ch := fun z => (hch c z).2.2.1 x c e rfl
    by_cases hc : c ∈ X.fs
    · obtain ⟨sl, q⟩ := slot c o (I.cne x c e) hc nch ho (I.freeC x c e)
      exact ⟨_, q, hd⟩
    · exact ⟨o, keep c o (I.cne x c e) hc nch ho (I.freeC x c e), hd⟩
  refine ⟨I.ok, I.os, hg, ⟨fun b o e n hb hx => ?_, fun b o e n hb hx => ?_, fun b o e n hx => ?_, fun b o e hx => ?_, fun b xs e => tups b xs (I.base.tups b xs e), fun b o xs e => frzs b o xs (I.base.frzs b o xs e), fun b ps e => ?_⟩, ?_, fun x c e => ?_, ?_, fun x c e => ?_, fun p hp => ?_, hok, I.len⟩
  · exact keep b o (neL b o e) hb (neC b o e hx) (I.base.keep b o e n hb hx) (I.base.free b o e n hx)
  · obtain ⟨sl, e1⟩ := I.base.slot b o e n hb hx
    obtain ⟨sl', e2⟩ := slot b _ (neL b o e) hb (neC b o e hx) e1 (I.base.free b o e n hx)
    exact ⟨sl', e2⟩
  · obtain ⟨o', e1⟩ := I.base.there b o e hx
    exact free b o' (neC b o e hx) e1 (I.base.free b o e n hx)
  · obtain ⟨o', e1⟩ := I.base.there b o e hx
    exact there b o' (neC b o e hx) e1
  · obtain ⟨m1, e1⟩ := I.base.tbls b ps e
    obtain ⟨m2, e2⟩ := tbls b _ e1
    exact ⟨m1 ++ m2, by rw [e2, Array.append_assoc]⟩
  · obtain ⟨m, hn, hl⟩ := I.loc
    refine ⟨m, ns m hn, fun i x v e1 e2 e3 => ?_⟩
    obtain ⟨u, r, l⟩ := hl i x v e1 e2 e3
    refine ⟨u, r, ?_⟩
    rcases l with l | ⟨k, c, e, z⟩
    · exact .inl l
    · exact .inr ⟨k, c, e, cellK x c e _ z⟩
  · obtain ⟨v, z⟩ := I.cell x c e
    exact ⟨v, cellK x c e v z⟩
  · obtain ⟨m, ⟨o, _, _, ho, _⟩, _⟩ := I.loc
    exact free _ o (fun z => (hch _ z).2.1 rfl) ho I.free
  · obtain ⟨v, o, ho, hd⟩ := I.cell x c e
    exact free c o (fun z => (hch c z).2.2.1 x c e rfl) ho (I.freeC x c e)
  · obtain ⟨e, n, ne, nf, d⟩ := I.pin p hp
    have nch : p.1 ∉ ch := fun z => (hch p.1 z).2.2.2 p hp rfl
    exact ⟨keep p.1 p.2 ne nf nch e n, free p.1 p.2 nch e n, ne, nf, d⟩
/-- .. where the frame's own object is kept too -/
theorem Inv.un {t' : Nat} (I : Inv X pins σ H s) (u : Un X.fs [] H H' s.heap h') (hok : HOk X.prog X.w H' h') : Inv X pins σ H' { s with heap := h', toks := t' } := by
  obtain ⟨m, ⟨o, es, ep, ho, r⟩, _⟩ := id I.loc
  obtain ⟨sl, hL⟩ := u.any ho I.free (by simp)
  exact I.step (g' := s.gens) (d' := s.drawn) (ch := []) (fun _ z => nomatch z) (fun b o _ hb _ e n => u.keep b o e n hb (by simp)) (fun b o _ hb _ e n => u.slot b o e n hb (by simp)) (fun b o _ e n => u.free b o e n (by simp)) (fun b o _ e => u.there b o e (by simp)) u.tups u.frzs u.tbls (fun m' hm => by
    obtain ⟨o', es', ep', ho', r'⟩ := hm
    rw [ho] at ho'; cases ho'
    exact ⟨_, es', ep', hL, r'⟩) hok I.bare
/-- behind a call (or a comprehension's block): the slots of this frame may have changed too, the records at ch may have turned -/
theorem Inv.call {g' : Array GenState} {t' : Nat} {d' : Drawn} {ch : List Addr} (I : Inv X pins σ H s) (u : Un (frs X.stack) ch H H' s.heap h') (hok : HOk X.prog X.w H' h') (hg : AllBare g')
    (hch : ∀ b ∈ ch, (b ∈ X.ex ∨ X.s₀.heap.objs.size ≤ b) ∧ b ≠ X.env.locals ∧ (∀ x c, X.env.cells.lookup x = some c → c ≠ b) ∧ ∀ p ∈ X.pn ++ pins, p.1 ≠ b) :
    Inv X pins σ H' { s with heap := h', gens := g', drawn := d', toks := t' } := by
  obtain ⟨m, ⟨o, es, ep, ho, r⟩, _⟩ := id I.loc
  obtain ⟨sl, hL⟩ := u.any ho I.free fun z => (hch _ z).2.1 rfl
  exact I.step (ch := ch) hch (fun b o hL hb hc e n => u.keep b o e n (fun z => (List.mem_cons.mp (I.stkSub b z)).elim hL hb) hc) (fun b o _ _ hc e n => u.any e n hc) (fun b o hc e n => u.free b o e n hc) (fun b o hc e => u.there b o e hc) u.tups u.frzs u.tbls (fun m' hm => by
    obtain ⟨o', es', ep', ho', r'⟩ := hm
    rw [ho] at ho'; cases ho'
    exact ⟨_, es', ep', hL, r'⟩) hok hg
/-- an untracked record of ours (an iterator) has turned -/
theorem Inv.turned {t' : Nat} {it : Addr} (I : Inv X pins σ H s) (k : ∀ b o, b ≠ it → s.heap.get? b = some o → h'.get? b = some o) (hn : H it = none) (hL : it ≠ X.env.locals)
    (h1 : it ∈ X.ex ∨ X.s₀.heap.objs.size ≤ it) (h2 : ∀ x c, X.env.cells.lookup x = some c → c ≠ it) (h3 : ∀ p ∈ X.pn ++ pins, p.1 ≠ it) : Inv X pins σ H { s with heap := h', toks := t' } := by
  have nit : ∀ b u, H b = some u → b ≠ it := fun b u e z => by rw [z, hn] at e; cases e
  refine I.step (g' := s.gens) (d' := s.drawn) (ch := [it]) (fun b hb => ?_) (fun b o _ _ hc e _ => k b o (fun z => hc (by simp [z])) e) (fun b o _ _ hc e _ => ⟨o.slots, k b o (fun z => hc (by simp [z])) e⟩) (fun _ _ _ _ n => n)
    (fun b o hc e => ⟨o, k b o (fun z => hc (by simp [z])) e⟩) (fun _ _ e => e) (fun _ _ _ e => e) (fun b ps e => ⟨#[], by rw [e]; simp⟩) (fun m hm => ?_) (fun b u e => ?_) I.bare
  · have e : b = it := by simpa using hb
    subst e
    exact ⟨h1, hL, h2, h3⟩
  · obtain ⟨o, es, ep, ho, r⟩ := hm
    exact ⟨o, es, ep, k _ o (Ne.symm hL) ho, r⟩
  · refine (I.hok b u e).stay (fun c v hc q => k c v ?_ q) (fun _ q => q) fun _ _ q => q
    rcases hc with z | z
    · rw [z]; exact nit b u e
    · exact nit c _ z
theorem Inv.tok (I : Inv X pins σ H s) (t : Nat) : Inv X pins σ H { s with toks := t } := I.un (h' := s.heap) (t' := t) Un.refl I.hok
/-- all objects kept -/
theorem Inv.kept {t' : Nat} (I : Inv X pins σ H s) (k : ∀ b u, s.heap.get? b = some u → h'.get? b = some u) : Inv X pins σ H { s with heap := h', toks := t' } := I.un (Un.kept k) (I.hok.kept k)
/-- a new object laid and tracked -/
theorem Inv.laid {a : Addr} {o : HO} {t' : Nat} (I : Inv X pins σ H s) (k : ∀ b u, s.heap.get? b = some u → h'.get? b = some u) (hp : s.heap.objs.size ≤ a) (new : ObjOk X.prog X.w (upd H a o) h' a o) :
    Inv X pins σ (upd H a o) { s with heap := h', toks := t' } := I.un (Un.laid k hp (I.hok.fresh hp)) (I.hok.laid k hp new)
/-- an object written -/
theorem Inv.write {x e : Addr} {o : HO} {t' : Nat} (I : Inv X pins σ H s) (mu : Mut (H x)) (he : e = x ∨ H e = some (.own x)) (k : ∀ b u, b ≠ e → s.heap.get? b = some u → h'.get? b = some u) (heo : ∃ u, h'.get? e = some u)
    (new : ObjOk X.prog X.w (upd H x o) h' x o) : Inv X pins σ (upd H x o) { s with heap := h', toks := t' } := I.un (Un.write mu he k heo) (I.hok.write mu he k heo new)
/-- forgetting slots, pins -/
theorem Inv.weak {σ' : List (Option V)} (I : Inv X pins σ H s) (hl : σ'.length = σ.length) (w : ∀ (i : Nat) v, σ'[i]? = some (some v) → σ[i]? = some (some v)) : Inv X pins σ' H s :=
  ⟨I.ok, I.os, I.bare, I.base, let ⟨m, hn, hl'⟩ := I.loc; ⟨m, hn, fun i x v e1 e2 e3 => hl' i x v e1 (w i v e2) e3⟩, I.cell, I.free, I.freeC, I.pin, I.hok, hl.trans I.len⟩
theorem Inv.pins_of {pins' : List (Addr × Obj)} (I : Inv X pins σ H s) (h : ∀ p ∈ pins', s.heap.get? p.1 = some p.2 ∧ H p.1 = none ∧ p.1 ≠ X.env.locals ∧ p.1 ∉ X.fs ∧ ∀ v, p.2.data ≠ .cell v) : Inv X pins' σ H s :=
  ⟨I.ok, I.os, I.bare, I.base, I.loc, I.cell, I.free, I.freeC, fun p hp => (List.mem_append.mp hp).elim (fun z => I.pin p (List.mem_append_left _ z)) (h p), I.hok, I.len⟩
theorem nodup_ix {N : List Str} (hN : N.Nodup) {i j : Nat} {x : Str} (a : N[i]? = some x) (b : N[j]? = some x) : i = j := by
  obtain ⟨h1, e1⟩ := List.getElem?_eq_some_iff.mp a
  obtain ⟨h2, e2⟩ := List.getElem?_eq_some_iff.mp b
  exact (List.getElem_inj hN).mp (e1.trans e2.symm)
/-- a name is stored; what changed -/
theorem store_ok2 {M : Model} {A : Around} {E : Value → Shared → Prop} {i : Nat} {x : Str} {v : V} {u : Value} {Q : Unit → Shared → Prop} (I : Inv X pins σ H s) (hN : X.N.Nodup) (hi : X.N[i]? = some x) (hx : Loc X.env.scope x) (r : RelV v u)
    (h : ∀ s', Inv X pins (σ.set i (some v)) H s' → (∃ a, Heap.SameBut a s.heap s'.heap ∧ (a = X.env.locals ∨ X.env.cells.lookup x = some a)) → Q () s') (hf : X.fn x = true ∨ X.env.scope.names.lookup x = some .local := by first | exact .inl rfl | exact .inr rfl | assumption) : wpAny M A (storeName X.env x u) Q E s := by
  obtain ⟨m, hn, hl⟩ := id I.loc
  have hcls : (X.env.scope.kind == .class || (X.env.scope.kind == .module && X.env.locals != X.env.globals)) = false := by rw [I.ok.kind]; rfl
  have hiσ : i < σ.length := by rw [I.len]; exact (List.getElem?_eq_some_iff.mp hi).1
  have cne := I.cne
  have tracked : ∀ {a : Addr} {h' : Heap}, (∃ o, s.heap.get? a = some o ∧ H a = none) → Heap.SameBut a s.heap h' → HOk X.prog X.w H h' := fun {a h'} ha hs b ob e => by
    obtain ⟨_, _, hfree⟩ := ha
    refine (I.hok b ob e).stay (fun c w' hc q => (hs.2 c ?_).trans q) (fun _ q => q) fun _ _ q => q
    rintro rfl
    rcases hc with rfl | hc
    · rw [hfree] at e; cases e
    · rw [hfree] at hc; cases hc
  rcases hx with hk | hk
  · refine wpAny_storeName_local hk hn (fun h' hn' hs => ?_) hcls
    obtain ⟨oL, _, _, hoL, _⟩ := id hn
    refine h _ ⟨I.ok, I.os, I.bare, ⟨fun b o e n hb hx => ?_, fun b o e n hb hx => ?_, I.base.free, fun b o e hx => ?_, I.base.tups, I.base.frzs, I.base.tbls⟩, ⟨_, hn', fun j y v' e1 e2 e3 => ?_⟩, fun y c e => ?_, I.free, I.freeC, fun p hp => ?_, tracked ⟨oL, hoL, I.free⟩ hs, by simpa using I.len⟩ ⟨_, hs, .inl rfl⟩
    · exact (hs.2 b (Nat.ne_of_lt (Nat.lt_of_lt_of_le (Heap.lt_size e) I.ok.above))).trans (I.base.keep b o e n hb hx)
    · obtain ⟨sl, e1⟩ := I.base.slot b o e n hb hx
      exact ⟨sl, (hs.2 b (Nat.ne_of_lt (Nat.lt_of_lt_of_le (Heap.lt_size e) I.ok.above))).trans e1⟩
    · obtain ⟨o', e1⟩ := I.base.there b o e hx
      exact ⟨o', (hs.2 b (Nat.ne_of_lt (Nat.lt_of_lt_of_le (Heap.lt_size e) I.ok.above))).trans e1⟩
    · by_cases hj : j = i
      · subst hj
        rw [hi] at e1; cases e1
        rw [List.getElem?_set_self hiσ] at e2
        cases e2
        exact ⟨u, r, .inl ⟨hk, by simp⟩⟩
      · rw [List.getElem?_set_ne (Ne.symm hj)] at e2
        obtain ⟨u', r', q⟩ := hl j y v' e1 e2 e3
        refine ⟨u', r', ?_⟩
        rcases q with ⟨k, e⟩ | ⟨k, c, e, z⟩
        · refine .inl ⟨k, ?_⟩
          have : y ≠ x := fun e => hj (nodup_ix hN e1 (e ▸ hi))
          simp [this, e]
        · exact .inr ⟨k, c, e, z.sameBut hs (cne y c e)⟩
    · obtain ⟨w', z⟩ := I.cell y c e
      exact ⟨w', z.sameBut hs (cne y c e)⟩
    · obtain ⟨e, n, ne, nf, d⟩ := I.pin p hp
      exact ⟨(hs.2 p.1 ne).trans e, n, ne, nf, d⟩
  · have hfn : X.fn x = true := by
      rcases hf with z | z
      · exact z
      · rw [z] at hk; cases hk
    obtain ⟨c, hc⟩ := I.ok.has x (.inl hk)
    obtain ⟨w', z⟩ := I.cell x c hc
    refine wpAny_storeName_cell I.ok.kind hk hc z (fun h' hc' hs => ?_)
    obtain ⟨oc, hoc, hocd⟩ := id z
    refine h { s with heap := h' } ⟨I.ok, I.os, I.bare, ⟨fun b o e n hb hx => ?_, fun b o e n hb hx => ?_, I.base.free, fun b o e hx => ?_, I.base.tups, I.base.frzs, I.base.tbls⟩, ⟨m, hn.sameBut hs (Ne.symm (cne x c hc)), fun j y v' e1 e2 e3 => ?_⟩, fun y c' e => ?_, I.free, I.freeC, fun p hp => ?_, tracked ⟨oc, hoc, I.freeC x c hc⟩ hs, by simpa using I.len⟩ ⟨c, hs, .inr hc⟩
    · exact (hs.2 b (Nat.ne_of_lt (Nat.lt_of_lt_of_le (Heap.lt_size e) (I.ok.cab x c hfn hc)))).trans (I.base.keep b o e n hb hx)
    · obtain ⟨sl, e1⟩ := I.base.slot b o e n hb hx
      exact ⟨sl, (hs.2 b (Nat.ne_of_lt (Nat.lt_of_lt_of_le (Heap.lt_size e) (I.ok.cab x c hfn hc)))).trans e1⟩
    · obtain ⟨o', e1⟩ := I.base.there b o e hx
      exact ⟨o', (hs.2 b (Nat.ne_of_lt (Nat.lt_of_lt_of_le (Heap.lt_size e) (I.ok.cab x c hfn hc)))).trans e1⟩
    · by_cases hj : j = i
      · subst hj
        rw [hi] at e1; cases e1
        rw [List.getElem?_set_self hiσ] at e2
        cases e2
        exact ⟨u, r, .inr ⟨.inl hk, c, hc, hc'⟩⟩
      · rw [List.getElem?_set_ne (Ne.symm hj)] at e2
        obtain ⟨u', r', q⟩ := hl j y v' e1 e2 e3
        refine ⟨u', r', ?_⟩
        rcases q with q | ⟨k, c', e, z'⟩
        · exact .inl q
        · refine .inr ⟨k, c', e, z'.sameBut hs ?_⟩
          rintro rfl
          exact hj (nodup_ix hN e1 (I.ok.inj _ _ _ e hc ▸ hi))
    · by_cases hcc : c' = c
      · subst hcc; exact ⟨_, hc'⟩
      · obtain ⟨w2, z2⟩ := I.cell y c' e
        exact ⟨w2, z2.sameBut hs hcc⟩
    · obtain ⟨e, n, ne, nf, d⟩ := I.pin p hp
      refine ⟨(hs.2 p.1 ?_).trans e, n, ne, nf, d⟩
      intro q
      rw [q, hoc] at e
      have q' : oc = p.2 := Option.some.inj e
      exact d w' (by rw [← q']; exact hocd)
theorem store_ok {M : Model} {A : Around} {E : Value → Shared → Prop} {i : Nat} {x : Str} {v : V} {u : Value} {Q : Unit → Shared → Prop} (I : Inv X pins σ H s) (hN : X.N.Nodup) (hi : X.N[i]? = some x) (hx : Loc X.env.scope x) (r : RelV v u)
    (h : ∀ s', Inv X pins (σ.set i (some v)) H s' → Q () s') (hf : X.fn x = true ∨ X.env.scope.names.lookup x = some .local := by first | exact .inl rfl | exact .inr rfl | assumption) : wpAny M A (storeName X.env x u) Q E s :=
  store_ok2 I hN hi hx r (fun s' I' _ => h s' I') hf
/-- behind a call or a block, the state as it is -/
theorem Inv.call' {s' : Shared} {ch : List Addr} (I : Inv X pins σ H s) (ho : s'.os = s.os) (u : Un (frs X.stack) ch H H' s.heap s'.heap) (hok : HOk X.prog X.w H' s'.heap) (hg : AllBare s'.gens)
    (hch : ∀ b ∈ ch, (b ∈ X.ex ∨ X.s₀.heap.objs.size ≤ b) ∧ b ≠ X.env.locals ∧ (∀ x c, X.env.cells.lookup x = some c → c ≠ b) ∧ ∀ p ∈ X.pn ++ pins, p.1 ≠ b) : Inv X pins σ H' s' := by
  obtain ⟨h', g', d', t', o'⟩ := s'
  have e : o' = s.os := ho
  subst e
  exact I.call (g' := g') (t' := t') (d' := d') u hok hg hch
end
/-- an exception: its class, its own dict's address (where it has one), the abstract heap behind it -/
abbrev XK := Value → Option Addr → Hp → Prop
abbrev St := List (Option V)
abbrev VK := V → Hp → Prop
/-- an expression's reading; a test's; an argument list's -/
abbrev TE := St → Hp → VK → Prop
abbrev TT := St → Hp → (Bool → Hp → Prop) → Prop
abbrev TA := St → Hp → (List V → Hp → Prop) → Prop
/-- what is wanted behind a statement -/
structure Ends where
  nx : St → Hp → Prop
  rt : VK
  bk : St → Hp → Prop := fun _ _ => False
  ct : St → Hp → Prop := fun _ _ => False
abbrev TS := Ends → St → Hp → Prop
def EP (X : Cx) (pins : List (Addr × Obj)) (σ : St) (Q : VK) (u : Value) (s' : Shared) : Prop := ∃ v H', Inv X pins σ H' s' ∧ RelV v u ∧ Q v H'
def TP (X : Cx) (pins : List (Addr × Obj)) (σ : St) (Q : Bool → Hp → Prop) (b : Bool) (s' : Shared) : Prop := ∃ H', Inv X pins σ H' s' ∧ Q b H'
def AP (X : Cx) (pins : List (Addr × Obj)) (σ : St) (Q : List V → Hp → Prop) (us : List Value) (s' : Shared) : Prop := ∃ vs H', Inv X pins σ H' s' ∧ Vals vs us ∧ Q vs H'
def SP (X : Cx) (pins : List (Addr × Obj)) (D : Ends) (f : Flow) (s' : Shared) : Prop :=
  match f with
  | .next => ∃ σ' H', Inv X pins σ' H' s' ∧ D.nx σ' H'
  | .brk => ∃ σ' H', Inv X pins σ' H' s' ∧ D.bk σ' H'
  | .cont => ∃ σ' H', Inv X pins σ' H' s' ∧ D.ct σ' H'
  | .ret u => ∃ v σ' H', Inv X pins σ' H' s' ∧ RelV v u ∧ D.rt v H'
def PE (X : Cx) (e : Expr) (t : TE) : Prop :=
  ∀ (pins : List (Addr × Obj)) (s : Shared) (σ : St) (H : Hp) (Q : VK), Inv X pins σ H s → t σ H Q → wpAny (model X.prog X.w) X.A (eval e X.env) (EP X pins σ Q) X.xe s
def PT (X : Cx) (e : Expr) (t : TT) : Prop :=
  ∀ (pins : List (Addr × Obj)) (s : Shared) (σ : St) (H : Hp) (Q : Bool → Hp → Prop), Inv X pins σ H s → t σ H Q → wpAny (model X.prog X.w) X.A (isTrue e X.env (eval e X.env)) (TP X pins σ Q) X.xe s
/-- a test whatever its 'whole' is (and, or) -/
def PW (X : Cx) (e : Expr) (t : TT) : Prop :=
  ∀ (whole : Sem Value) (pins : List (Addr × Obj)) (s : Shared) (σ : St) (H : Hp) (Q : Bool → Hp → Prop), Inv X pins σ H s → t σ H Q → wpAny (model X.prog X.w) X.A (isTrue e X.env whole) (TP X pins σ Q) X.xe s
theorem PW.pt {X : Cx} {e : Expr} {t : TT} (h : PW X e t) : PT X e t := h _
/-- an argument list (no star), from the left -/
def PA (X : Cx) (es : List Expr) (t : TA) : Prop :=
  ∀ (pos : Pos) (pins : List (Addr × Obj)) (s : Shared) (σ : St) (H : Hp) (Q : List V → Hp → Prop), Inv X pins σ H s → t σ H Q → wpAny (model X.prog X.w) X.A (spliced (backTo pos (starEach es X.env))) (AP X pins σ Q) X.xe s
def PS (X : Cx) (st : Stmt) (t : TS) : Prop :=
  ∀ (pins : List (Addr × Obj)) (s : Shared) (σ : St) (H : Hp) (D : Ends), Inv X pins σ H s → t D σ H → wpAny (model X.prog X.w) X.A (exec st X.env) (SP X pins D) X.xe s
def PSs (X : Cx) (st : List Stmt) (t : TS) : Prop :=
  ∀ (pins : List (Addr × Obj)) (s : Shared) (σ : St) (H : Hp) (D : Ends), Inv X pins σ H s → t D σ H → wpAny (model X.prog X.w) X.A (execs st X.env) (SP X pins D) X.xe s
/-- weaken the end -/
theorem thn {α : Type} {t : Sem α} {Q Q' : α → Shared → Prop} {M : Model} {A : Around} {E : Value → Shared → Prop} {s : Shared} (h : wpAny M A t Q E s) (hQ : ∀ a s, Q a s → Q' a s) : wpAny M A t Q' E s := wpAny_mono h hQ fun _ _ x => x
end L2
namespace L2
open PySem PySem.Spec PyProof.Rows
section
variable {X : Cx}
def tVar (i : Nat) : TE := fun σ H Q => ∃ v, σ[i]? = some (some v) ∧ Q v H
def tC (v : V) : TE := fun _ H Q => Q v H
theorem pe_var {i : Nat} {x : Str} {pos : Pos} (hN : X.N[i]? = some x) (hv : Vis X.env.scope x) (hd : (x == ("__debug__" : Str)) = false := by decide) (hcd : (x == ("__classdict__" : Str)) = false := by decide) : PE X (.Name x pos) (tVar i) := by
  intro pins s σ H Q I h
  obtain ⟨v, e, h⟩ := h
  obtain ⟨m, hn, hl⟩ := I.loc
  obtain ⟨u, r, l⟩ := hl i x v hN e hv
  have fin : EP X pins σ Q u s := ⟨v, H, I, r, h⟩
  rcases l with ⟨hk, hm⟩ | ⟨hk, c, hc, hcell⟩
  · exact wpAny_Name (wpAny_loadName_local I.ok.kind hk hn hm fin) hd
  · rcases hk with hk | hk
    · exact wpAny_Name (wpAny_loadName_cell I.ok.kind hk hc hcell fin) hd
    · exact wpAny_Name (wpAny_loadName_free I.ok.kind hk hc hcell fin hcd) hd
theorem pe_int {i j pos} : PE X (.Constant (.int i) j pos) (tC (.int i)) := fun _ _ _ H _ I h => wpAny_Constant_int ⟨.int i, H, I.tok _, ⟨_, rfl⟩, h⟩
theorem pe_bl {b j pos} : PE X (.Constant (.bool b) j pos) (tC (.bl b)) := fun _ _ _ H _ I h => Constant_bool ⟨.bl b, H, I, rfl, h⟩
theorem pe_non {j pos} : PE X (.Constant .none j pos) (tC .non) := fun _ _ _ H _ I h => Constant_none ⟨.non, H, I, rfl, h⟩
theorem pe_str {x j pos} : PE X (.Constant (.str x) j pos) (tC (.str x)) := fun _ _ _ H _ I h => Calls.Constant_str ⟨.str x, H, I.tok _, ⟨_, rfl⟩, h⟩
/-- a global name of the def -/
def Gl (X : Cx) (x : Str) : Prop := X.env.kindOf x = some .globalImplicit
theorem ld_glob {E : Value → Shared → Prop} {pins : List (Addr × Obj)} {s : Shared} {σ : St} {H : Hp} {x : Str} {u : Value} {pos : Pos} {Q : Value → Shared → Prop} (I : Inv X pins σ H s) (hg : Gl X x) (hm : X.mg x = some u) (h : Q u s)
    (hd : (x == ("__debug__" : Str)) = false := by decide) : wpAny (model X.prog X.w) X.A (eval (.Name x pos) X.env) Q E s :=
  Calls.Name_function_global I.ok.kind hg (Calls.loadGlobal_global (by rw [I.ok.glob]; exact I.mod.glob.keeps I.bk) hm h) hd
theorem ld_blt {E : Value → Shared → Prop} {pins : List (Addr × Obj)} {s : Shared} {σ : St} {H : Hp} {x : Str} {u : Value} {pos : Pos} {Q : Value → Shared → Prop} (I : Inv X pins σ H s) (hg : Gl X x) (hm : X.mg x = none) (hv : bootBuiltins x = some u) (h : Q u s)
    (hn : x ≠ "__name__" := by decide) (hd : (x == ("__debug__" : Str)) = false := by decide) : wpAny (model X.prog X.w) X.A (eval (.Name x pos) X.env) Q E s := by
  obtain ⟨mb, h1, h2⟩ := I.mod.blt
  exact Calls.Name_function_global I.ok.kind hg (Calls.loadGlobal_builtin (by rw [I.ok.glob]; exact I.mod.glob.keeps I.bk) hm (by rw [I.ok.blt]; exact h1.keeps I.bk) ((h2 x hn).trans hv) h) hd
/-- a module's constant, a class, a function, as a value -/
theorem pe_glob {x : Str} {v : V} {u : Value} {pos : Pos} (hg : Gl X x) (hm : X.mg x = some u) (r : RelV v u) (hd : (x == ("__debug__" : Str)) = false := by decide) : PE X (.Name x pos) (tC v) :=
  fun _ _ _ H _ I h => ld_glob I hg hm ⟨v, H, I, r, h⟩ hd
theorem pe_bltn {x : Str} {v : V} {u : Value} {pos : Pos} (hg : Gl X x) (hm : X.mg x = none) (hv : bootBuiltins x = some u) (r : RelV v u) (hn : x ≠ "__name__" := by decide) (hd : (x == ("__debug__" : Str)) = false := by decide) : PE X (.Name x pos) (tC v) :=
  fun _ _ _ H _ I h => ld_blt I hg hm hv ⟨v, H, I, r, h⟩ hn hd
variable {a b : Expr} {ta tb : TE} {pos : Pos}
/-- is None -/
def tIsN (ta : TE) : TE := fun σ H Q => ta σ H fun x H1 => Q (.bl (decide (x = .non))) H1
def tNotN (ta : TE) : TE := fun σ H Q => ta σ H fun x H1 => Q (.bl (!decide (x = .non))) H1
/-- a comparison as a value, as a test -/
def tB (t : TE) : TT := fun σ H Q => t σ H fun x H1 => ∃ c, x = .bl c ∧ Q c H1
/-- an expression whose value is a bool, as a test -/
theorem pt_val {e : Expr} {t : TE} (h : PE X e t) (he : ∀ whole, isTrue e X.env whole = (do let v ← whole; standAt e.pos; holding [v] (truthy v)) := by intro _; rfl) : PT X e (tB t) := by
  intro pins s σ H Q I hw
  refine isTrue_plain (thn (h pins s σ H _ I hw) fun v s1 ⟨x, H1, I1, r1, q1⟩ => ?_) (he _)
  obtain ⟨d, rfl, q⟩ := q1
  cases r1
  exact wpAny_truthy_bool ⟨H1, I1, q⟩
variable {tA tB' : TT} {rest : List Expr}
def tAnd (t u : TT) : TT := fun σ H Q => t σ H fun c H1 => if c = true then u σ H1 Q else Q false H1
def tOr (t u : TT) : TT := fun σ H Q => t σ H fun c H1 => if c = true then Q true H1 else u σ H1 Q
def tNot (t : TT) : TT := fun σ H Q => t σ H fun c H1 => Q (!c) H1
theorem pw_and1 (ha : PT X a tA) : PW X (.BoolOp .And [a] pos) tA := by
  intro wh pins s σ H Q I h
  refine isTrue_and (thn (ha pins s σ H Q I h) fun c s1 e => ?_)
  cases c with
  | true => exact isTrue_and_nil e
  | false => exact e
theorem pw_or1 (ha : PT X a tA) : PW X (.BoolOp .Or [a] pos) tA := by
  intro wh pins s σ H Q I h
  refine isTrue_or (thn (ha pins s σ H Q I h) fun c s1 e => ?_)
  cases c with
  | false => exact isTrue_or_nil e
  | true => exact e
theorem pw_and (ha : PT X a tA) (hb : PW X (.BoolOp .And (b :: rest) pos) tB') : PW X (.BoolOp .And (a :: b :: rest) pos) (tAnd tA tB') := by
  intro wh pins s σ H Q I h
  refine isTrue_and (thn (ha pins s σ H _ I h) fun c s1 ⟨H1, I1, q1⟩ => ?_)
  cases c with
  | true => exact hb wh pins s1 σ H1 Q I1 q1
  | false => exact ⟨H1, I1, q1⟩
theorem pw_or (ha : PT X a tA) (hb : PW X (.BoolOp .Or (b :: rest) pos) tB') : PW X (.BoolOp .Or (a :: b :: rest) pos) (tOr tA tB') := by
  intro wh pins s σ H Q I h
  refine isTrue_or (thn (ha pins s σ H _ I h) fun c s1 ⟨H1, I1, q1⟩ => ?_)
  cases c with
  | true => exact ⟨H1, I1, q1⟩
  | false => exact hb wh pins s1 σ H1 Q I1 q1
theorem pt_not (ha : PT X a tA) : PT X (.UnaryOp .Not a pos) (tNot tA) := by
  intro pins s σ H Q I h
  exact isTrue_not (ha pins s σ H (fun c H1 => Q (!c) H1) I h)
/-- .. as values (bools) -/
def tAndV (ta tb : TE) : TE := fun σ H Q => ta σ H fun x H1 => ∃ c, x = .bl c ∧ if c = true then tb σ H1 Q else Q (.bl false) H1
def tOrV (ta tb : TE) : TE := fun σ H Q => ta σ H fun x H1 => ∃ c, x = .bl c ∧ if c = true then Q (.bl true) H1 else tb σ H1 Q
def tNotV (ta : TE) : TE := fun σ H Q => ta σ H fun x H1 => ∃ c, x = .bl c ∧ Q (.bl (!c)) H1
theorem pe_one {op} {t : TE} (h : PE X a t) : PE X (.BoolOp op [a] pos) t := fun pins s σ H Q I hw => BoolOp_one (h pins s σ H Q I hw)
theorem pe_and (ha : PE X a ta) (hb : PE X (.BoolOp .And (b :: rest) pos) tb) : PE X (.BoolOp .And (a :: b :: rest) pos) (tAndV ta tb) := by
  intro pins s σ H Q I h
  refine BoolOp_and (thn (ha pins s σ H _ I h) fun v s1 ⟨x, H1, I1, r1, q1⟩ => ?_)
  obtain ⟨c, rfl, q1⟩ := q1
  cases r1
  refine wpAny_truthy_bool ?_
  cases c with
  | true => exact hb pins s1 σ H1 Q I1 q1
  | false => exact ⟨.bl false, H1, I1, rfl, q1⟩
theorem pe_or (ha : PE X a ta) (hb : PE X (.BoolOp .Or (b :: rest) pos) tb) : PE X (.BoolOp .Or (a :: b :: rest) pos) (tOrV ta tb) := by
  intro pins s σ H Q I h
  refine BoolOp_or (thn (ha pins s σ H _ I h) fun v s1 ⟨x, H1, I1, r1, q1⟩ => ?_)
  obtain ⟨c, rfl, q1⟩ := q1
  cases r1
  refine wpAny_truthy_bool ?_
  cases c with
  | false => exact hb pins s1 σ H1 Q I1 q1
  | true => exact ⟨.bl true, H1, I1, rfl, q1⟩
theorem pe_not (ha : PE X a ta) : PE X (.UnaryOp .Not a pos) (tNotV ta) := by
  intro pins s σ H Q I h
  refine UnaryOp_ (thn (ha pins s σ H _ I h) fun v s1 ⟨x, H1, I1, r1, q1⟩ => ?_)
  obtain ⟨c, rfl, q1⟩ := q1
  cases r1
  exact not_of (wpAny_truthy_bool ⟨.bl (!c), H1, I1, rfl, q1⟩)
/-- a if t else b -/
def tIf (t : TT) (ta tb : TE) : TE := fun σ H Q => t σ H fun c H1 => if c = true then ta σ H1 Q else tb σ H1 Q
theorem pe_ifExp {c : Expr} (hc : PT X c tA) (ha : PE X a ta) (hb : PE X b tb) : PE X (.IfExp c a b pos) (tIf tA ta tb) := by
  intro pins s σ H Q I h
  refine wpAny_IfExp (thn (hc pins s σ H _ I h) fun d s1 ⟨H1, I1, q1⟩ => ?_)
  cases d with
  | true => exact ha pins s1 σ H1 Q I1 q1
  | false => exact hb pins s1 σ H1 Q I1 q1
end
end L2
namespace L2
open PySem PySem.Spec PyProof.Rows
def SqL (K : PySem.W.Frag) (H : Hp) (a : Addr) (xs : List V) : Prop :=
  Rd H a (.lst xs) ∨
    ∃ (o : Obj) (its : Array Value) (n : Nat), K.lookup a = some o ∧ o.cls = .type "list" ∧ o.dict = none ∧ o.data = .seq its n ∧ its.size ≤ sizeLine ∧ Vals xs its.toList
def SqT (K : PySem.W.Frag) (H : Hp) (a : Addr) (xs : List V) : Prop :=
  Rd H a (.tup xs) ∨
    ∃ (o : Obj) (its : Array Value) (n : Nat), K.lookup a = some o ∧ o.cls = .type "tuple" ∧ o.data = .seq its n ∧ its.size ≤ sizeLine ∧ Vals xs its.toList
def absV : Value → Option V
  | .none => some .non
  | .bool b => some (.bl b)
  | .int i _ => some (.int i)
  | .str x _ => some (.str x)
  | .bytes b _ => some (.byt b)
  | .float b _ => some (.flt b)
  | .ref a => some (.ref a)
  | .type n => some (.ty n)
  | _ => none
theorem RelV.abs {x : V} {u : Value} (r : RelV x u) : absV u = some x := by
  cases x with
  | non => cases r; rfl
  | bl _ => cases r; rfl
  | int _ => obtain ⟨t, rfl⟩ := r; rfl
  | str _ => obtain ⟨t, rfl⟩ := r; rfl
  | byt _ => obtain ⟨t, rfl⟩ := r; rfl
  | flt _ => obtain ⟨t, rfl⟩ := r; rfl
  | ref _ => cases r; rfl
  | ty _ => cases r; rfl
theorem RelV.inj {x y : V} {u : Value} (r : RelV x u) (q : RelV y u) : x = y := Option.some.inj (r.abs.symm.trans q.abs)
theorem Vals.inj : ∀ {xs ys : List V} {us : List Value}, Vals xs us → Vals ys us → xs = ys
  | _, _, _, .nil, .nil => rfl
  | _, _, _, .cons r t, .cons r' t' => by rw [r.inj r', Vals.inj t t']
section
variable {X : Cx} {pins : List (Addr × Obj)} {σ : St} {H : Hp} {s : Shared} {a : Addr} {xs ys : List V}
theorem SqL.of {K : PySem.W.Frag} (h : H a = some (.lst xs)) : SqL K H a xs := .inl (.inl h)
theorem SqT.of {K : PySem.W.Frag} (h : H a = some (.tup xs)) : SqT K H a xs := .inl (.inl h)
theorem Inv.list (I : Inv X pins σ H s) (h : SqL X.K H a xs) : ∃ its : List Value, Vals xs its ∧ PlainL s.heap a its.toArray ∧ xs.length ≤ sizeLine := by
  rcases h with h | ⟨o, its, n, hk, hc, hd, hs, hz, r⟩
  · obtain ⟨z, its, n, r, e⟩ := h.ok I.hok
    exact ⟨its, r, ⟨_, n, e, rfl, rfl, rfl⟩, z⟩
  · refine ⟨its.toList, r, ⟨o, n, I.kIn a o hk, hc, hd, by simpa using hs⟩, ?_⟩
    have e := r.length
    simp only [Array.length_toList] at e
    omega
theorem Inv.tuple (I : Inv X pins σ H s) (h : SqT X.K H a xs) : ∃ its : List Value, Vals xs its ∧ IsTup s.heap a its.toArray ∧ xs.length ≤ sizeLine := by
  rcases h with h | ⟨o, its, n, hk, hc, hs, hz, r⟩
  · obtain ⟨z, its, r, p⟩ := h.ok I.hok
    exact ⟨its, r, p, z⟩
  · refine ⟨its.toList, r, ⟨o, I.kIn a o hk, hc, n, by simpa using hs⟩, ?_⟩
    have e := r.length
    simp only [Array.length_toList] at e
    omega
end
abbrev Cx.wish (X : Cx) (E : Value → Shared → Prop) : Cx := { X with xe := E }
/-- no exception leaves -/
abbrev Cx.nox (X : Cx) : Cx := X.wish fun _ _ => False
theorem Cx.Ok.wish {X : Cx} (ok : X.Ok) (E : Value → Shared → Prop) : (X.wish E).Ok :=
  ⟨ok.mod, ok.kind, ok.glob, ok.blt, ok.above, ok.inj, ok.has, ok.cab, ok.hd, ok.frames, ok.stk, ok.exf, ok.bs, ok.bsz, ok.noex, ok.exfs, ok.funs, ok.frf⟩
theorem Cx.Ok.unwish {X : Cx} {E : Value → Shared → Prop} (ok : (X.wish E).Ok) : X.Ok :=
  ⟨ok.mod, ok.kind, ok.glob, ok.blt, ok.above, ok.inj, ok.has, ok.cab, ok.hd, ok.frames, ok.stk, ok.exf, ok.bs, ok.bsz, ok.noex, ok.exfs, ok.funs, ok.frf⟩
section
variable {X : Cx} {pins : List (Addr × Obj)} {σ : St} {H : Hp} {s : Shared} {E : Value → Shared → Prop}
theorem Inv.wish (I : Inv X pins σ H s) (E : Value → Shared → Prop) : Inv (X.wish E) pins σ H s := ⟨I.ok.wish E, I.os, I.bare, I.base, I.loc, I.cell, I.free, I.freeC, I.pin, I.hok, I.len⟩
theorem Inv.unwish (I : Inv (X.wish E) pins σ H s) : Inv X pins σ H s := ⟨I.ok.unwish, I.os, I.bare, I.base, I.loc, I.cell, I.free, I.freeC, I.pin, I.hok, I.len⟩
theorem SP.unwish {D : Ends} {f : Flow} {s' : Shared} (h : SP (X.wish E) pins D f s') : SP X pins D f s' := by
  cases f with
  | next => obtain ⟨σ', H', I, q⟩ := h; exact ⟨σ', H', I.unwish, q⟩
  | brk => obtain ⟨σ', H', I, q⟩ := h; exact ⟨σ', H', I.unwish, q⟩
  | cont => obtain ⟨σ', H', I, q⟩ := h; exact ⟨σ', H', I.unwish, q⟩
  | ret u => obtain ⟨v, σ', H', I, r, q⟩ := h; exact ⟨v, σ', H', I.unwish, r, q⟩
theorem PE.nox {e : Expr} {t : TE} (h : PE X.nox e t) : PE X e t := fun pins s σ H Q I hw =>
  wpAny_mono (h pins s σ H Q (I.wish _) hw) (fun _ _ ⟨v, H', I', r, q⟩ => ⟨v, H', I'.unwish, r, q⟩) fun _ _ z => False.elim z
theorem PT.nox {e : Expr} {t : TT} (h : PT X.nox e t) : PT X e t := fun pins s σ H Q I hw =>
  wpAny_mono (h pins s σ H Q (I.wish _) hw) (fun _ _ ⟨H', I', q⟩ => ⟨H', I'.unwish, q⟩) fun _ _ z => False.elim z
theorem PSs.nox {st : List Stmt} {t : TS} (h : PSs X.nox st t) : PSs X st t := fun pins s σ H D I hw =>
  wpAny_mono (h pins s σ H D (I.wish _) hw) (fun _ _ q => q.unwish) fun _ _ z => False.elim z
end
section
variable {X : Cx} {st : Stmt} {rest : List Stmt} {t u : TS} {e : Expr} {te : TE} {pos : Pos}
def tNext : TS := fun D σ H => D.nx σ H
def tSeq (t u : TS) : TS := fun D σ H => t { D with nx := u D } σ H
theorem pss_nil : PSs X [] tNext := fun _ _ σ H _ I h => wpAny_execs_nil ⟨σ, H, I, h⟩
theorem pss_cons (h1 : PS X st t) (h2 : PSs X rest u) : PSs X (st :: rest) (tSeq t u) := by
  intro pins s σ H D I h
  refine wpAny_execs_cons (thn (h1 pins s σ H { D with nx := u D } I h) fun f s1 q => ?_)
  cases f with
  | next =>
    obtain ⟨σ', H', I', q⟩ := q
    exact h2 pins s1 σ' H' D I' q
  | ret v => exact q
  | brk => exact q
  | cont => exact q
theorem pss_one (h1 : PS X st t) : PSs X [st] t := by
  intro pins s σ H D I h
  refine wpAny_execs_cons (thn (h1 pins s σ H D I h) fun f s1 q => ?_)
  cases f with
  | next => exact wpAny_execs_nil q
  | ret v => exact q
  | brk => exact q
  | cont => exact q
/-- in a def's body nothing is shown -/
theorem Inv.quiet {pins : List (Addr × Obj)} {σ : St} {H : Hp} {s : Shared} (I : Inv X pins σ H s) : interactive X.env = false := by simp [interactive, I.ok.kind]
/-- an expression whose value is dropped -/
def tDrop (te : TE) : TS := fun D σ H => te σ H fun _ H1 => D.nx σ H1
theorem ps_expr (he : PE X e te) (hs : swapsWith e none pos.line X.env = pure false := by rfl) : PS X (.Expr e pos) (tDrop te) := by
  intro pins s σ H D I h
  exact wpAny_Expr_any (thn (he pins s σ H _ I h) fun v s1 ⟨x, H1, I1, r1, q1⟩ => ⟨σ, H1, I1, q1⟩) I.quiet hs
def tRet (te : TE) : TS := fun D σ H => te σ H D.rt
theorem ps_ret (he : PE X e te) : PS X (.Return (some e) pos) (tRet te) := by
  intro pins s σ H D I h
  exact wpAny_Return_some (thn (he pins s σ H _ I h) fun v s1 ⟨x, H1, I1, r1, q1⟩ => ⟨x, σ, H1, I1, r1, q1⟩)
def tRetN : TS := fun D _ H => D.rt .non H
def tIfS (c : TT) (t u : TS) : TS := fun D σ H => c σ H fun b H1 => if b = true then t D σ H1 else u D σ H1
theorem ps_if {c : Expr} {a b : List Stmt} {tc : TT} (hc : PT X c tc) (ha : PSs X a t) (hb : PSs X b u) : PS X (.If c a b pos) (tIfS tc t u) := by
  intro pins s σ H D I h
  refine wpAny_If (thn (hc pins s σ H _ I h) fun d s1 ⟨H1, I1, q1⟩ => ?_)
  cases d with
  | true => exact ha pins s1 σ H1 D I1 q1
  | false => exact hb pins s1 σ H1 D I1 q1
/-- code that the proof never comes to -/
def tNever : TS := fun _ _ _ => False
theorem pss_never {sts : List Stmt} : PSs X sts tNever := fun _ _ _ _ _ _ h => h.elim
end
abbrev TG := V → St → Hp → (St → Hp → Prop) → Prop
abbrev TGs := List V → St → Hp → (St → Hp → Prop) → Prop
def PG (X : Cx) (target : Expr) (t : TG) : Prop :=
  ∀ (pins : List (Addr × Obj)) (s : Shared) (σ : St) (H : Hp) (v : V) (u : Value) (Q : St → Hp → Prop), Inv X pins σ H s → RelV v u → t v σ H Q →
    wpAny (model X.prog X.w) X.A (assign target X.env u) (fun _ s' => ∃ σ' H', Inv X pins σ' H' s' ∧ Q σ' H') X.xe s
/-- several targets, one after another -/
def PGs (X : Cx) (ts : List Expr) (t : TGs) : Prop :=
  ∀ (pins : List (Addr × Obj)) (s : Shared) (σ : St) (H : Hp) (vs : List V) (us : List Value) (Q : St → Hp → Prop), Inv X pins σ H s → Vals vs us → t vs σ H Q →
    wpAny (model X.prog X.w) X.A (assignInOrder ((assignEach ts X.env).map (·.2)) us) (fun _ s' => ∃ σ' H', Inv X pins σ' H' s' ∧ Q σ' H') X.xe s
/-- a op= b, by values -/
abbrev TIp := V → V → Hp → VK → Prop
def PIp (X : Cx) (op : Operator) (t : TIp) : Prop :=
  ∀ (pins : List (Addr × Obj)) (s : Shared) (σ : St) (H : Hp) (x y : V) (v u : Value) (Q : VK), Inv X pins σ H s → RelV x v → RelV y u → t x y H Q →
    wpAny (model X.prog X.w) X.A (inplaceOp op v u) (EP X pins σ Q) X.xe s
section
variable {X : Cx} {pos : Pos}
def gName (i : Nat) : TG := fun v σ H Q => Q (σ.set i (some v)) H
theorem pg_name {i : Nat} {x : Str} (hN : X.N.Nodup) (hi : X.N[i]? = some x) (hx : Loc X.env.scope x) (hf : X.fn x = true ∨ X.env.scope.names.lookup x = some .local := by first | exact .inl rfl | exact .inr rfl | assumption) : PG X (.Name x pos) (gName i) := by
  intro pins s σ H v u Q I r h
  exact wpAny_assign_Name (store_ok I hN hi hx r (fun s' I' => ⟨_, H, I', h⟩) hf)
def gNil : TGs := fun vs σ H Q => vs = [] ∧ Q σ H
def gCons (t : TG) (u : TGs) : TGs := fun vs σ H Q => ∃ v r, vs = v :: r ∧ t v σ H fun σ' H' => u r σ' H' Q
theorem pgs_nil : PGs X [] gNil := by
  intro pins s σ H vs us Q I r h
  obtain ⟨e, h⟩ := h
  subst e
  cases r
  exact assignInOrder_nil ⟨σ, H, I, h⟩
theorem pgs_cons {e : Expr} {es : List Expr} {t : TG} {u : TGs} (h1 : PG X e t) (h2 : PGs X es u)
    (hs : (assignEach (e :: es) X.env).map (·.2) = assign e X.env :: (assignEach es X.env).map (·.2) := by rfl) : PGs X (e :: es) (gCons t u) := by
  intro pins s σ H vs us Q I r h
  obtain ⟨v, vr, e1, h⟩ := h
  subst e1
  cases r with
  | cons r rr =>
    rw [hs]
    refine assignInOrder_cons (thn (h1 pins s σ H _ _ _ I r h) fun _ s1 ⟨σ1, H1, I1, q1⟩ => ?_)
    exact h2 pins s1 σ1 H1 _ _ Q I1 rr q1
/-- (a, b, ..) = a tuple of that length -/
def gTup (K : PySem.W.Frag) (n : Nat) (t : TGs) : TG := fun v σ H Q => ∃ a xs, v = .ref a ∧ SqT K H a xs ∧ xs.length = n ∧ t xs σ H Q
theorem pg_tup {es : List Expr} {k : Nat} {t : TGs} {n : Nat} (hc : X.calm = true) (h : PGs X es t)
    (hn : (assignEach es X.env).length = n := by rfl) (hst : (assignEach es X.env).findIdx? (·.1) = none := by rfl) : PG X (.Tuple es k pos) (gTup X.K n t) := by
  intro pins s σ H v u Q I r hw
  obtain ⟨a, xs, e1, hq, hl, hw⟩ := hw
  subst e1
  cases r
  obtain ⟨its, rv, ht, hz⟩ := I.tuple hq
  refine assign_Tuple_tuple (I.ok.hd hc) ht (by simp [hn, ← hl, rv.length]) hst fun h' hx => ?_
  have I1 : Inv X pins σ H { s with heap := h' } := I.kept (t' := s.toks) fun b o e => hx b o (Nat.ne_of_lt (Heap.lt_size e)) e
  exact h pins _ σ H xs _ Q I1 (by simpa using rv) hw
/-- target = value -/
def tAsg (te : TE) (g : TG) : TS := fun D σ H => te σ H fun x H1 => g x σ H1 D.nx
theorem ps_asg {tg e : Expr} {te : TE} {g : TG} (he : PE X e te) (hg : PG X tg g) (hs : swapsWithSole [tg] e pos.line X.env = pure false := by rfl) (hw : swappedStores [tg] e X.env = pure none := by rfl)
    (h1 : (assignEach [tg] X.env).map (·.2) = [assign tg X.env] := by rfl) : PS X (.Assign [tg] e pos) (tAsg te g) := by
  intro pins s σ H D I h
  refine wpAny_Assign_stores (thn (he pins s σ H _ I h) fun v s1 ⟨x, H1, I1, r1, q1⟩ => ?_) hs hw
  rw [h1]
  exact thn (hg pins s1 σ H1 x v _ I1 r1 q1) fun _ s2 q => q
/-- name = value -/
theorem ps_set {i : Nat} {x : Str} {e : Expr} {te : TE} {pos' : Pos} (hN : X.N.Nodup) (hi : X.N[i]? = some x) (hx : Loc X.env.scope x) (he : PE X e te) (hs : swapsWith e (some (.Name x pos')) pos.line X.env = pure false := by rfl) (hf : X.fn x = true ∨ X.env.scope.names.lookup x = some .local := by first | exact .inl rfl | exact .inr rfl | assumption) :
    PS X (.Assign [.Name x pos'] e pos) (tAsg te (gName i)) := by
  intro pins s σ H D I h
  refine wpAny_Assign_Name (thn (he pins s σ H _ I h) fun v s1 ⟨y, H1, I1, r1, q1⟩ => ?_) hs
  exact store_ok I1 hN hi hx r1 (fun s2 I2 => ⟨_, H1, I2, q1⟩) hf
/-- name op= e -/
def tAug (i : Nat) (te : TE) (ti : TIp) : TS := fun D σ H => ∃ x, σ[i]? = some (some x) ∧ te σ H fun y H1 => ti x y H1 fun z H2 => D.nx (σ.set i (some z)) H2
theorem ps_aug {i : Nat} {x : Str} {e : Expr} {te : TE} {op : Operator} {ti : TIp} {pos' : Pos} (hN : X.N.Nodup) (hi : X.N[i]? = some x) (hx : Loc X.env.scope x) (he : PE X e te) (ho : PIp X op ti) (hf : X.fn x = true ∨ X.env.scope.names.lookup x = some .local := by first | exact .inl rfl | exact .inr rfl | assumption) :
    PS X (.AugAssign (.Name x pos') op e pos) (tAug i te ti) := by
  intro pins s σ H D I h
  obtain ⟨v, e1, h⟩ := h
  obtain ⟨m, hn, hl⟩ := I.loc
  have vis : Vis X.env.scope x := by rcases hx with k | k; exact .inl k; exact .inr (.inl k)
  obtain ⟨u, r, l⟩ := hl i x v hi e1 vis
  refine wpAny_AugAssign_Name ?_
  have go : wpAny (model X.prog X.w) X.A (eval e X.env) (fun w s₂ => wpAny (model X.prog X.w) X.A (inplaceOp op u w) (fun r s₃ => wpAny (model X.prog X.w) X.A (storeName X.env x r) (fun _ => SP X pins D .next) X.xe s₃) X.xe s₂) X.xe s := by
    refine thn (he pins s σ H _ I h) fun w s1 ⟨y, H1, I1, r1, q1⟩ => ?_
    refine thn (ho pins s1 σ H1 v y u w _ I1 r r1 q1) fun z s2 ⟨zv, H2, I2, r2, q2⟩ => ?_
    exact store_ok I2 hN hi hx r2 (fun s3 I3 => ⟨_, H2, I3, q2⟩) hf
  rcases l with ⟨hk, hm⟩ | ⟨hk, c, hc, hcell⟩
  · exact wpAny_loadName_local I.ok.kind hk hn hm go
  · rcases hk with hk | hk
    · exact wpAny_loadName_cell I.ok.kind hk hc hcell go
    · rcases hx with k | k
      · have : X.env.scope.names.lookup x = some .free := hk
        rw [k] at this; cases this
      · have : X.env.scope.names.lookup x = some .free := hk
        rw [k] at this; cases this
/-- ints -/
def ipI (f : Int → Int → Int) : TIp := fun x y H Q => ∃ i j, x = .int i ∧ y = .int j ∧ Q (.int (f i j)) H
theorem ip_add : PIp X .Add (ipI fun i j => i + j) := by
  intro pins s σ H x y v u Q I r1 r2 h
  obtain ⟨i, j, e1, e2, q⟩ := h
  subst e1; subst e2
  obtain ⟨t, rfl⟩ := r1
  obtain ⟨t', rfl⟩ := r2
  exact iadd_int ⟨.int _, H, I.tok _, ⟨_, rfl⟩, q⟩
end
section
variable {X : Cx} {pos : Pos}
/-- the invariant W with its measure -/
def tWhile (c : TT) (tb : TS) : TS := fun D σ H => ∃ W : Nat → St → Hp → Prop, (∃ m, W m σ H) ∧ ∀ m σ H, W m σ H →
  c σ H fun b H1 => if b = true then ∃ N : St → Hp → Prop, (∀ σ' H', N σ' H' → ∃ m', m' < m ∧ W m' σ' H') ∧ tb { D with nx := N, ct := N, bk := D.nx } σ H1 else D.nx σ H1
theorem ps_while {c : Expr} {body : List Stmt} {tc : TT} {tb : TS} (hp : PassesOwn (model X.prog X.w) X.A X.env X.xe) (hc : PT X c tc) (hb : PSs X body tb) : PS X (.While c body [] pos) (tWhile tc tb) := by
  intro pins s σ H D I h
  obtain ⟨W, ⟨m0, w0⟩, turn⟩ := h
  refine wpAny_While (codeAny_whileLoop (fun n s' => ∃ σ' H', Inv X pins σ' H' s' ∧ W n σ' H') ?_ m0 ⟨σ, H, I, w0⟩)
  rintro n s1 ⟨σ1, H1, I1, w1⟩
  refine wpAny_passesOwn hp (thn (hc pins s1 σ1 H1 _ I1 (turn n σ1 H1 w1)) fun b s2 ⟨H2, I2, q2⟩ => ?_)
  cases b with
  | true =>
    obtain ⟨N, hN, q2⟩ := q2
    rw [if_pos rfl]
    refine wpAny_passesOwn hp (thn (hb pins s2 σ1 H2 _ I2 q2) fun f s3 q3 => ?_)
    cases f with
    | next =>
      obtain ⟨σ3, H3, I3, n3⟩ := q3
      obtain ⟨m', hm, w3⟩ := hN σ3 H3 n3
      exact ⟨m', hm, σ3, H3, I3, w3⟩
    | cont =>
      obtain ⟨σ3, H3, I3, n3⟩ := q3
      obtain ⟨m', hm, w3⟩ := hN σ3 H3 n3
      exact ⟨m', hm, σ3, H3, I3, w3⟩
    | brk => exact q3
    | ret v => exact q3
  | false =>
    rw [if_neg Bool.false_ne_true]
    exact wpAny_execs_nil ⟨σ1, H2, I2, q2⟩
end
/-- at turn i: it yields x (the heap may grow), or it stops -/
structure It where
  go : Nat → Hp → Prop
  yld : Nat → Hp → V → Hp → Prop
  stop : Nat → Hp → Prop
/-- the iterator's own objects may turn: they are not the frame's, not pinned, younger than the entry (or a comprehension's own) -/
def FpOk (X : Cx) (pins : List (Addr × Obj)) (H : Hp) (b : Addr) : Prop :=
  H b = none ∧ b ≠ X.env.locals ∧ b ∉ X.fs ∧ (b ∈ X.ex ∨ X.s₀.heap.objs.size ≤ b) ∧ (∀ x c, X.env.cells.lookup x = some c → c ≠ b) ∧ ∀ p ∈ X.pn ++ pins, p.1 ≠ b
theorem Inv.fpOk {X : Cx} {pins : List (Addr × Obj)} {σ : St} {H H' : Hp} {s : Shared} {b : Addr} (I : Inv X pins σ H s) (hb : s.heap.objs.size ≤ b) (hn : H' b = none) : FpOk X pins H' b := by
  refine ⟨hn, Nat.ne_of_gt (Nat.lt_of_lt_of_le I.lt hb), I.nofs hb, .inr (Nat.le_trans I.sz hb), fun x c e z => ?_, fun p hp z => ?_⟩
  · obtain ⟨v, q⟩ := I.cell x c e
    exact absurd (Nat.lt_of_lt_of_le q.lt (by rw [z]; exact hb)) (Nat.lt_irrefl _)
  · exact absurd (Nat.lt_of_lt_of_le (Heap.lt_size (I.pin p hp).1) (by rw [z]; exact hb)) (Nat.lt_irrefl _)
structure Turn (P : Program) (w : World) (K : PySem.W.Frag) (tg : Expr) (J : It) (fp : List Addr) (it : Addr) (tn : Nat → Heap → Prop) : Prop where
  mem : it ∈ fp
  obj : ∀ i h, tn i h → ∀ b ∈ fp, ∃ o, h.get? b = some o ∧ ∀ v, o.data ≠ .cell v
  keep : ∀ i h h', tn i h → (∀ b ∈ fp, ∀ o, h.get? b = some o → h'.get? b = some o) → tn i h'
  item : ∀ (X : Cx), X.prog = P → X.w = w → X.K = K → X.calm = true → ∀ (i : Nat) (pins : List (Addr × Obj)) (s : Shared) (σ : St) (H : Hp) (E : Value → Shared → Prop), Inv X pins σ H s → (∀ b ∈ fp, FpOk X pins H b) → tn i s.heap → J.go i H →
    wpAny (model P w) X.A (pyNext (.ref it)) (fun r s1 => ∃ u, r = some u ∧
      wpAny (model P w) X.A (letOwnedTupleGo tg (.ref it) u) (fun _ s2 => ∃ x H', Inv X pins σ H' s2 ∧ RelV x u ∧ J.yld i H x H' ∧ tn (i + 1) s2.heap ∧ ∀ b ∈ fp, H' b = none) E s1) E s
  done : ∀ (X : Cx), X.prog = P → X.w = w → X.K = K → X.calm = true → ∀ (i : Nat) (pins : List (Addr × Obj)) (s : Shared) (σ : St) (H : Hp) (E : Value → Shared → Prop), Inv X pins σ H s → (∀ b ∈ fp, FpOk X pins H b) → tn i s.heap → J.stop i H →
    wpAny (model P w) X.A (pyNext (.ref it)) (fun r s1 => r = none ∧ Inv X pins σ H s1) E s
  self : ∀ (A : Around) (i : Nat) (s : Shared) (Q : Value → Shared → Prop) (E : Value → Shared → Prop), tn i s.heap → Q (.ref it) s → wpAny (model P w) A (pyIter (.ref it)) Q E s
abbrev TI := St → Hp → (It → Hp → Prop) → Prop
/-- an iterator has come -/
def PIE (X : Cx) (pins : List (Addr × Obj)) (σ : St) (tg : Expr) (R : It → Hp → Prop) (itv : Value) (s2 : Shared) : Prop :=
  ∃ (it : Addr) (fp : List Addr) (tn : Nat → Heap → Prop) (J : It) (H' : Hp), itv = .ref it ∧ Inv X pins σ H' s2 ∧ Turn X.prog X.w X.K tg J fp it tn ∧ tn 0 s2.heap ∧ (∀ b ∈ fp, FpOk X pins H' b) ∧ R J H'
def PI (X : Cx) (tg iter : Expr) (wi : TI) : Prop :=
  ∀ (pins : List (Addr × Obj)) (s : Shared) (σ : St) (H : Hp) (R : It → Hp → Prop), Inv X pins σ H s → wi σ H R →
    wpAny (model X.prog X.w) X.A (eval iter X.env) (fun v s1 => wpAny (model X.prog X.w) X.A (pyIter v) (PIE X pins σ tg R) X.xe s1) X.xe s
/-- the step ahead of the store is nothing for an iterator that keeps no tuple -/
theorem go_of {M : Model} {A : Around} {E : Value → Shared → Prop} {s : Shared} {tg : Expr} {it : Addr} {u : Value} {o : Obj} {n : String} {vs : Array Value} {Q : Unit → Shared → Prop} (ho : s.heap.get? it = some o) (hc : o.cls = .type n) (hd : o.data = .fields vs)
    (hn : ["enumerate", "zip", "dict_itemiterator", "dict_reverseitemiterator", "odict_iterator", "itertools.zip_longest", "itertools.pairwise"].contains n = false) (hQ : Q () s) : wpAny M A (letOwnedTupleGo tg (.ref it) u) Q E s := by
  unfold letOwnedTupleGo
  cases tg <;> first
    | exact wpAny_pure hQ
    | (cases u <;> first
        | exact wpAny_pure hQ
        | (refine wpAny_bind (wpAny_load ho ?_)
           rw [hc, hd]
           show wpAny M A (if (["enumerate", "zip", "dict_itemiterator", "dict_reverseitemiterator", "odict_iterator", "itertools.zip_longest", "itertools.pairwise"].contains n && vs[0]? == some (rawInt _)) = true then _ else _) Q E s
           rw [if_neg (by intro h; rw [hn, Bool.false_and] at h; cases h)]
           exact wpAny_pure hQ))
/-- the list at a, as it stands at each turn (a loop may append to it) -/
def Itl (K : PySem.W.Frag) (a : Addr) : It :=
  ⟨fun i H => ∃ xs x, SqL K H a xs ∧ xs[i]? = some x, fun i H x H' => H' = H ∧ ∀ xs, SqL K H a xs → xs[i]? = some x, fun i H => ∃ xs, SqL K H a xs ∧ xs.length ≤ i⟩
/-- lo, lo + 1, .. (n of them) -/
def Itr (lo : Int) (n : Nat) : It := ⟨fun i _ => i < n, fun i H x H' => H' = H ∧ x = .int (lo + i), fun i _ => n ≤ i⟩
theorem turn_range {P : Program} {w : World} {K : PySem.W.Frag} {tg : Expr} (it : Addr) (lo : Int) (n : Nat) : Turn P w K tg (Itr lo n) [it] it (fun i h => IsRangeIter h it (lo + (i : Nat) * 1) ((n : Int) - (i : Nat)) 1) where
  mem := by simp
  obj := fun i h st b hb => by
    have e : b = it := by simpa using hb
    subst e
    exact ⟨_, st, fun v z => by
      have z' : Data.fields _ = Data.cell v := z
      cases z'⟩
  keep := fun i h h' st k => k it (by simp) _ st
  item := by
    intro X hP hw hK hc i pins s σ H E I hf st hg
    subst hP hw hK
    obtain ⟨f0, f1, f2, f3, f4, f5⟩ := hf it (by simp)
    have W := Walks.range (prog := X.prog) (w := X.w) (I.ok.hd hc) it lo 1 n
    refine W.item i s _ _ hg st fun v h' tk hv st' kk => ?_
    obtain ⟨t, rfl⟩ := hv
    have I1 : Inv X pins σ H { s with heap := h', toks := tk } := I.turned (fun b o hb e => kk b o (by simpa using hb) e) f0 f1 f3 f4 f5
    refine ⟨_, rfl, go_of (s := { s with heap := h', toks := tk }) (n := "range_iterator") st' rfl rfl (by decide) ⟨.int (lo + i), H, I1, ⟨t, ?_⟩, ⟨rfl, rfl⟩, st', fun b hb => (hf b hb).1⟩⟩
    rw [Int.mul_one]
  done := by
    intro X hP hw hK hc i pins s σ H E I hf st hg
    subst hP hw hK
    obtain ⟨f0, f1, f2, f3, f4, f5⟩ := hf it (by simp)
    exact wpAny_pyNext_range_end (I.ok.hd hc) st (by have : n ≤ i := hg; omega) fun h' eb => ⟨rfl, I.turned (t' := s.toks) (fun b o hb e => eb b o hb e) f0 f1 f3 f4 f5⟩
  self := fun _ _ _ _ _ st h => wpAny_pyIter_rangeiter st h
end L2
namespace L2
open PySem PySem.Spec PyProof.Rows
section
variable {X : Cx} {tg : Expr}
def iList (K : PySem.W.Frag) (tl : TE) : TI := fun σ H R => tl σ H fun x H1 => ∃ a, x = .ref a ∧ (∃ xs, SqL K H1 a xs) ∧ R (Itl K a) H1
/-- a range object just made, walked -/
theorem range_it {pins : List (Addr × Obj)} {σ : St} {H : Hp} {s : Shared} {R : It → Hp → Prop} {E : Value → Shared → Prop} {lo hi : Int} {t u v : Tok} {tk : Nat} (I : Inv X pins σ H s) (h1 : -(2 ^ 62) ≤ lo) (h2 : lo < 2 ^ 62) (h3 : -(2 ^ 62) ≤ hi) (h4 : hi < 2 ^ 62)
    (q : R (Itr lo (hi - lo).toNat) H) : wpAny (model X.prog X.w) X.A (pyIter (.ref s.heap.objs.size)) (PIE X pins σ tg R) E { s with heap := s.heap.push { cls := .type "range", data := .fields #[.int lo t, .int hi u, .int 1 v] }, toks := tk } := by
  refine wpAny_pyIter_range (IsRange.new ..) (small_one h1 h2 h3 h4) ?_
  have I1 : Inv X pins σ H { s with heap := s.heap.push { cls := .type "range", data := .fields #[.int lo t, .int hi u, .int 1 v] }, toks := tk } := I.kept fun b o e => Heap.get?_push_of_some _ e
  refine ⟨(s.heap.push { cls := .type "range", data := .fields #[.int lo t, .int hi u, .int 1 v] }).objs.size, [(s.heap.push { cls := .type "range", data := .fields #[.int lo t, .int hi u, .int 1 v] }).objs.size], _, _, H, rfl,
    I1.kept (t' := tk) fun b o e => Heap.get?_push_of_some _ e, turn_range _ lo (hi - lo).toNat, ?_, fun b hb => ?_, q⟩
  · have e1 : lo + ((0 : Nat) : Int) * 1 = lo := by simp
    have e2 : (((hi - lo).toNat : Nat) : Int) - ((0 : Nat) : Int) = Builtin.Range.rangeSize lo hi 1 := by rw [rangeSize_one]; split <;> omega
    show IsRangeIter _ _ (lo + ((0 : Nat) : Int) * 1) ((((hi - lo).toNat : Nat) : Int) - ((0 : Nat) : Int)) 1
    rw [e1, e2]
    exact Heap.get?_push_size _ rfl
  · have e : b = (s.heap.push { cls := .type "range", data := .fields #[.int lo t, .int hi u, .int 1 v] }).objs.size := by simpa using hb
    subst e
    exact I1.fpOk (Nat.le_refl _) (I1.hok.fresh (Nat.le_refl _))
def iRng1 (ta : TA) : TI := fun σ H R => ta σ H fun vs H1 => ∃ j : Int, vs = [.int j] ∧ -(2 ^ 62) ≤ j ∧ j < 2 ^ 62 ∧ R (Itr 0 j.toNat) H1
theorem pi_range1 {a : Expr} {ta : TA} {p pos : Pos} (hg : Gl X "range") (hm : X.mg "range" = none) (ha : PA X [a] ta) (hs : starEach [a] X.env = [(false, eval a X.env)] := by rfl) : PI X tg (.Call (.Name "range" p) [a] [] pos) (iRng1 ta) := by
  intro pins s σ H R I h
  refine Call_ (ld_blt I hg hm boot_range (PyProof.Rows.callWith_type1 (thn (ha pos pins s σ H _ I h) fun us s1 ⟨vs, H1, I1, r1, q1⟩ => ?_) hs rfl))
  obtain ⟨j, e, q1, q2, q⟩ := q1
  subst e
  cases r1 with
  | cons r rr =>
    cases rr
    obtain ⟨t, rfl⟩ := r
    exact call_range_1 (range_it I1 (by omega) (by omega) q1 q2 (by simpa using q))
/-- W: the invariant by the turn and a measure; N: what the body is to reach -/
def tFor (wi : TI) (g : TG) (tb : TS) : TS := fun D σ H => wi σ H fun J H1 => ∃ W : Nat → Nat → St → Hp → Prop, (∃ m, W 0 m σ H1) ∧ ∀ i m σ H, W i m σ H →
  (J.stop i H ∧ D.nx σ H) ∨ (J.go i H ∧ ∃ N : St → Hp → Prop, (∀ σ' H', N σ' H' → ∃ m', m' < m ∧ W (i + 1) m' σ' H') ∧ ∀ x H', J.yld i H x H' → g x σ H' fun σ2 H2 => tb { D with nx := N, ct := N, bk := D.nx } σ2 H2)
/-- the records at fp as they stand -/
def pinsAt (fp : List Addr) (h : Heap) : List (Addr × Obj) := fp.filterMap fun b => (h.get? b).map fun o => (b, o)
theorem mem_pinsAt {fp : List Addr} {h : Heap} {b : Addr} {o : Obj} (hb : b ∈ fp) (e : h.get? b = some o) : (b, o) ∈ pinsAt fp h := List.mem_filterMap.mpr ⟨b, hb, by rw [e]; rfl⟩
theorem of_pinsAt {fp : List Addr} {h : Heap} {p : Addr × Obj} (hp : p ∈ pinsAt fp h) : p.1 ∈ fp ∧ h.get? p.1 = some p.2 := by
  obtain ⟨b, hb, e⟩ := List.mem_filterMap.mp hp
  cases q : h.get? b with
  | none => rw [q] at e; cases e
  | some o =>
    rw [q] at e
    have e' : (b, o) = p := Option.some.inj e
    subst e'
    exact ⟨hb, q⟩
theorem Inv.pinned {pins : List (Addr × Obj)} {σ : St} {H : Hp} {s : Shared} {fp : List Addr} (I : Inv X pins σ H s) (hf : ∀ b ∈ fp, FpOk X pins H b) (ho : ∀ b ∈ fp, ∃ o, s.heap.get? b = some o ∧ ∀ v, o.data ≠ .cell v) : Inv X (pins ++ pinsAt fp s.heap) σ H s :=
  I.pins_of fun p hp => (List.mem_append.mp hp).elim (fun z => I.pin p (List.mem_append_right _ z)) fun z => by
    obtain ⟨hb, e⟩ := of_pinsAt z
    obtain ⟨f0, f1, f2, _⟩ := hf p.1 hb
    obtain ⟨o, e', d⟩ := ho p.1 hb
    rw [e] at e'; cases e'
    exact ⟨e, f0, f1, f2, d⟩
theorem Inv.unpinned {pins pl : List (Addr × Obj)} {σ : St} {H : Hp} {s : Shared} (I : Inv X (pins ++ pl) σ H s) : Inv X pins σ H s := I.pins_of fun p hp => I.pin p (List.mem_append_right _ (List.mem_append_left _ hp))
theorem ps_for {iter : Expr} {body : List Stmt} {wi : TI} {g : TG} {tb : TS} {pos : Pos} (hp : PassesOwn (model X.prog X.w) X.A X.env X.xe) (hc : X.calm = true) (hi : PI X tg iter wi) (hg : PG X tg g) (hb : PSs X body tb)
    (hs : ∀ x, foldedSetIterable iter X.env x = pure x := by intro _; rfl) : PS X (.For tg iter body [] pos) (tFor wi g tb) := by
  intro pins s σ H D I h
  refine wpAny_For (thn (hi pins s σ H _ I h) fun v s1 h1 => thn h1 fun itv s2 h2 => ?_) hs
  obtain ⟨it, fp, tn, J, H2, e, I2, T, st2, f2, W, ⟨m0, w0⟩, turn⟩ := h2
  subst e
  -- what stays true of the iterator's objects through the loop
  have stat : ∀ {H' : Hp}, (∀ b ∈ fp, H' b = none) → ∀ b ∈ fp, FpOk X pins H' b := fun hn b hb => ⟨hn b hb, (f2 b hb).2⟩
  refine codeAny_forLoop_any (fun n s' => ∃ i σ' H', Inv X pins σ' H' s' ∧ tn i s'.heap ∧ (∀ b ∈ fp, H' b = none) ∧ W i n σ' H') ?_ m0 ⟨0, σ, H2, I2, st2, fun b hb => (f2 b hb).1, w0⟩
  rintro n s3 ⟨i, σ3, H3, I3, st3, fr3, w3⟩
  rcases turn i n σ3 H3 w3 with ⟨stop, qn⟩ | ⟨go, N, hN, step⟩
  · refine wpAny_passesOwn hp (thn (T.done X rfl rfl rfl hc i pins s3 σ3 H3 X.xe I3 (stat fr3) st3 stop) fun r s4 ⟨hr, I4⟩ => ?_)
    subst hr
    exact wpAny_execs_nil ⟨σ3, H3, I4, qn⟩
  · refine wpAny_passesOwn hp (thn (T.item X rfl rfl rfl hc i pins s3 σ3 H3 X.xe I3 (stat fr3) st3 go) fun r s4 ⟨u, hr, h4⟩ => ?_)
    subst hr
    refine wpAny_passesOwn hp (thn h4 fun _ s5 ⟨x, H5, I5, r5, y5, st5, fr5⟩ => ?_)
    have I5' := I5.pinned (stat fr5) (T.obj _ _ st5)
    refine wpAny_passesOwn hp (thn (hg _ s5 σ3 H5 x u _ I5' r5 (step x H5 y5)) fun _ s6 ⟨σ6, H6, I6, q6⟩ => ?_)
    refine wpAny_passesOwn hp (thn (hb _ s6 σ6 H6 _ I6 q6) fun f s7 q7 => ?_)
    have again : ∀ {σ7 : St} {H7 : Hp}, Inv X (pins ++ pinsAt fp s5.heap) σ7 H7 s7 → N σ7 H7 → ∃ m, m < n ∧ ∃ i σ' H', Inv X pins σ' H' s7 ∧ tn i s7.heap ∧ (∀ b ∈ fp, H' b = none) ∧ W i m σ' H' := fun {σ7 H7} I7 n7 => by
      obtain ⟨m', hm, w7⟩ := hN σ7 H7 n7
      refine ⟨m', hm, i + 1, σ7, H7, I7.unpinned, T.keep _ _ _ st5 fun b hb o e => (I7.pin (b, o) (List.mem_append_right _ (List.mem_append_right _ (mem_pinsAt hb e)))).1, fun b hb => ?_, w7⟩
      obtain ⟨o, e, d⟩ := T.obj _ _ st5 b hb
      exact (I7.pin (b, o) (List.mem_append_right _ (List.mem_append_right _ (mem_pinsAt hb e)))).2.1
    cases f with
    | next => obtain ⟨σ7, H7, I7, n7⟩ := q7; exact again I7 n7
    | cont => obtain ⟨σ7, H7, I7, n7⟩ := q7; exact again I7 n7
    | brk => obtain ⟨σ7, H7, I7, q7⟩ := q7; exact ⟨σ7, H7, I7.unpinned, q7⟩
    | ret v => obtain ⟨x7, σ7, H7, I7, r7, q7⟩ := q7; exact ⟨x7, σ7, H7, I7.unpinned, r7, q7⟩
end
theorem for_range {lo : Int} {n : Nat} {g : TG} {tb : TS} {D : Ends} {σ : St} {H : Hp} (Pv : Nat → St → Hp → Prop) (h0 : Pv 0 σ H)
    (hs : ∀ i σ H, i < n → Pv i σ H → g (.int (lo + i)) σ H fun σ2 H2 => tb { D with nx := Pv (i + 1), ct := Pv (i + 1), bk := D.nx } σ2 H2) (hd : ∀ σ H, Pv n σ H → D.nx σ H) :
    ∃ W : Nat → Nat → St → Hp → Prop, (∃ m, W 0 m σ H) ∧ ∀ i m σ H, W i m σ H →
      ((Itr lo n).stop i H ∧ D.nx σ H) ∨ ((Itr lo n).go i H ∧ ∃ N : St → Hp → Prop, (∀ σ' H', N σ' H' → ∃ m', m' < m ∧ W (i + 1) m' σ' H') ∧ ∀ x H', (Itr lo n).yld i H x H' → g x σ H' fun σ2 H2 => tb { D with nx := N, ct := N, bk := D.nx } σ2 H2) := by
  refine ⟨fun i m σ H => m = n - i ∧ i ≤ n ∧ Pv i σ H, ⟨n, by simp, Nat.zero_le _, h0⟩, ?_⟩
  rintro i m σ H ⟨rfl, hi, p⟩
  by_cases hlt : i < n
  · refine .inr ⟨hlt, Pv (i + 1), fun σ' H' p' => ⟨n - (i + 1), by omega, rfl, hlt, p'⟩, fun x H' y => ?_⟩
    obtain ⟨e, y⟩ := y
    subst e y
    exact hs i σ _ hlt p
  · have e : i = n := by omega
    subst e
    exact .inl ⟨Nat.le_refl _, hd σ H p⟩
end L2
namespace L2
open PySem PySem.Spec PyProof.Rows
abbrev R2 := V → V → Hp → VK → Prop
/-- a two-place operation on values: f is binaryOp op, inplaceOp op or compareOp op -/
def OpR (X : Cx) (f : Value → Value → Sem Value) (r : R2) : Prop :=
  ∀ (pins : List (Addr × Obj)) (s : Shared) (σ : St) (H : Hp) (x y : V) (v u : Value) (Q : VK), Inv X pins σ H s → RelV x v → RelV y u → r x y H Q →
    wpAny (model X.prog X.w) X.A (f v u) (EP X pins σ Q) X.xe s
/-- a call of a value that is known (a builtin, a type) with values -/
def CallR (X : Cx) (f : Value) (r : List V → Hp → VK → Prop) : Prop :=
  ∀ (pins : List (Addr × Obj)) (s : Shared) (σ : St) (H : Hp) (xs : List V) (us : List Value) (Q : VK), Inv X pins σ H s → Vals xs us → r xs H Q →
    wpAny (model X.prog X.w) X.A (call f us) (EP X pins σ Q) X.xe s
def tOp (r : R2) (ta tb : TE) : TE := fun σ H Q => ta σ H fun x H1 => tb σ H1 fun y H2 => r x y H2 Q
def tUn (r : V → Hp → VK → Prop) (ta : TE) : TE := fun σ H Q => ta σ H fun x H1 => r x H1 Q
/-- ints in, under C, and a value out -/
def rI (C : Int → Int → Prop) (g : Int → Int → V) : R2 := fun x y H Q => ∃ i j, x = .int i ∧ y = .int j ∧ C i j ∧ Q (g i j) H
def rI0 (g : Int → Int → V) : R2 := fun x y H Q => ∃ i j, x = .int i ∧ y = .int j ∧ Q (g i j) H
def rU (g : Int → V) : V → Hp → VK → Prop := fun x H Q => ∃ i, x = .int i ∧ Q (g i) H
section
variable {X : Cx} {a b c : Expr} {ta tb tc : TE} {pos : Pos}
theorem binT (ha : PE X a ta) (hb : PE X b tb) {pins : List (Addr × Obj)} {s : Shared} {σ : St} {H : Hp} {R : V → V → Hp → Prop} (I : Inv X pins σ H s)
    (h : ta σ H fun x H1 => tb σ H1 fun y H2 => R x y H2) {Q : Value → Shared → Prop} {f : Value → Value → Sem Value}
    (hf : ∀ v u s2 x y H2, Inv X pins σ H2 s2 → RelV x v → RelV y u → R x y H2 → wpAny (model X.prog X.w) X.A (f v u) Q X.xe s2) :
    wpAny (model X.prog X.w) X.A (eval a X.env) (fun v s₁ => wpAny (model X.prog X.w) X.A (eval b X.env) (fun u s₂ => wpAny (model X.prog X.w) X.A (f v u) Q X.xe s₂) X.xe s₁) X.xe s := by
  refine thn (ha pins s σ H _ I h) fun v s1 ⟨x, H1, I1, r1, q1⟩ => ?_
  refine thn (hb pins s1 σ H1 _ I1 q1) fun u s2 ⟨y, H2, I2, r2, q2⟩ => ?_
  exact hf v u s2 x y H2 I2 r1 r2 q2
theorem pe_op {op : Operator} {r : R2} (ho : OpR X (binaryOp op) r) (ha : PE X a ta) (hb : PE X b tb) : PE X (.BinOp a op b pos) (tOp r ta tb) := by
  intro pins s σ H Q I h
  exact wpAny_BinOp (binT ha hb I h fun v u s2 x y H2 I2 rx ry q => ho pins s2 σ H2 x y v u Q I2 rx ry q)
theorem opI {f : Value → Value → Sem Value} {C : Int → Int → Prop} {g : Int → Int → Int}
    (rule : ∀ (i j : Int) (t u : Tok) (s : Shared) (Q : Value → Shared → Prop) (E : Value → Shared → Prop), C i j → Q (.int (g i j) s.toks) { s with toks := s.toks + 1 } → wpAny (model X.prog X.w) X.A (f (.int i t) (.int j u)) Q E s) :
    OpR X f (rI C fun i j => .int (g i j)) := by
  intro pins s σ H x y v u Q I rx ry h
  obtain ⟨i, j, rfl, rfl, hc, q⟩ := h
  obtain ⟨t, rfl⟩ := rx
  obtain ⟨t', rfl⟩ := ry
  exact rule i j t t' s _ _ hc ⟨.int (g i j), H, I.tok _, ⟨_, rfl⟩, q⟩
theorem opI0 {f : Value → Value → Sem Value} {g : Int → Int → Int}
    (rule : ∀ (i j : Int) (t u : Tok) (s : Shared) (Q : Value → Shared → Prop) (E : Value → Shared → Prop), Q (.int (g i j) s.toks) { s with toks := s.toks + 1 } → wpAny (model X.prog X.w) X.A (f (.int i t) (.int j u)) Q E s) :
    OpR X f (rI0 fun i j => .int (g i j)) := by
  intro pins s σ H x y v u Q I rx ry h
  obtain ⟨i, j, rfl, rfl, q⟩ := h
  obtain ⟨t, rfl⟩ := rx
  obtain ⟨t', rfl⟩ := ry
  exact rule i j t t' s _ _ ⟨.int (g i j), H, I.tok _, ⟨_, rfl⟩, q⟩
theorem opB0 {f : Value → Value → Sem Value} {g : Int → Int → Bool}
    (rule : ∀ (i j : Int) (t u : Tok) (s : Shared) (Q : Value → Shared → Prop) (E : Value → Shared → Prop), Q (.bool (g i j)) s → wpAny (model X.prog X.w) X.A (f (.int i t) (.int j u)) Q E s) :
    OpR X f (rI0 fun i j => .bl (g i j)) := by
  intro pins s σ H x y v u Q I rx ry h
  obtain ⟨i, j, rfl, rfl, q⟩ := h
  obtain ⟨t, rfl⟩ := rx
  obtain ⟨t', rfl⟩ := ry
  exact rule i j t t' s _ _ ⟨.bl (g i j), H, I, rfl, q⟩
def CDiv (i j : Int) : Prop := 0 < j ∧ j < 1073741824
def CPow (i j : Int) : Prop := 0 ≤ j ∧ j ≤ 1000000 ∧ i.natAbs < 2 ^ 64
def CMul (i j : Int) : Prop := (-(2 ^ 64) < i ∧ i < 2 ^ 64) ∨ (-(2 ^ 64) < j ∧ j < 2 ^ 64)
theorem CMul.ok {i j : Int} (h : CMul i j) : IntMulOk i j := by
  rcases h with ⟨h1, h2⟩ | ⟨h1, h2⟩
  · exact .of_left (intBits_le_64 h1 h2)
  · exact .of_right (intBits_le_64 h1 h2)
theorem op_add : OpR X (binaryOp .Add) (rI0 fun i j => .int (i + j)) := opI0 fun _ _ _ _ _ _ _ q => add_int q
theorem op_sub : OpR X (binaryOp .Sub) (rI0 fun i j => .int (i - j)) := opI0 fun _ _ _ _ _ _ _ q => sub_int q
theorem op_mul : OpR X (binaryOp .Mult) (rI CMul fun i j => .int (i * j)) := opI fun _ _ _ _ _ _ _ hc q => mul_int q hc.ok
/-- // by a positive divisor -/
theorem op_fdiv : OpR X (binaryOp .FloorDiv) (rI CDiv fun i j => .int (i / j)) := opI fun i j _ _ _ _ _ hc q => by
  have h1 : (0 : Int) < j := hc.1
  have h2 : j < 1073741824 := hc.2
  exact floordiv_int (by omega) (by rw [Int.fdiv_eq_ediv_of_nonneg i (by omega)]; exact q) (.inl (PyProof.noPylong_small (by omega)))
/-- % by a positive divisor of any size -/
theorem op_mod : OpR X (binaryOp .Mod) (rI (fun _ j => 0 < j) fun i j => .int (i % j)) := opI fun i j _ _ _ _ _ hc q => by
  have h1 : (0 : Int) < j := hc
  exact mod_int' (by omega) (by rw [Int.fmod_eq_emod_of_nonneg i (by omega)]; exact q)
theorem op_pow : OpR X (binaryOp .Pow) (rI CPow fun i j => .int (i ^ j.toNat)) := opI fun _ _ _ _ _ _ _ hc q => pow_int_small hc.1 hc.2.1 hc.2.2 q
end
/-- the scalars that == tells apart as data does -/
def scal : V → V → Bool
  | .non, .non => true | .non, .int _ => true | .int _, .non => true | .non, .bl _ => true | .bl _, .non => true | .non, .str _ => true | .str _, .non => true
  | .int _, .int _ => true | .bl _, .bl _ => true | .str _, .str _ => true | .byt _, .byt _ => true
  | .int _, .str _ => true | .str _, .int _ => true | .bl _, .str _ => true | .str _, .bl _ => true
  | _, _ => false
def rEq : R2 := fun x y H Q => scal x y = true ∧ Q (.bl (decide (x = y))) H
def rNe : R2 := fun x y H Q => scal x y = true ∧ Q (.bl (!decide (x = y))) H
theorem dec_int {i j : Int} : decide (V.int i = V.int j) = (i == j) := by
  rw [Bool.eq_iff_iff]
  simp
theorem dec_bl {i j : Bool} : decide (V.bl i = V.bl j) = (i == j) := by
  rw [Bool.eq_iff_iff]
  simp
theorem dec_str {i j : Str} : decide (V.str i = V.str j) = (i == j) := by
  rw [Bool.eq_iff_iff]
  simp
theorem dec_byt {i j : Array UInt8} : decide (V.byt i = V.byt j) = (i.toList == j.toList) := by
  rw [Bool.eq_iff_iff]
  cases i
  cases j
  simp
section
variable {X : Cx} {a b c : Expr} {ta tb tc : TE} {pos : Pos}
theorem fin_bl {pins : List (Addr × Obj)} {σ : St} {H : Hp} {s : Shared} {Q : VK} {k k' : Bool} (I : Inv X pins σ H s) (q : Q (.bl k) H) (e : k = k') : EP X pins σ Q (.bool k') s := by
  subst e
  exact ⟨.bl k, H, I, rfl, q⟩
theorem op_eq : OpR X (compareOp .Eq) rEq := by
  intro pins s σ H x y v u Q I rx ry h
  obtain ⟨hs, q⟩ := h
  cases x with
  | non =>
    cases rx
    cases y with
    | non => cases ry; exact PySem.EqNone.eq_none_none (fin_bl I q (by simp))
    | bl j => cases ry; exact PySem.EqNone.eq_none_bool (fin_bl I q (by simp))
    | int j => obtain ⟨t', rfl⟩ := ry; exact PySem.EqNone.eq_none_int (fin_bl I q (by simp))
    | str j => obtain ⟨t', rfl⟩ := ry; exact PySem.EqNone.eq_none_str (fin_bl I q (by simp))
    | _ => exact absurd (show false = true from hs) Bool.false_ne_true
  | bl i =>
    cases rx
    cases y with
    | non => cases ry; exact PySem.EqNone.eq_bool_none (fin_bl I q (by simp))
    | bl j => cases ry; exact eq_bool (fin_bl I q dec_bl)
    | str j => obtain ⟨t', rfl⟩ := ry; exact PySem.EqMixed.eq_bool_str (fin_bl I q (by simp))
    | _ => exact absurd (show false = true from hs) Bool.false_ne_true
  | int i =>
    obtain ⟨t, rfl⟩ := rx
    cases y with
    | non => cases ry; exact PySem.EqNone.eq_int_none (fin_bl I q (by simp))
    | int j => obtain ⟨t', rfl⟩ := ry; exact eq_int (fin_bl I q dec_int)
    | str j => obtain ⟨t', rfl⟩ := ry; exact PySem.EqMixed.eq_int_str (fin_bl I q (by simp))
    | _ => exact absurd (show false = true from hs) Bool.false_ne_true
  | str i =>
    obtain ⟨t, rfl⟩ := rx
    cases y with
    | non => cases ry; exact PySem.EqNone.eq_str_none (fin_bl I q (by simp))
    | bl j => cases ry; exact PySem.EqMixed.eq_str_bool (fin_bl I q (by simp))
    | int j => obtain ⟨t', rfl⟩ := ry; exact PySem.EqMixed.eq_str_int (fin_bl I q (by simp))
    | str j => obtain ⟨t', rfl⟩ := ry; exact eq_str (fin_bl I q dec_str)
    | _ => exact absurd (show false = true from hs) Bool.false_ne_true
  | byt i =>
    obtain ⟨t, rfl⟩ := rx
    cases y with
    | byt j => obtain ⟨t', rfl⟩ := ry; exact PySem.W.eq_bytes (fin_bl I q dec_byt)
    | _ => exact absurd (show false = true from hs) Bool.false_ne_true
  | _ => cases y <;> exact absurd (show false = true from hs) Bool.false_ne_true
theorem op_ne : OpR X (compareOp .NotEq) rNe := by
  intro pins s σ H x y v u Q I rx ry h
  obtain ⟨hs, q⟩ := h
  cases x with
  | non =>
    cases rx
    cases y with
    | non => cases ry; exact PySem.EqNone.ne_none_none (fin_bl I q (by simp))
    | bl j => cases ry; exact PySem.EqNone.ne_none_bool (fin_bl I q (by simp))
    | int j => obtain ⟨t', rfl⟩ := ry; exact PySem.EqNone.ne_none_int (fin_bl I q (by simp))
    | str j => obtain ⟨t', rfl⟩ := ry; exact PySem.EqNone.ne_none_str (fin_bl I q (by simp))
    | _ => exact absurd (show false = true from hs) Bool.false_ne_true
  | bl i =>
    cases rx
    cases y with
    | non => cases ry; exact PySem.EqNone.ne_bool_none (fin_bl I q (by simp))
    | bl j => cases ry; exact ne_bool (fin_bl I q (congrArg not dec_bl))
    | str j => obtain ⟨t', rfl⟩ := ry; exact PySem.EqMixed.ne_bool_str (fin_bl I q (by simp))
    | _ => exact absurd (show false = true from hs) Bool.false_ne_true
  | int i =>
    obtain ⟨t, rfl⟩ := rx
    cases y with
    | non => cases ry; exact PySem.EqNone.ne_int_none (fin_bl I q (by simp))
    | int j => obtain ⟨t', rfl⟩ := ry; exact ne_int (fin_bl I q (congrArg not dec_int))
    | str j => obtain ⟨t', rfl⟩ := ry; exact PySem.EqMixed.ne_int_str (fin_bl I q (by simp))
    | _ => exact absurd (show false = true from hs) Bool.false_ne_true
  | str i =>
    obtain ⟨t, rfl⟩ := rx
    cases y with
    | non => cases ry; exact PySem.EqNone.ne_str_none (fin_bl I q (by simp))
    | bl j => cases ry; exact PySem.EqMixed.ne_str_bool (fin_bl I q (by simp))
    | int j => obtain ⟨t', rfl⟩ := ry; exact PySem.EqMixed.ne_str_int (fin_bl I q (by simp))
    | str j => obtain ⟨t', rfl⟩ := ry; exact ne_str (fin_bl I q (congrArg not dec_str))
    | _ => exact absurd (show false = true from hs) Bool.false_ne_true
  | byt i =>
    obtain ⟨t, rfl⟩ := rx
    cases y with
    | byt j => obtain ⟨t', rfl⟩ := ry; exact PySem.W.ne_bytes (fin_bl I q (congrArg not dec_byt))
    | _ => exact absurd (show false = true from hs) Bool.false_ne_true
  | _ => cases y <;> exact absurd (show false = true from hs) Bool.false_ne_true
theorem op_lt : OpR X (compareOp .Lt) (rI0 fun i j => .bl (decide (i < j))) := opB0 fun _ _ _ _ _ _ _ q => lt_int q
theorem op_gt : OpR X (compareOp .Gt) (rI0 fun i j => .bl (decide (j < i))) := opB0 fun _ _ _ _ _ _ _ q => gt_int q
theorem op_ge : OpR X (compareOp .GtE) (rI0 fun i j => .bl (decide (j ≤ i))) := opB0 fun _ _ _ _ _ _ _ q => ge_int q
/-- the one string within the other -/
theorem op_in_str : OpR X (compareOp .In) (fun x y H Q => ∃ i j, x = .str i ∧ y = .str j ∧ Q (.bl (!(Builtin.Str.occurrences j i 0 j.length 1).isEmpty)) H) := by
  intro pins s σ H x y v u Q I rx ry h
  obtain ⟨i, j, rfl, rfl, q⟩ := h
  obtain ⟨t, rfl⟩ := rx
  obtain ⟨t', rfl⟩ := ry
  exact in_str (fin_bl I q rfl)
/-- two rules for one operation: by cases -/
theorem OpR.or {f : Value → Value → Sem Value} {r r' : R2} (h : OpR X f r) (h' : OpR X f r') : OpR X f (fun x y H Q => r x y H Q ∨ r' x y H Q) := by
  intro pins s σ H x y v u Q I rx ry q
  rcases q with q | q
  · exact h pins s σ H x y v u Q I rx ry q
  · exact h' pins s σ H x y v u Q I rx ry q
theorem nomark (b : Expr) {op : CmpOp} (h : op ≠ .In := by decide) (h2 : op ≠ .NotIn := by decide) : behindInMarks op b = false := by
  have e1 : (op == CmpOp.In) = false := by cases op <;> first | rfl | exact absurd rfl h
  have e2 : (op == CmpOp.NotIn) = false := by cases op <;> first | rfl | exact absurd rfl h2
  cases b <;> simp [behindInMarks, e1, e2]
/-- a comparison as a value; hm: nomark b, or (for in, not in) by with_unfolding_all rfl -/
theorem pe_cmpR {op : CmpOp} {r : R2} (ho : OpR X (compareOp op) r) (ha : PE X a ta) (hb : PE X b tb) (hm : behindInMarks op b = false) : PE X (.Compare a [op] [b] pos) (tOp r ta tb) := by
  intro pins s σ H Q I h
  exact wpAny_Compare1 (binT ha hb I h fun v u s2 x y H2 I2 rx ry q => ho pins s2 σ H2 x y v u Q I2 rx ry q) hm
/-- a reading of a value as a test -/
def tTest (t : TE) : TT := fun σ H Q => t σ H fun x H' => ∃ k, x = .bl k ∧ Q k H'
theorem pt_cmpR {op : CmpOp} {r : R2} (ho : OpR X (compareOp op) r) (ha : PE X a ta) (hb : PE X b tb) (hm : behindInMarks op b = false) : PT X (.Compare a [op] [b] pos) (tTest (tOp r ta tb)) := by
  intro pins s σ H Q I h
  refine wpAny_isTrue_Compare1 (thn (ha pins s σ H _ I h) fun v s1 ⟨x, H1, I1, r1, q1⟩ => thn (hb pins s1 σ H1 _ I1 q1) fun u s2 ⟨y, H2, I2, r2, q2⟩ =>
    thn (ho pins s2 σ H2 x y v u _ I2 r1 r2 q2) fun c s3 ⟨z, H3, I3, r3, k, e, q3⟩ => ?_) hm
  subst e
  cases r3
  exact wpAny_truthy_bool ⟨H3, I3, q3⟩
/-- a op1 b op2 c -/
def tChain (r r' : R2) (ta tb tc : TE) : TE := fun σ H Q => ta σ H fun x H1 => tb σ H1 fun y H2 => r x y H2 fun z H3 => ∃ k, z = .bl k ∧
  (if k = true then tc σ H3 fun w' H4 => r' y w' H4 Q else Q (.bl false) H3)
theorem pe_chain {op op' : CmpOp} {r r' : R2} (ho : OpR X (compareOp op) r) (ho' : OpR X (compareOp op') r') (ha : PE X a ta) (hb : PE X b tb) (hc : PE X c tc)
    (hm : lastMarks [op, op'] [b, c] = false := by with_unfolding_all rfl) : PE X (.Compare a [op, op'] [b, c] pos) (tChain r r' ta tb tc) := by
  intro pins s σ H Q I h
  refine Compare_chain (thn (ha pins s σ H _ I h) fun v s1 ⟨x, H1, I1, r1, q1⟩ => chain_link (thn (hb pins s1 σ H1 _ I1 q1) fun u s2 ⟨y, H2, I2, r2, q2⟩ =>
    thn (ho pins s2 σ H2 x y v u _ I2 r1 r2 q2) fun d s3 ⟨z, H3, I3, r3, k, e, q3⟩ => ?_)) hm
  subst e
  cases r3
  refine wpAny_truthy_bool ?_
  cases k with
  | false => exact ite_ff ⟨.bl false, H3, I3, rfl, q3⟩
  | true => exact ite_tt (chain_last (thn (hc pins s3 σ H3 _ I3 q3) fun w' s4 ⟨z', H4, I4, r4, q4⟩ => ho' pins s4 σ H4 y z' u w' Q I4 r2 r4 q4))
theorem line63 : (sizeLine : Nat) < 2 ^ 63 := by rw [sizeLine_eq]; decide
theorem op_add_str : OpR X (binaryOp .Add) (fun x y H Q => ∃ i j, x = .str i ∧ y = .str j ∧ i.length + j.length ≤ sizeLine ∧ Q (.str (i ++ j)) H) := by
  intro pins s σ H x y v u Q I rx ry h
  obtain ⟨i, j, rfl, rfl, hz, q⟩ := h
  obtain ⟨t, rfl⟩ := rx
  obtain ⟨t', rfl⟩ := ry
  exact add_str (fun t' tk => ⟨.str (i ++ j), H, I.tok _, ⟨_, rfl⟩, q⟩) hz
theorem vals1 {x : V} {us : List Value} (r : Vals [x] us) : ∃ u, us = [u] ∧ RelV x u := by
  cases r with
  | cons r1 r2 => cases r2; exact ⟨_, rfl, r1⟩
theorem vals2 {x y : V} {us : List Value} (r : Vals [x, y] us) : ∃ u w', us = [u, w'] ∧ RelV x u ∧ RelV y w' := by
  cases r with
  | cons r1 r2 =>
    cases r2 with
    | cons r3 r4 => cases r4; exact ⟨_, _, rfl, r1, r3⟩
theorem call_max2 (hc : X.calm = true) : CallR X (.builtin "max") (fun xs H Q => ∃ i j, xs = [.int i, .int j] ∧ Q (.int (if j > i then j else i)) H) := by
  intro pins s σ H xs us Q I r h
  obtain ⟨i, j, rfl, q⟩ := h
  obtain ⟨u, w', rfl, ⟨t, rfl⟩, ⟨t', rfl⟩⟩ := vals2 r
  refine max_two_ints (I.ok.hd hc) fun h' tk k => ⟨_, H, I.kept k, ?_, q⟩
  by_cases hj : j > i
  · rw [if_pos hj, if_pos hj]; exact ⟨_, rfl⟩
  · rw [if_neg hj, if_neg hj]; exact ⟨_, rfl⟩
theorem call_int1 : CallR X (.type "int") (fun xs H Q => (∃ i, xs = [.int i] ∧ Q (.int i) H) ∨ ∃ k, xs = [.bl k] ∧ Q (.int (if k then 1 else 0)) H) := by
  intro pins s σ H xs us Q I r h
  rcases h with ⟨i, rfl, q⟩ | ⟨k, rfl, q⟩
  · obtain ⟨u, rfl, t, rfl⟩ := vals1 r
    exact call_int_int ⟨.int i, H, I, ⟨_, rfl⟩, q⟩
  · obtain ⟨u, rfl, r1⟩ := vals1 r
    cases r1
    exact call_int_bool ⟨.int (if k then 1 else 0), H, I.tok _, ⟨_, rfl⟩, q⟩
theorem call_str_int : CallR X (.type "str") (fun xs H Q => ∃ i, xs = [.int i] ∧ i.natAbs.log2 < 1920 ∧ Q (.str (toString i)) H) := by
  intro pins s σ H xs us Q I r h
  obtain ⟨i, rfl, hz, q⟩ := h
  obtain ⟨u, rfl, t, rfl⟩ := vals1 r
  exact PySem.P.str_of_int hz ⟨.str _, H, I.tok _, ⟨_, rfl⟩, q⟩
theorem call_ord : CallR X (.builtin "ord") (fun xs H Q => ∃ x, xs = [.str x] ∧ x.length = 1 ∧ Q (.int (x.cps.getD 0 0 : Nat)) H) := by
  intro pins s σ H xs us Q I r h
  obtain ⟨x, rfl, hz, q⟩ := h
  obtain ⟨u, rfl, t, rfl⟩ := vals1 r
  exact ord_of_one hz ⟨.int _, H, I.tok _, ⟨_, rfl⟩, q⟩
end
end L2
namespace L2
open PySem PySem.Spec PyProof.Rows
structure ObjM (h : Heap) (x dx C : Addr) (mA : Str → Option Value) : Prop where
  obj : h.get? x = some (PySem.W.instObj C dx)
  ns : h.Ns1 dx mA
  ne : dx ≠ x
theorem lookIn_ns {h : Heap} {dx : Addr} {mA : Str → Option Value} (n : h.Ns1 dx mA) : ∃ od, h.get? dx = some od ∧ ∀ name, PySem.W.lookIn name od = some (mA name) := by
  obtain ⟨o, es, ep, ho, hd, hk, _, hm⟩ := n
  refine ⟨o, ho, fun name => ?_⟩
  have e := hm name
  unfold nsFind findBy at e
  rw [← Array.find?_toList] at e
  unfold PySem.W.lookIn
  rw [hd]
  dsimp only
  split
  · rename_i y q
    rw [q] at e
    exact congrArg some e
  · rename_i q
    rw [q] at e
    have a : es.toList.any (·.refKey) = false := by
      rw [List.any_eq_false]
      intro y hy
      obtain ⟨z, t, hkey⟩ := hk y (Array.mem_toList_iff.mp hy)
      simp [DictEntry.refKey, hkey]
    have a' : ¬ es.toList.any (·.refKey) = true := by rw [a]; exact Bool.false_ne_true
    rw [if_neg a']
    exact congrArg some e
theorem ObjM.look {h : Heap} {x dx C : Addr} {mA : Str → Option Value} (I : ObjM h x dx C mA) : ∃ od, PySem.W.InstAt h x (PySem.W.instObj C dx) C (some od) ∧ ∀ name, PySem.W.lookIn name od = some (mA name) :=
  let ⟨od, ho, hl⟩ := lookIn_ns I.ns
  ⟨od, ⟨I.obj, rfl, rfl, ho⟩, hl⟩
section
variable {prog : Program} {w : World} {A : Around} {E : Value → Shared → Prop} {s : Shared} {K : PySem.W.Frag} {x dx C f : Addr} {mA : Str → Option Value} {name : Str} {v : Value}
end
theorem RelO.none_of {o : Option Value} (r : RelO none o) : o = none := by
  cases o with
  | none => rfl
  | some u => exact (show False from r).elim
section
variable {P : Program} {w : World} {H H' : Hp} {h h' : Heap} {a C dx : Addr} {fs fs' : List (Str × V)}
theorem ins_get (hok : HOk P w H h) (e : H a = some (.ins C dx fs)) : ∃ mA, ObjM h a dx C mA ∧ (∀ f, RelO (fs.lookup f) (mA f)) ∧ PySem.Within mA (fs.map (·.1)) ∧ fs.length ≤ 1000 ∧ H dx = some (.own a) := by
  obtain ⟨d, z, ne, ob, mA, n, r, q⟩ := (show ObjOk P w H h a (.ins C dx fs) from hok a _ e)
  exact ⟨mA, ⟨ob, n, ne⟩, r, q, z, d⟩
end
structure Cls (K : PySem.W.Frag) (C : Addr) : Prop where
  pg : PySem.W.plainGet K C Str.empty = true
  hd : PySem.W.hasDictIn K C = true
  po : PySem.W.plainOver K C = true
  sa : PySem.W.findIn K (.ref C) "__setattr__" = some (some (.builtin "object.__setattr__"))
theorem Cls.get {K : PySem.W.Frag} {C : Addr} (c : Cls K C) (f : Str) : PySem.W.plainGet K C f = true := c.pg
/-- a constant of the class -/
structure Con (K : PySem.W.Frag) (C : Addr) (f : Str) (v : V) (u : Value) : Prop where
  at_ : PySem.W.findIn K (.ref C) f = some (some u)
  rel : RelV v u
  get : PySem.W.specialIn K u "__get__" = some none
  cp : PySem.W.copiedNames.contains f = false
/-- a method: a plain def of the class or of one above it -/
structure Meth (K : PySem.W.Frag) (C : Addr) (m : Str) (f : Addr) : Prop where
  at_ : PySem.W.findIn K (.ref C) m = some (some (.ref f))
  fn : PySem.W.isFn K (.ref f) = true
  kp : PySem.W.keepIn K (.ref f) = true
section
variable {X : Cx} {pins : List (Addr × Obj)} {σ : St} {H : Hp} {s : Shared} {a C dx : Addr} {fs : List (Str × V)} {f : Str} {v : V} {A : Around} {E : Value → Shared → Prop}
/-- a new instance, tracked, without attributes -/
theorem Inv.made (I : Inv X pins σ H s) : Inv X pins σ (upd (upd H s.heap.objs.size (.own (s.heap.objs.size + 1))) (s.heap.objs.size + 1) (.ins C s.heap.objs.size []))
    { s with heap := (s.heap.push PySem.W.emptyDict).push (PySem.W.instObj C s.heap.objs.size) } := by
  have e1 : (s.heap.push PySem.W.emptyDict).get? s.heap.objs.size = some PySem.W.emptyDict := Heap.get?_push_size s.heap rfl
  have e2 : ((s.heap.push PySem.W.emptyDict).push (PySem.W.instObj C s.heap.objs.size)).get? (s.heap.objs.size + 1) = some (PySem.W.instObj C s.heap.objs.size) := by
    have := Heap.get?_push_size (s.heap.push PySem.W.emptyDict) (o := PySem.W.instObj C s.heap.objs.size) rfl
    rwa [Heap.size_push] at this
  have e3 : (s.heap.push PySem.W.emptyDict).Ns s.heap.objs.size (fun _ => none) := ⟨PySem.W.emptyDict, #[], _, e1, rfl, (fun e he => absurd he (by simp)), fun _ => rfl⟩
  have I1 := I.laid (a := s.heap.objs.size) (o := .own (s.heap.objs.size + 1)) (h' := s.heap.push PySem.W.emptyDict) (t' := s.toks) (fun b u q => Heap.get?_push_of_some _ q) (Nat.le_refl _) ⟨_, e1⟩
  refine I1.laid (a := s.heap.objs.size + 1) (o := .ins C s.heap.objs.size []) (t' := s.toks) (fun b u q => Heap.get?_push_of_some _ q) (Nat.le_of_eq (Heap.size_push _ _)) ?_
  have ne : s.heap.objs.size ≠ s.heap.objs.size + 1 := Nat.ne_of_lt (Nat.lt_succ_self _)
  refine ⟨by rw [upd_ne ne, upd_same], Nat.zero_le _, ne, e2, fun _ => none, (Heap.Ns1.of_empty e3).at fun o q => Heap.get?_push_of_some _ q, fun _ => True.intro, fun y hy => absurd rfl hy⟩
/-- e.f where nothing but the object is asked: through attributeBase (super) and the last hold -/
theorem attr_of {prog : Program} {w : World} {env : Env} {e : Expr} {f : Str} {pos : Pos} {s : Shared} {Q : Value → Shared → Prop} (hb : attributeBase e f env (eval e env) = eval e env)
    (h : wpAny (model prog w) A (eval e env) (fun o s₁ => wpAny (model prog w) A (getAttr o f true) Q E s₁) E s) : wpAny (model prog w) A (eval (.Attribute e f pos) env) Q E s :=
  Attribute_any_ h (by rw [arm_eval_Attribute, hb])
end
section
variable {X : Cx} {o e value : Expr} {f : Str} {pos pos' tpos : Pos} {ta tv : TE}
end
section
variable {X : Cx} {pins : List (Addr × Obj)} {σ : St} {H : Hp} {s : Shared} {A : Around} {E : Value → Shared → Prop} {Q : Value → Shared → Prop} {c : Value} {b : Bool}
/-- the type of a value, as the fragment's deciders take it; for an instance its class -/
inductive TyOf (K : PySem.W.Frag) (H : Hp) : V → Value → Prop where
  | non : TyOf K H .non (.type "NoneType")
  | bl (x : Bool) : TyOf K H (.bl x) (.type "bool")
  | int (i : Int) : TyOf K H (.int i) (.type "int")
  | str (x : Str) : TyOf K H (.str x) (.type "str")
  | flt (x : UInt64) : TyOf K H (.flt x) (.type "float")
  | lst {a : Addr} {xs : List V} (e : H a = some (.lst xs)) : TyOf K H (.ref a) (.type "list")
  | frz {a : Addr} {o : Obj} {xs : List V} (e : H a = some (.frz o (.lst xs))) : TyOf K H (.ref a) (.type "list")
  | tup {a : Addr} {xs : List V} (e : H a = some (.tup xs)) : TyOf K H (.ref a) (.type "tuple")
  | dK {a : Addr} {kvs : List (Key × V)} (e : H a = some (.dK kvs)) : TyOf K H (.ref a) (.type "dict")
  | dT {a : Addr} {kvs : List (List Key × V)} (e : H a = some (.dT kvs)) : TyOf K H (.ref a) (.type "dict")
  | ins {a C dx : Addr} {fs : List (Str × V)} (e : H a = some (.ins C dx fs)) (cl : Cls K C) (ha : PySem.W.findIn K (.ref C) "__class__" = some (some (.builtin "object.__class__")))
      (hn : PySem.W.specialIn K (.builtin "object.__class__") "__get__" = some (some (.builtin "getset_descriptor.__get__"))) (htk : PySem.W.takesIn K (.builtin "object.__class__") = some true)
      (hm : PySem.W.mroIn K C (.type "object") = some true) : TyOf K H (.ref a) (.ref C)
/-- isinstance(x, c) for one class c, a built-in or an own one: kitOne's answer -/
theorem isinst_ok {x : V} {u t : Value} (I : Inv X pins σ H s) (rx : RelV x u) (ty : TyOf X.K H x t) (e : PySem.W.kitOne X.K t c = some b) (h : ∀ tk, Q (.bool b) { s with toks := tk }) :
    wpAny (model X.prog X.w) A (call (.builtin "isinstance") [u, c]) Q E s := by
  cases ty with
  | non => cases (show u = Value.none from rx); exact PySem.W.kia_one PySem.W.kitx_none I.kIn True.intro e (fun z => nomatch z) h
  | bl y => cases (show u = Value.bool y from rx); exact PySem.W.kia_one PySem.W.kitx_bool I.kIn True.intro e (fun z => nomatch z) h
  | int i => obtain ⟨t, q⟩ := (show ∃ t, u = Value.int i t from rx); cases q; exact PySem.W.kia_one PySem.W.kitx_int I.kIn True.intro e (fun z => nomatch z) h
  | str y => obtain ⟨t, q⟩ := (show ∃ t, u = Value.str y t from rx); cases q; exact PySem.W.kia_one PySem.W.kitx_str I.kIn True.intro e (fun z => nomatch z) h
  | flt y => obtain ⟨t, q⟩ := (show ∃ t, u = Value.float y t from rx); cases q; exact PySem.W.kia_one PySem.W.kitx_float I.kIn True.intro e (fun z => nomatch z) h
  | @lst a xs ea =>
    cases (show u = Value.ref a from rx)
    obtain ⟨_, _, n, _, h1⟩ := (show ObjOk X.prog X.w H s.heap a (.lst xs) from I.hok a _ ea)
    exact PySem.W.kia_one PySem.W.kitx_list I.kIn ⟨_, h1, rfl⟩ e (fun z => nomatch z) h
  | @frz a ob xs ea =>
    cases (show u = Value.ref a from rx)
    obtain ⟨_, _, _, n, _, h1⟩ := (show ObjOk X.prog X.w H s.heap a (.frz ob (.lst xs)) from I.hok a _ ea)
    exact PySem.W.kia_one PySem.W.kitx_list I.kIn ⟨_, h1, rfl⟩ e (fun z => nomatch z) h
  | @tup a xs ea =>
    cases (show u = Value.ref a from rx)
    obtain ⟨_, _, _, p⟩ := (show ObjOk X.prog X.w H s.heap a (.tup xs) from I.hok a _ ea)
    obtain ⟨o, h1, h2, _⟩ := p
    exact PySem.W.kia_one PySem.W.kitx_tuple I.kIn ⟨o, h1, h2⟩ e (fun z => nomatch z) h
  | @dK a kvs ea =>
    cases (show u = Value.ref a from rx)
    obtain ⟨_, _, vs, _, p⟩ := (show ObjOk X.prog X.w H s.heap a (.dK kvs) from I.hok a _ ea)
    obtain ⟨o, es, ep, h1, h2, _⟩ := p
    exact PySem.W.kia_one PySem.W.kitx_dict I.kIn ⟨o, h1, h2.1⟩ e (fun z => nomatch z) h
  | @dT a kvs ea =>
    cases (show u = Value.ref a from rx)
    obtain ⟨_, _, xs, _, o, es, ep, h1, h2, _⟩ := (show ObjOk X.prog X.w H s.heap a (.dT kvs) from I.hok a _ ea)
    exact PySem.W.kia_one PySem.W.kitx_dict I.kIn ⟨o, h1, h2.1⟩ e (fun z => nomatch z) h
  | @ins a C dx fs ea cl ha hn htk hm =>
    cases (show u = Value.ref a from rx)
    obtain ⟨mA, O, _⟩ := ins_get I.hok ea
    obtain ⟨od, J, _⟩ := O.look
    exact PySem.W.kia_one (PySem.W.kitx_own (cl.get _) cl.hd ha hn htk hm) I.kIn J e (fun z => nomatch z) h
end
end L2
namespace L2
open PySem PySem.Spec PyProof.Rows
structure Room (k : Nat) (A : Around) : Prop where
  hd : A.handled = none
  dp : A.depth + 3 * k + 5 < recursionLimit
  un : A.units + 16 * k + 200 < cLine
theorem Room.mono {j k : Nat} {A : Around} (r : Room k A) (h : j ≤ k) : Room j A := ⟨r.hd, by have := r.dp; omega, by have := r.un; omega⟩
theorem Room.deeper {k : Nat} {A : Around} (r : Room (k + 1) A) (env : Env) : Room k (A.deeper env) :=
  ⟨r.hd, by have := r.dp; show A.depth + 1 + 3 * k + 5 < _; omega, by have := r.un; show A.units + 3 + 16 * k + 200 < _; omega⟩
theorem Room.in1 {k : Nat} {A : Around} (r : Room (k + 1) A) : Room k A.in1 :=
  ⟨r.hd, by have := r.dp; show A.depth + 3 * k + 5 < _; omega, by have := r.un; show A.units + 1 + 16 * k + 200 < _; omega⟩
theorem make_depth {A : Around} {C : Addr} {us : List Value} {kw : List (Str × Value)} : (A.under (.builtin "type.__call__" ⟨.ref C :: us, kw⟩)).depth = A.depth + 1 := by
  first | rfl | simp [Around.under, Code.weight, Code.isCreation, Code.isGuard, Code.isCaller, Code.frames, Code.isFrame, guardIds]
theorem make_units {A : Around} {C : Addr} {us : List Value} {kw : List (Str × Value)} : (A.under (.builtin "type.__call__" ⟨.ref C :: us, kw⟩)).units = A.units + 1 := by
  first | rfl | simp [Around.under, Code.cUnits, Code.frames, Code.isFrame]
theorem Room.make {k : Nat} {A : Around} (r : Room (k + 1) A) (C : Addr) (us : List Value) (kw : List (Str × Value)) : Room k (A.under (.builtin "type.__call__" ⟨.ref C :: us, kw⟩)) :=
  ⟨r.hd, by have := r.dp; rw [make_depth]; omega, by have := r.un; rw [make_units]; omega⟩
theorem Room.depth {k : Nat} {A : Around} (r : Room k A) : A.depth < recursionLimit := by have := r.dp; omega
theorem Room.units {k : Nat} {A : Around} (r : Room k A) : A.units + 64 < cLine := by have := r.un; omega
theorem Room.units0 {k : Nat} {A : Around} (r : Room k A) : A.units < cLine := by have := r.un; omega
def tNil : TA := fun _ H Q => Q [] H
def tCons (ta : TE) (tr : TA) : TA := fun σ H Q => ta σ H fun x H1 => tr σ H1 fun xs H2 => Q (x :: xs) H2
section
variable {X : Cx} {e : Expr} {es : List Expr} {te : TE} {t : TA} {pos : Pos}
theorem pa_nil : PA X [] tNil := fun _ _ _ _ H Q I h => Calls.spliced_nil ⟨[], H, I, .nil, h⟩
theorem pa_cons (ha : PE X e te) (hr : PA X es t) (hs : starEach (e :: es) X.env = (false, eval e X.env) :: starEach es X.env := by rfl) : PA X (e :: es) (tCons te t) := by
  intro pos pins s σ H Q I h
  rw [hs]
  show wpAny _ _ (spliced ((false, eval e X.env) :: backTo pos (starEach es X.env))) _ _ s
  refine Calls.spliced_cons (thn (ha pins s σ H _ I h) fun u s1 ⟨x, H1, I1, r1, q1⟩ => ?_)
  exact thn (hr pos pins s1 σ H1 _ I1 q1) fun us s2 ⟨xs, H2, I2, r2, q2⟩ => ⟨x :: xs, H2, I2, .cons r1 r2, q2⟩
/-- a tuple, a list of written items -/
def tTup (t : TA) : TE := fun σ H Q => t σ H fun xs H1 => xs.length ≤ sizeLine ∧ ∀ p, H1 p = none → Q (.ref p) (upd H1 p (.tup xs))
def tLst (t : TA) : TE := fun σ H Q => t σ H fun xs H1 => xs.length ≤ sizeLine ∧ ∀ p, H1 p = none → Q (.ref p) (upd H1 p (.lst xs))
theorem pe_tup {x1} (h : PA X es t) : PE X (.Tuple es x1 pos) (tTup t) := by
  intro pins s σ H Q I hq
  refine wpAny_Tuple_spliced (thn (h pos pins s σ H _ I hq) fun us s1 ⟨xs, H1, I1, r, z, q⟩ => ⟨by rw [← r.length]; exact z, ?_⟩)
  have hf : H1 s1.heap.objs.size = none := I1.hok.fresh (Nat.le_refl _)
  refine ⟨.ref s1.heap.objs.size, upd H1 s1.heap.objs.size (.tup xs), I1.laid (t' := s1.toks) (fun b u e => Heap.get?_push_of_some _ e) (Nat.le_refl _) ?_, rfl, q _ hf⟩
  exact ⟨z, us, r, ⟨_, Heap.get?_push_size _ rfl, rfl, _, rfl⟩⟩
theorem pe_lst (h : PA X es t) : PE X (.List es pos) (tLst t) := by
  intro pins s σ H Q I hq
  refine wpAny_List_spliced (thn (h pos pins s σ H _ I hq) fun us s1 ⟨xs, H1, I1, r, z, q⟩ => ⟨by rw [← r.length]; exact z, ?_⟩)
  have hf : H1 s1.heap.objs.size = none := I1.hok.fresh (Nat.le_refl _)
  refine ⟨.ref s1.heap.objs.size, upd H1 s1.heap.objs.size (.lst xs), I1.laid (t' := s1.toks) (fun b u e => Heap.get?_push_of_some _ e) (Nat.le_refl _) ?_, rfl, q _ hf⟩
  exact ⟨z, us, 0, r, Heap.get?_push_size _ rfl⟩
end
/-- a def's promise: the bound arguments in the parameters' order, the heap, the wanted end, the wanted exception -/
abbrev Sp := List V → Hp → VK → XK → Prop
/-- how an exception lies behind a call (file 08 gives it): the callers' frames, abstract heap and state ahead of the call, the wish, the exception, the state -/
abbrev CXT := List Env → Hp → Shared → XK → Value → Shared → Prop
/-- the state at a call -/
structure Env0 (P : Program) (w : World) (K : PySem.W.Frag) (mg : Str → Option Value) (base : Heap) (A : Around) (outer : List Env) (s : Shared) (H : Hp) : Prop where
  frames : A.frames = some outer
  mod : Mod K mg base
  bs : ∀ b o, base.get? b = some o → s.heap.get? b = some o ∧ H b = none
  bsz : base.objs.size ≤ s.heap.objs.size
  funs : s.heap.FunFrames base outer
  frf : ∀ b ∈ frs outer, H b = none
  hok : HOk P w H s.heap
  bare : AllBare s.gens
/-- a call's end -/
def CE (outer : List Env) (P : Program) (w : World) (H : Hp) (s : Shared) (Q : VK) (u : Value) (s' : Shared) : Prop :=
  ∃ v H', s'.os = s.os ∧ AllBare s'.gens ∧ Un (frs outer) [] H H' s.heap s'.heap ∧ HOk P w H' s'.heap ∧ RelV v u ∧ Q v H'
def CR (CX : CXT) (outer : List Env) (P : Program) (w : World) (H : Hp) (s : Shared) (Q : VK) (E : XK) (r : Result) (s' : Shared) : Prop :=
  match r with
  | .ok (.ret u) => CE outer P w H s Q u s'
  | .ok _ => False
  | .error e => CX outer H s E e s'
structure FnOk (P : Program) (w : World) (K : PySem.W.Frag) (mg : Str → Option Value) (base : Heap) (CX : CXT) (k : Nat) (f : Addr) (fd : FuncData) (ps : List Str) (sp : Sp) : Prop where
  len : ∀ vs H Q E, sp vs H Q E → vs.length = ps.length
  run : ∀ (A : Around) (outer : List Env) (s : Shared) (H : Hp) (args : Args) (us : List Value) (vs : List V) (Q : VK) (E : XK), Room k A → Env0 P w K mg base A outer s H → BindsTo s fd args (ps.zip us) → Vals vs us → sp vs H Q E →
    codeAny (model P w) A (.call (.ref f) args) (CR CX outer P w H s Q E) s
theorem FnOk.mono {P : Program} {w : World} {K : PySem.W.Frag} {mg : Str → Option Value} {base : Heap} {CX : CXT} {j k : Nat} {f : Addr} {fd : FuncData} {ps : List Str} {sp : Sp} (F : FnOk P w K mg base CX j f fd ps sp) (h : j ≤ k) :
    FnOk P w K mg base CX k f fd ps sp := ⟨F.len, fun A outer s H args us vs Q E hr => F.run A outer s H args us vs Q E (hr.mono h)⟩
/-- a weaker promise -/
theorem FnOk.imp {P : Program} {w : World} {K : PySem.W.Frag} {mg : Str → Option Value} {base : Heap} {CX : CXT} {k : Nat} {f : Addr} {fd : FuncData} {ps : List Str} {sp sp' : Sp} (F : FnOk P w K mg base CX k f fd ps sp)
    (h : ∀ vs H Q E, sp' vs H Q E → sp vs H Q E) : FnOk P w K mg base CX k f fd ps sp' :=
  ⟨fun vs H Q E q => F.len vs H Q E (h _ _ _ _ q), fun A outer s H args us vs Q E hr he hb hv hs => F.run A outer s H args us vs Q E hr he hb hv (h _ _ _ _ hs)⟩
theorem Env0.make {P : Program} {w : World} {K : PySem.W.Frag} {mg : Str → Option Value} {base : Heap} {A : Around} {outer : List Env} {s : Shared} {H : Hp} (e : Env0 P w K mg base A outer s H) (C : Addr) (us : List Value) (kw : List (Str × Value)) :
    Env0 P w K mg base (A.under (.builtin "type.__call__" ⟨.ref C :: us, kw⟩)) outer s H := ⟨by first | exact e.frames | (simpa [Around.under, Code.envs, Code.isFrame, pushEnvs] using e.frames), e.mod, e.bs, e.bsz, e.funs, e.frf, e.hok, e.bare⟩
theorem Env0.in1 {P : Program} {w : World} {K : PySem.W.Frag} {mg : Str → Option Value} {base : Heap} {A : Around} {outer : List Env} {s : Shared} {H : Hp} (e : Env0 P w K mg base A outer s H) :
    Env0 P w K mg base A.in1 outer s H := ⟨e.frames, e.mod, e.bs, e.bsz, e.funs, e.frf, e.hok, e.bare⟩
section
variable {X : Cx} {pins : List (Addr × Obj)} {σ : St} {H : Hp} {s s' : Shared}
/-- from a body: what a callee wants -/
theorem Inv.env0 (I : Inv X pins σ H s) : Env0 X.prog X.w X.K X.mg X.base X.A X.stack s H :=
  ⟨I.ok.frames, I.ok.mod, I.bs, Nat.le_trans I.ok.bsz I.sz, I.stack, I.stkFree, I.hok, I.bare⟩
/-- behind a call -/
theorem Inv.after {Q : VK} {u : Value} (I : Inv X pins σ H s) (h : CE X.stack X.prog X.w H s Q u s') : EP X pins σ Q u s' := by
  obtain ⟨v, H', os, bare, un, hok, r, q⟩ := h
  obtain ⟨hh, g, d, t, os'⟩ := s'
  obtain rfl : os' = s.os := os
  exact ⟨v, H', I.call (h' := hh) (g' := g) (d' := d) (t' := t) (ch := []) un hok bare (fun b z => absurd z (by simp)), r, q⟩
end
/-- f(..): the written arguments, then the defaults dvs; E: what is wanted of an exception -/
def tCall (sp : Sp) (dvs : List V) (E : XK) (t : TA) : TE := fun σ H Q => t σ H fun vs H1 => sp (vs ++ dvs) H1 Q E
/-- how the parameters are bound: us the positional arguments, kw the keywords' values by name, ds the defaults that fill up -/
def Binds (K : PySem.W.Frag) (fd : FuncData) (ps : List Str) (ds : List Value) : Prop :=
  ∀ (s : Shared) (us : List Value), K.In s.heap → (us ++ ds).length = ps.length → BindsTo s fd ⟨us, []⟩ (ps.zip (us ++ ds))
/-- every parameter is given -/
theorem Binds.all {K : PySem.W.Frag} {fd : FuncData} {ps : List Str} (h : ∀ us : List Value, us.length = ps.length → bindArgs fd ⟨us, []⟩ = pure (ps.zip us)) : Binds K fd ps [] := fun s us _ hl => by
  rw [List.append_nil] at hl ⊢
  exact .of_eq (h us hl)
/-- an exception of a callee reaches what this body wants of exceptions -/
def Passes (CX : CXT) (X : Cx) (E : XK) : Prop := ∀ (pins : List (Addr × Obj)) (σ : St) (H : Hp) (s : Shared) (e : Value) (s' : Shared), Inv X pins σ H s → CX X.stack H s E e s' → X.xe e s'
section
variable {X : Cx} {CX : CXT} {k : Nat} {f C : Addr} {fd : FuncData} {ps : List Str} {sp : Sp} {dvs : List V} {ds : List Value} {E : XK} {x m : Str} {p pos apos : Pos} {e o : Expr} {es : List Expr} {ta : TE} {t : TA}
/-- the callee runs -/
theorem run_fn {pins : List (Addr × Obj)} {σ : St} {H : Hp} {s : Shared} {Q : VK} {us : List Value} {vs : List V} (F : FnOk X.prog X.w X.K X.mg X.base CX k f fd ps sp) (hr : Room k X.A) (hb : Binds X.K fd ps ds) (hd : Vals dvs ds) (hx : Passes CX X E)
    (I : Inv X pins σ H s) (r : Vals vs us) (h : sp (vs ++ dvs) H Q E) : wpAny (model X.prog X.w) X.A (call (.ref f) us) (EP X pins σ Q) X.xe s := by
  have r2 : Vals (vs ++ dvs) (us ++ ds) := r.append hd
  have hl : (us ++ ds).length = ps.length := by rw [← r2.length]; exact F.len _ _ _ _ h
  refine wpAny_call (codeAny_mono (F.run X.A X.stack s H ⟨us, []⟩ (us ++ ds) (vs ++ dvs) Q E hr I.env0 (hb s us I.kIn hl) r2 h) fun r s' hq => ?_)
  cases r with
  | error e => exact hx pins σ H s e s' I hq
  | ok fl =>
    cases fl with
    | ret u => exact I.after hq
    | next => exact False.elim hq
    | brk => exact False.elim hq
    | cont => exact False.elim hq
theorem pe_call (F : FnOk X.prog X.w X.K X.mg X.base CX k f fd ps sp) (hr : Room k X.A) (hg : Gl X x) (hm : X.mg x = some (.ref f)) (hk : PySem.W.keepIn X.K (.ref f) = true) (hb : Binds X.K fd ps ds) (hd : Vals dvs ds) (hx : Passes CX X E)
    (ha : PA X (e :: es) t) (hdb : (x == ("__debug__" : Str)) = false := by decide) (he : starEach (e :: es) X.env = (false, eval e X.env) :: starEach es X.env := by rfl) (hpl : (backTo pos (starEach es X.env)).any (·.1) = false := by rfl) :
    PE X (.Call (.Name x p) (e :: es) [] pos) (tCall sp dvs E t) := by
  intro pins s σ H Q I h
  refine wpAny_Call_Name_kw (ld_glob I hg hm ?_ hdb)
  refine PySem.W.callWith_K (h₀ := X.base) I.ok.mod.kin hk (thn (ha pos pins s σ H _ I h) fun us s1 ⟨vs, H1, I1, r, q⟩ => ⟨I1.kIn, ?_⟩) he hpl
  exact run_fn F hr hb hd hx I1 r q
theorem pe_call0 (F : FnOk X.prog X.w X.K X.mg X.base CX k f fd ps sp) (hr : Room k X.A) (hg : Gl X x) (hm : X.mg x = some (.ref f)) (hk : PySem.W.keepIn X.K (.ref f) = true) (hb : Binds X.K fd ps ds) (hd : Vals dvs ds) (hx : Passes CX X E)
    (hdb : (x == ("__debug__" : Str)) = false := by decide) : PE X (.Call (.Name x p) [] [] pos) (tCall sp dvs E tNil) := by
  intro pins s σ H Q I h
  refine wpAny_Call_Name_kw (ld_glob I hg hm ?_ hdb)
  exact PySem.W.callWith_K0 I.kIn hk (run_fn (us := []) F hr hb hd hx I .nil h)
/-- what a class must have to be made -/
structure Mk (K : PySem.W.Frag) (C f : Addr) : Prop where
  makes : PySem.W.makesIn K C = true
  init : PySem.W.findIn K (.ref C) "__init__" = some (some (.ref f))
  fn : PySem.W.isFn K (.ref f) = true
  kp : PySem.W.keepIn K (.ref C) = true
end
section
variable {X : Cx} {CX : CXT} {k : Nat} {f C : Addr} {fd : FuncData} {ps ks : List Str} {sp : Sp} {E : XK} {x m : Str} {p pos apos kpos : Pos} {e o : Expr} {es : List Expr} {kws : List Keyword} {te ta : TE} {t tk : TA} {nm : Option Str}
/-- how a call with keywords binds: g puts the positional values us and the keywords' values ws (names ks) in the parameters' order, defaults among them -/
structure KBinds (K : PySem.W.Frag) (fd : FuncData) (ps ks : List Str) (g : List Value → List Value → List Value) (gV : List V → List V → List V) : Prop where
  to : ∀ (s : Shared) (us ws : List Value), K.In s.heap → (g us ws).length = ps.length → BindsTo s fd ⟨us, ks.zip ws⟩ (ps.zip (g us ws))
  rel : ∀ {vs : List V} {us : List Value} {zs : List V} {ws : List Value}, Vals vs us → Vals zs ws → Vals (gV vs zs) (g us ws)
variable {g : List Value → List Value → List Value} {gV : List V → List V → List V}
end
/-- names: the parameters first -/
structure FnScope (N P : List Str) (sc : Scope) : Prop where
  kind : sc.kind = .function
  co : sc.isCoroutine = false
  gen : sc.isGenerator = false
  nd : N.Nodup
  pre : N.take P.length = P
  par : ∀ x ∈ P, sc.names.lookup x = some .local ∨ sc.names.lookup x = some .cell
  nofree : ∀ y ∈ sc.names, y.2 ≠ .free
theorem bindL_out {kindOf : Str → Option NameKind} {x : Str} : ∀ {binds : List (Str × Value)} {m : Str → Option Value}, (∀ v, (x, v) ∉ binds) → bindL kindOf binds m x = m x
  | [], _, _ => rfl
  | (n, v) :: r, m, h => by
    unfold bindL
    rw [bindL_out fun w hw => h w (List.mem_cons_of_mem _ hw)]
    split
    · have : x ≠ n := by rintro rfl; exact h v List.mem_cons_self
      simp [this]
    · rfl
theorem bindC_out {kindOf : Str → Option NameKind} {x : Str} : ∀ {binds : List (Str × Value)} {m : Str → Option Value}, (∀ v, (x, v) ∉ binds) → bindC kindOf binds m x = m x
  | [], _, _ => rfl
  | (n, v) :: r, m, h => by
    unfold bindC
    rw [bindC_out fun w hw => h w (List.mem_cons_of_mem _ hw)]
    split
    · rfl
    · have : x ≠ n := by rintro rfl; exact h v List.mem_cons_self
      simp [this]
theorem bindL_get {kindOf : Str → Option NameKind} {x : Str} {v : Value} : ∀ {P : List Str} {vs : List Value} {i : Nat} {m : Str → Option Value}, P.Nodup → P[i]? = some x → vs[i]? = some v → kindOf x = some .local →
    bindL kindOf (P.zip vs) m x = some v
  | [], _, _, _, _, h, _, _ => by simp at h
  | _ :: _, [], _, _, _, _, h, _ => by simp at h
  | p :: P, w :: vs, 0, m, nd, h1, h2, hk => by
    simp at h1 h2; subst h1; subst h2
    show bindL kindOf ((p, w) :: P.zip vs) m p = _
    unfold bindL
    rw [bindL_out fun v hv => (List.nodup_cons.mp nd).1 (List.of_mem_zip hv).1, if_pos hk]
    simp
  | p :: P, w :: vs, i + 1, m, nd, h1, h2, hk => by
    show bindL kindOf ((p, w) :: P.zip vs) m x = _
    unfold bindL
    exact bindL_get (i := i) (List.nodup_cons.mp nd).2 (by simpa using h1) (by simpa using h2) hk
theorem bindC_get {kindOf : Str → Option NameKind} {x : Str} {v : Value} : ∀ {P : List Str} {vs : List Value} {i : Nat} {m : Str → Option Value}, P.Nodup → P[i]? = some x → vs[i]? = some v → kindOf x ≠ some .local →
    bindC kindOf (P.zip vs) m x = some v
  | [], _, _, _, _, h, _, _ => by simp at h
  | _ :: _, [], _, _, _, _, h, _ => by simp at h
  | p :: P, w :: vs, 0, m, nd, h1, h2, hk => by
    simp at h1 h2; subst h1; subst h2
    show bindC kindOf ((p, w) :: P.zip vs) m p = _
    unfold bindC
    rw [bindC_out fun v hv => (List.nodup_cons.mp nd).1 (List.of_mem_zip hv).1, if_neg hk]
    simp
  | p :: P, w :: vs, i + 1, m, nd, h1, h2, hk => by
    show bindC kindOf ((p, w) :: P.zip vs) m x = _
    unfold bindC
    exact bindC_get (i := i) (List.nodup_cons.mp nd).2 (by simpa using h1) (by simpa using h2) hk
/-- the names' values at the entry -/
def start (N : List Str) (vs : List V) : St := vs.map some ++ List.replicate (N.length - vs.length) none
/-- the context of a def's body, at its entry; an exception leaves the frame, then lies as CX says -/
def cxOf (CX : CXT) (P : Program) (w : World) (K : PySem.W.Frag) (mg : Str → Option Value) (base : Heap) (N : List Str) (qual : Str) (scope : Scope) (f : Addr) (cd : Value) (A : Around) (outer : List Env) (s : Shared) (H : Hp) (E : XK) : Cx where
  prog := P
  w := w
  K := K
  mg := mg
  base := base
  A := A.deeper (envOfC qual scope s.heap.objs.size f cd)
  N := N
  s₀ := s
  H₀ := H
  env := envOfC qual scope s.heap.objs.size f cd
  outer := outer
  stack := envOfC qual scope s.heap.objs.size f cd :: outer
  ex := []
  calm := true
  fn := fun _ => true
  pn := []
  xe := fun e s' => wpAny (model P w) (A.deeper (envOfC qual scope s.heap.objs.size f cd)) (leaving (envOfC qual scope s.heap.objs.size f cd) e) (fun _ s'' => CX outer H s E e s'') (fun e' s'' => CX outer H s E e' s'') s'
theorem cell_has {sc : Scope} {n : Nat} {x : Str} (h : sc.names.lookup x = some .cell) : ∃ c, (cellsFrom n sc.names []).lookup x = some c := by
  have q := PySem.W.cellsFrom_some sc.names n [] (.inl h)
  exact Option.isSome_iff_exists.mp q
theorem inv_start {CX : CXT} {P : Program} {w : World} {K : PySem.W.Frag} {mg : Str → Option Value} {base : Heap} {N ps : List Str} {qual : Str} {scope : Scope} {f : Addr} {cd : Value} {A : Around} {outer : List Env} {s s1 : Shared} {H : Hp} {E : XK} {us : List Value} {vs : List V}
    (S : FnScope N ps scope) (hd : A.handled = none) (e0 : Env0 P w K mg base A outer s H) (hl : vs.length = ps.length) (r : Vals vs us)
    (x : InCallC s s.heap.objs.size (bindL (envOfC qual scope s.heap.objs.size f cd).kindOf (ps.zip us) fun _ => none) (cellsFrom (s.heap.objs.size + 1) scope.names []) (bindC (envOfC qual scope s.heap.objs.size f cd).kindOf (ps.zip us) fun _ => none) s1) :
    Inv (cxOf CX P w K mg base N qual scope f cd A outer s H E) [] (start N vs) H s1 := by
  have hpl : ps.length ≤ N.length := by have := congrArg List.length S.pre; rw [List.length_take] at this; omega
  obtain ⟨h1, tk, rfl, hk⟩ := x.done
  have noA : ∀ b : Addr, b ∉ (cxOf CX P w K mg base N qual scope f cd A outer s H E).ex := fun b z => absurd (show b ∈ ([] : List Addr) from z) (by simp)
  refine ⟨⟨e0.mod, S.kind, rfl, rfl, Nat.le_refl _, fun y z c h1 h2 => ?_, fun y hy => ?_, fun y c _ h => ?_, fun _ => hd, Around.frames_deeper e0.frames, .inr ⟨rfl, rfl⟩, fun b z => absurd z (noA b), e0.bs, e0.bsz, fun b _ _ => noA b, fun b z => absurd z (noA b), e0.funs, e0.frf⟩,
    rfl, e0.bare, Un.kept hk, ⟨_, x.toInCall.ns, fun i y v h1 h2 h3 => ?_⟩, fun y c h => ⟨_, x.cell y c h⟩, e0.hok.fresh (Nat.le_refl _), fun y c h => ?_, fun p hp => absurd (show p ∈ ([] : List (Addr × Obj)) from hp) (by simp), e0.hok.kept hk, ?_⟩
  · exact name_of_addr x.apart (PySem.mem_of_lookup h1) (PySem.mem_of_lookup h2)
  · have hy : scope.names.lookup y = some .cell ∨ scope.names.lookup y = some .free := hy
    rcases hy with hy | hy
    · exact cell_has hy
    · exact absurd rfl (S.nofree _ (PySem.mem_of_lookup hy))
  · exact Nat.le_of_lt (x.above y c (PySem.mem_of_lookup h))
  · have hi : i < vs.length := by
      unfold start at h2
      by_cases hi : i < vs.length
      · exact hi
      · rw [List.getElem?_append_right (by simpa using hi)] at h2
        rw [List.getElem?_replicate] at h2
        split at h2 <;> cases h2
    have ha : vs[i]? = some v := by
      unfold start at h2
      rw [List.getElem?_append_left (by simpa using hi), List.getElem?_map] at h2
      cases e : vs[i]? with
      | none => rw [e] at h2; cases h2
      | some a => rw [e] at h2; cases h2; rfl
    obtain ⟨u, hu, rv⟩ := r.get ha
    have hp : ps[i]? = some y := by
      rw [← S.pre, List.getElem?_take_of_lt (by omega)]; exact h1
    have ndP : ps.Nodup := by rw [← S.pre]; exact S.nd.sublist (List.take_sublist _ _)
    refine ⟨u, rv, ?_⟩
    rcases S.par y (List.mem_of_getElem? hp) with k | k
    · exact .inl ⟨k, bindL_get ndP hp hu k⟩
    · obtain ⟨c, e⟩ := cell_has (n := s.heap.objs.size + 1) k
      refine .inr ⟨.inl k, c, e, ?_⟩
      have q := x.cell y c e
      rw [bindC_get ndP hp hu (by show scope.names.lookup y ≠ _; rw [k]; decide)] at q
      exact q
  · exact e0.hok.fresh (Nat.le_of_lt (x.above y c (PySem.mem_of_lookup h)))
  · unfold start
    show _ = N.length
    rw [List.length_append, List.length_map, List.length_replicate]
    omega
/-- THE RULE: a def (or a method) of the text, by its body. The body's reading t is chosen for each entry; it is run at the parameters' values -/
theorem fn_of {CX : CXT} {P : Program} {w : World} {K : PySem.W.Frag} {mg : Str → Option Value} {base : Heap} {k : Nat} {f : Addr} {name qual : Str} {params : Arguments} {body : List Stmt} {scope : Scope} {dV kV doc pm cdv ct oc : Value} {an od : Option Addr}
    {osl : Array (Option Value)} {N ps : List Str} {sp : Sp} (lk : K.lookup f = some ⟨oc, od, .func (PySem.W.fnOf name qual params body scope dV kV doc pm an cdv ct), osl⟩) (hcd : PySem.W.codeIn K cdv qual = true) (S : FnScope N ps scope)
    (len : ∀ vs H Q E, sp vs H Q E → vs.length = ps.length)
    (hbody : ∀ (A : Around) (outer : List Env) (s : Shared) (H : Hp) (vs : List V) (Q : VK) (E : XK), Room k (A.deeper (envOfC qual scope s.heap.objs.size f cdv)) → sp vs H Q E →
      ∃ t, PSs (cxOf CX P w K mg base N qual scope f cdv A outer s H E) body t ∧ t { nx := fun _ H' => Q .non H', rt := Q } (start N vs) H) :
    FnOk P w K mg base CX (k + 1) f (PySem.W.fnOf name qual params body scope dV kV doc pm an cdv ct) ps sp := by
  refine ⟨len, fun A outer s H args us vs Q E hr e0 hb r hsp => ?_⟩
  have hl := len _ _ _ _ hsp
  have KX : K.In s.heap := e0.mod.kin.keeps fun b o e => (e0.bs b o e).1
  have lim : s.heap.NoLimit := e0.mod.nolimit.keeps fun b o e => (e0.bs b o e).1
  have hkind : ∀ y ∈ ps.zip us, scope.names.lookup y.1 = some .local ∨ (scope.names.lookup y.1 = some .cell ∧ ((cellsFrom (s.heap.objs.size + 1) scope.names []).lookup y.1).isSome = true) := fun ⟨n, v⟩ hy => by
    rcases S.par n (List.of_mem_zip hy).1 with q | q
    · exact .inl q
    · exact .inr ⟨q, PySem.W.cellsFrom_some _ _ _ (.inl q)⟩
  refine codeAny_call_function hr.depth (KX _ _ lk) rfl S.co S.gen rfl (PySem.W.codeRec_of KX hcd) (hb _ _ _ _ ?_)
  refine wpAny_newFunctionEnv_cells S.kind hkind fun env he s1 x => ?_
  subst he
  refine ⟨lim.keeps x.toInCall.keep, codeAny_func ?_⟩
  obtain ⟨t, ht, hq⟩ := hbody A outer s H vs Q E (hr.deeper _) hsp
  have I : Inv (cxOf CX P w K mg base N qual scope f cdv A outer s H E) [] (start N vs) H s1 := inv_start S hr.hd e0 hl r x
  refine wpAny_mono (ht [] s1 (start N vs) H _ I hq) (fun fl s' hs => ?_) fun e s' hs => hs
  have fin : ∀ {σ' : St} {H' : Hp} {v : V} {u : Value}, Inv (cxOf CX P w K mg base N qual scope f cdv A outer s H E) [] σ' H' s' → RelV v u → Q v H' → CE outer P w H s Q u s' :=
    fun {σ' H' v u} J rv q => ⟨v, H', J.os, J.bare, J.base, J.hok, rv, q⟩
  cases fl with
  | ret u =>
    obtain ⟨v, σ', H', J, rv, q⟩ := hs
    exact fin J rv q
  | next =>
    obtain ⟨σ', H', J, q⟩ := hs
    exact fin (v := V.non) (u := Value.none) J rfl q
  | brk =>
    obtain ⟨_, _, _, q⟩ := hs
    exact False.elim q
  | cont =>
    obtain ⟨_, _, _, q⟩ := hs
    exact False.elim q
end L2
namespace L2
open PySem PySem.Spec PyProof.Rows
section
variable {X : Cx} {x : Str} {p pos : Pos} {e : Expr} {es : List Expr} {t : TA} {id T : String} {r : List V → Hp → VK → Prop}
def tCB (r : List V → Hp → VK → Prop) (t : TA) : TE := fun σ H Q => t σ H fun vs H1 => r vs H1 Q
/-- f(e, ..), f a built-in function -/
theorem pe_callB (hc : CallR X (.builtin id) r) (hg : Gl X x) (hm : X.mg x = none) (hv : bootBuiltins x = some (.builtin id)) (ha : PA X (e :: es) t) (hn : x ≠ "__name__" := by decide) (hdb : (x == ("__debug__" : Str)) = false := by decide)
    (he : starEach (e :: es) X.env = (false, eval e X.env) :: starEach es X.env := by rfl) (hpl : (backTo pos (starEach es X.env)).any (·.1) = false := by rfl) : PE X (.Call (.Name x p) (e :: es) [] pos) (tCB r t) := by
  intro pins s σ H Q I h
  refine wpAny_Call_Name_kw (ld_blt I hg hm hv ?_ hn hdb)
  exact PyProof.Rows.callWith_builtin1 (thn (ha pos pins s σ H _ I h) fun us s1 ⟨vs, H1, I1, r1, q1⟩ => hc pins s1 σ H1 vs us Q I1 r1 q1) he hpl
/-- T(e, ..), T a built-in type -/
theorem pe_callTy (hc : CallR X (.type T) r) (hg : Gl X x) (hm : X.mg x = none) (hv : bootBuiltins x = some (.type T)) (ha : PA X (e :: es) t) (hn : x ≠ "__name__" := by decide) (hdb : (x == ("__debug__" : Str)) = false := by decide)
    (he : starEach (e :: es) X.env = (false, eval e X.env) :: starEach es X.env := by rfl) (hpl : (backTo pos (starEach es X.env)).any (·.1) = false := by rfl) : PE X (.Call (.Name x p) (e :: es) [] pos) (tCB r t) := by
  intro pins s σ H Q I h
  refine wpAny_Call_Name_kw (ld_blt I hg hm hv ?_ hn hdb)
  exact PyProof.Rows.callWith_type1 (thn (ha pos pins s σ H _ I h) fun us s1 ⟨vs, H1, I1, r1, q1⟩ => hc pins s1 σ H1 vs us Q I1 r1 q1) he hpl
end
end L2
namespace HT
open PySem PyProof.Rows
section
open PySem.SeqAt
open PySem.AutoSeq1 (wpAny_loadPart')
open PySem.MeetsSeq PySem.MeetsSeq2 PySem.MeetsSeq3
end
section
variable {prog : Program} {w : World} {A : Around} {E : Value → Shared → Prop} {s : Shared}
/-- a slice's bound as a place among n (d where it is left out) -/
def sIx (n d : Nat) : Option Int → Nat
  | none => d
  | some v => if v < 0 then (v + (n : Int)).toNat else min v.toNat n
theorem sIx_nat (n d k : Nat) : sIx n d (some (k : Int)) = min k n := by
  show (if (k : Int) < 0 then ((k : Int) + (n : Int)).toNat else min (k : Int).toNat n) = min k n
  rw [if_neg (by omega), Int.toNat_natCast]
end
end HT
namespace L2
open PySem PySem.Spec PyProof.Rows
abbrev TO := St → Hp → (Option Int → Hp → Prop) → Prop
/-- a slice's part (left out, or an int) -/
def PO (X : Cx) (e : Option Expr) (t : TO) : Prop :=
  ∀ (pins : List (Addr × Obj)) (s : Shared) (σ : St) (H : Hp) (Q : Option Int → Hp → Prop), Inv X pins σ H s → t σ H Q →
    wpAny (model X.prog X.w) X.A (evalPart e X.env) (fun u s' => ∃ o H', Inv X pins σ H' s' ∧ IsPart u o ∧ Q o H') X.xe s
def tNoPart : TO := fun _ H Q => Q none H
def tPart (t : TE) : TO := fun σ H Q => t σ H fun x H1 => ∃ i, x = .int i ∧ Q (some i) H1
section
variable {X : Cx} {e : Expr} {te : TE} {lo hi : Option Expr} {tl th : TO} {pos p2 : Pos}
theorem po_none : PO X none tNoPart := by
  intro pins s σ H Q I h
  rw [evalPart_none]
  exact wpAny_pure ⟨none, H, I, .none, h⟩
theorem po_some (h : PE X e te) : PO X (some e) (tPart te) := by
  intro pins s σ H Q I hw
  rw [evalPart_some]
  refine thn (h pins s σ H _ I hw) fun u s1 ⟨x, H1, I1, r1, q1⟩ => ?_
  obtain ⟨i, rfl, q⟩ := q1
  obtain ⟨t, rfl⟩ := r1
  exact ⟨some i, H1, I1, .int i t, q⟩
/-- what a slice of a value is, by values: the slice object stands at sl -/
def SlR (X : Cx) (r : V → Option Int → Option Int → Hp → VK → Prop) : Prop :=
  ∀ (pins : List (Addr × Obj)) (s : Shared) (σ : St) (H : Hp) (x : V) (v vl vu : Value) (lo hi : Option Int) (sl : Addr) (Q : VK), Inv X pins σ H s → RelV x v → s.heap.IsSliceOf sl vl vu .none → IsPart vl lo → IsPart vu hi → r x lo hi H Q →
    ∃ T id, typeLookup (.type T) "__getitem__" = pure (some (.builtin id)) ∧ s.TypeIs v T ∧ wpAny (model X.prog X.w) X.A (getItem v (.ref sl)) (EP X pins σ Q) X.xe s
theorem SlR.or {r r' : V → Option Int → Option Int → Hp → VK → Prop} (h : SlR X r) (h' : SlR X r') : SlR X (fun x lo hi H Q => r x lo hi H Q ∨ r' x lo hi H Q) := by
  intro pins s σ H x v vl vu lo hi sl Q I rx hs pl pu q
  rcases q with q | q
  · exact h pins s σ H x v vl vu lo hi sl Q I rx hs pl pu q
  · exact h' pins s σ H x v vl vu lo hi sl Q I rx hs pl pu q
def tSl (r : V → Option Int → Option Int → Hp → VK → Prop) (te : TE) (tl th : TO) : TE := fun σ H Q => te σ H fun x H1 => tl σ H1 fun l H2 => th σ H2 fun u H3 => r x l u H3 Q
/-- a[lo:hi], any a -/
theorem pe_slice {r : V → Option Int → Option Int → Hp → VK → Prop} (hr : SlR X r) (he : PE X e te) (hl : PO X lo tl) (hu : PO X hi th) : PE X (.Subscript e (.Slice lo hi none p2) pos) (tSl r te tl th) := by
  intro pins s σ H Q I h
  refine Subscript_ (thn (he pins s σ H _ I h) fun v s1 ⟨x, H1, I1, r1, q1⟩ => ?_)
  refine wpAny_Slice (thn (hl pins s1 σ H1 _ I1 q1) fun vl s2 ⟨l, H2, I2, pl, q2⟩ => thn (hu pins s2 σ H2 _ I2 q2) fun vu s3 ⟨u, H3, I3, pu, q3⟩ => ?_)
  rw [evalPart_none]
  refine wpAny_pure ?_
  have I4 : Inv X pins σ H3 { s3 with heap := s3.heap.push { cls := .type "slice", data := .fields #[vl, vu, .none] } } := I3.kept (t' := s3.toks) fun b ob q => Heap.get?_push_of_some _ q
  obtain ⟨T, id, hT, ht, hg⟩ := hr pins { s3 with heap := s3.heap.push { cls := .type "slice", data := .fields #[vl, vu, .none] } } σ H3 x v vl vu l u s3.heap.objs.size Q I4 r1 (Heap.IsSliceOf.new ..) pl pu q3
  show wpAny (model X.prog X.w) X.A (subscriptTail e (.Slice lo hi none p2) v (.ref s3.heap.objs.size)) (EP X pins σ Q) X.xe { s3 with heap := s3.heap.push { cls := .type "slice", data := .fields #[vl, vu, .none] } }
  exact tail_any (ops := [.ref s3.heap.objs.size, v]) ht hT hg (by with_unfolding_all rfl)
/-- the items of xs[lo:hi] -/
def cutV (xs : List V) (lo hi : Option Int) : List V := (xs.drop (HT.sIx xs.length 0 lo)).take (HT.sIx xs.length xs.length hi - HT.sIx xs.length 0 lo)
theorem cutV_length (xs : List V) (lo hi : Option Int) : (cutV xs lo hi).length ≤ xs.length := by
  unfold cutV
  rw [List.length_take, List.length_drop]
  omega
end
end L2
namespace L2
open PySem PySem.Spec PyProof.Rows
/-- the place that an index of any sign means -/
def ixN (n : Nat) (i : Int) : Option Nat := if 0 ≤ i then (if i < n then some i.toNat else none) else if -(n : Int) ≤ i then some (i + n).toNat else none
def atI {α : Type} (xs : List α) (i : Int) : Option α := (ixN xs.length i).bind fun j => xs[j]?
theorem ixN_seq {n : Nat} {i : Int} {j : Nat} (h : ixN n i = some j) : seqIndex? i n = some j ∧ j < n ∧ -(n : Int) ≤ i ∧ i < n := by
  unfold ixN at h
  by_cases h0 : 0 ≤ i
  · rw [if_pos h0] at h
    by_cases h1 : i < n
    · rw [if_pos h1] at h
      have e : i.toNat = j := Option.some.inj h
      exact ⟨by rw [seqIndex_of h0 h1, e], by omega, by omega, h1⟩
    · rw [if_neg h1] at h; cases h
  · rw [if_neg h0] at h
    by_cases h1 : -(n : Int) ≤ i
    · rw [if_pos h1] at h
      have e : (i + n).toNat = j := Option.some.inj h
      exact ⟨by rw [seqIndex_neg (by omega) h1, e], by omega, h1, by omega⟩
    · rw [if_neg h1] at h; cases h
theorem atI_get {α : Type} {xs : List α} {i : Int} {v : α} (h : atI xs i = some v) : ∃ j, seqIndex? i xs.length = some j ∧ xs[j]? = some v ∧ j < xs.length ∧ -(xs.length : Int) ≤ i ∧ i < xs.length := by
  unfold atI at h
  cases e : ixN xs.length i with
  | none => rw [e] at h; cases h
  | some j =>
    rw [e] at h
    obtain ⟨h1, h2, h3, h4⟩ := ixN_seq e
    exact ⟨j, h1, h, h2, h3, h4⟩
theorem atI_nat {α : Type} {xs : List α} {j : Nat} {v : α} (h : xs[j]? = some v) : atI xs (j : Int) = some v := by
  have hj : j < xs.length := (List.getElem?_eq_some_iff.mp h).1
  have e : ixN xs.length (j : Int) = some j := by
    unfold ixN
    rw [if_pos (by omega), if_pos (by omega)]; simp
  unfold atI; rw [e]; exact h
/-- what stands as an index of a plain subscript -/
def PlainIx (b : Expr) : Prop := ∀ o i, subscripted b false o i = operate [o, i] (getItem o i)
/-- a subscript by values -/
def IxR (X : Cx) (r : R2) : Prop :=
  ∀ (value slice : Expr) (pins : List (Addr × Obj)) (s : Shared) (σ : St) (H : Hp) (x y : V) (v u : Value) (Q : VK), Inv X pins σ H s → RelV x v → RelV y u → r x y H Q →
    subscripted slice false v u = operate [v, u] (getItem v u) → wpAny (model X.prog X.w) X.A (subscriptTail value slice v u) (EP X pins σ Q) X.xe s
/-- a call of a builtin's method by values: the receiver, the arguments -/
def MtR (X : Cx) (id : String) (r : V → List V → Hp → VK → Prop) : Prop :=
  ∀ (pins : List (Addr × Obj)) (s : Shared) (σ : St) (H : Hp) (x : V) (xs : List V) (v : Value) (us : List Value) (Q : VK), Inv X pins σ H s → RelV x v → Vals xs us → r x xs H Q →
    wpAny (model X.prog X.w) X.A (call (.builtin id) (v :: us)) (EP X pins σ Q) X.xe s
section
variable {X : Cx} {a b : Expr} {ta tb : TE} {pos : Pos}
theorem IxR.or {r r' : R2} (h : IxR X r) (h' : IxR X r') : IxR X (fun x y H Q => r x y H Q ∨ r' x y H Q) := by
  intro value slice pins s σ H x y v u Q I rx ry q hs
  rcases q with q | q
  · exact h value slice pins s σ H x y v u Q I rx ry q hs
  · exact h' value slice pins s σ H x y v u Q I rx ry q hs
theorem MtR.or {id : String} {r r' : V → List V → Hp → VK → Prop} (h : MtR X id r) (h' : MtR X id r') : MtR X id (fun x xs H Q => r x xs H Q ∨ r' x xs H Q) := by
  intro pins s σ H x xs v us Q I rx rs q
  rcases q with q | q
  · exact h pins s σ H x xs v us Q I rx rs q
  · exact h' pins s σ H x xs v us Q I rx rs q
/-- a[b] -/
theorem pe_ix {r : R2} (hr : IxR X r) (ha : PE X a ta) (hb : PE X b tb) (hs : PlainIx b) : PE X (.Subscript a b pos) (tOp r ta tb) := by
  intro pins s σ H Q I h
  exact Subscript_ (binT ha hb I h fun v u s2 x y H2 I2 rx ry q => hr a b pins s2 σ H2 x y v u Q I2 rx ry q (hs _ _))
def rIxL (K : PySem.W.Frag) : R2 := fun x y H Q => ∃ p xs i v, x = .ref p ∧ y = .int i ∧ SqL K H p xs ∧ atI xs i = some v ∧ Q v H
def rIxT (K : PySem.W.Frag) : R2 := fun x y H Q => ∃ p xs i v, x = .ref p ∧ y = .int i ∧ SqT K H p xs ∧ atI xs i = some v ∧ Q v H
def rIxS : R2 := fun x y H Q => ∃ z i c, x = .str z ∧ y = .int i ∧ z.length ≤ sizeLine ∧ atI z.cps.toList i = some c ∧ Q (.str ⟨#[c]⟩) H
theorem ix_list : IxR X (rIxL X.K) := by
  intro value slice pins s σ H x y v u Q I rx ry h hs
  obtain ⟨p, xs, i, z, rfl, rfl, hq, he, q⟩ := h
  cases rx
  obtain ⟨t, rfl⟩ := ry
  obtain ⟨its, r, pl, hz⟩ := I.list hq
  obtain ⟨j, h1, h2, h3, h4, h5⟩ := atI_get he
  obtain ⟨w, ew, rw'⟩ := r.get h2
  have hl := r.length
  have hn := line63
  have fin : EP X pins σ Q w s := ⟨z, H, I, rw', q⟩
  by_cases h0 : 0 ≤ i
  · have hj : i.toNat = j := by
      rw [seqIndex_of h0 h5] at h1
      exact Option.some.inj h1
    exact item_listR pl.isList h0 (by omega) (by rw [hj]; simpa using ew) fin hs
  · have hj : (i + (its.toArray.size : Int)).toNat = j := by
      rw [seqIndex_neg (by omega) h4] at h1
      rw [List.size_toArray, ← hl]
      exact Option.some.inj h1
    exact subscriptTail_builtinR (x := w) pl.isList.typeIs slot_list_getitem.lookup
      (wpAny_getItem_list_neg (Q := fun r s' => r = w ∧ EP X pins σ Q r s') pl.isList (by omega) (by rw [List.size_toArray] <;> omega) (by omega) (by rw [hj]; simpa using ew) ⟨rfl, fin⟩) hs
theorem ix_tup : IxR X (rIxT X.K) := by
  intro value slice pins s σ H x y v u Q I rx ry h hs
  obtain ⟨p, xs, i, z, rfl, rfl, hq, he, q⟩ := h
  cases rx
  obtain ⟨t, rfl⟩ := ry
  obtain ⟨its, r, pl, hz⟩ := I.tuple hq
  obtain ⟨j, h1, h2, h3, h4, h5⟩ := atI_get he
  obtain ⟨w, ew, rw'⟩ := r.get h2
  have hl := r.length
  have hn := line63
  have fin : EP X pins σ Q w s := ⟨z, H, I, rw', q⟩
  exact subscriptTail_builtinR (x := w) pl.typeIs slot_tuple_getitem.lookup
    (getItem_tuple (j := j) (Q := fun r s' => r = w ∧ EP X pins σ Q r s') pl (by omega) (by omega) (by rw [List.size_toArray, ← hl]; exact h1) (by simpa using ew) ⟨rfl, fin⟩) hs
theorem ix_str : IxR X rIxS := by
  intro value slice pins s σ H x y v u Q I rx ry h hs
  obtain ⟨z, i, c, rfl, rfl, hz, he, q⟩ := h
  obtain ⟨t, rfl⟩ := rx
  obtain ⟨t', rfl⟩ := ry
  obtain ⟨j, h1, h2, h3, h4, h5⟩ := atI_get he
  have hl : z.cps.toList.length = z.length := by simp [Str.length]
  rw [hl] at h1 h4 h5
  have hn := line63
  exact tail_any (typeIs_str s z t) slot_str_getitem.lookup (getItem_str (c := c) (by
    have e1 : decide (i < -(2 ^ 63 : Int)) = false := decide_eq_false (by omega)
    have e2 : decide (i ≥ 2 ^ 63) = false := decide_eq_false (by omega)
    rw [e1, e2, Bool.or_false]) (by rw [h1]; simpa using h2) ⟨.str ⟨#[c]⟩, H, I.tok _, ⟨_, rfl⟩, q⟩) hs
theorem Inv.lst {pins : List (Addr × Obj)} {σ : St} {H : Hp} {s : Shared} {p : Addr} {xs : List V} (I : Inv X pins σ H s) (h : H p = some (.lst xs)) :
    ∃ (its : List Value) (n : Nat), Vals xs its ∧ s.heap.get? p = some { cls := .type "list", data := .seq its.toArray n } ∧ xs.length ≤ sizeLine := by
  obtain ⟨z, its, n, r, e⟩ := I.hok p _ h
  exact ⟨its, n, r, e, z⟩
theorem slice_bounds (lo hi : Option Int) (n : Nat) : (sliceBounds lo hi none n).1 = ((HT.sIx n 0 lo : Nat) : Int) ∧ (sliceBounds lo hi none n).2.1 = ((HT.sIx n n hi : Nat) : Int) ∧ (sliceBounds lo hi none n).2.2 = 1 := by
  refine ⟨?_, ?_, rfl⟩
  · cases lo with
    | none => simp [sliceBounds, HT.sIx]
    | some i =>
      simp only [sliceBounds, HT.sIx, Option.getD_none, show (1 : Int) > 0 by decide, if_true]
      by_cases h : i < 0
      · simp only [h, if_true] <;> omega
      · simp only [h, if_false] <;> omega
  · cases hi with
    | none => simp [sliceBounds, HT.sIx]
    | some i =>
      simp only [sliceBounds, HT.sIx, Option.getD_none, show (1 : Int) > 0 by decide, if_true]
      by_cases h : i < 0
      · simp only [h, if_true] <;> omega
      · simp only [h, if_false] <;> omega
theorem slicePick_cut (its : List Value) (lo hi : Option Int) : slicePick its.toArray lo hi none = ((its.drop (HT.sIx its.length 0 lo)).take (HT.sIx its.length its.length hi - HT.sIx its.length 0 lo)).toArray := by
  obtain ⟨h1, h2, h3⟩ := slice_bounds lo hi its.toArray.size
  unfold slicePick
  rw [h1, h2, h3]
  simp only [sliceRange_one, pick_run, List.size_toArray] <;> rfl
/-- xs[lo:hi] of a list: a new list -/
def rSlL (K : PySem.W.Frag) : V → Option Int → Option Int → Hp → VK → Prop := fun x lo hi H Q => ∃ a xs, x = .ref a ∧ SqL K H a xs ∧ ∀ p, H p = none → Q (.ref p) (upd H p (.lst (cutV xs lo hi)))
theorem sl_list : SlR X (rSlL X.K) := by
  intro pins s σ H x v vl vu lo hi sl Q I rx hs pl pu h
  obtain ⟨a, xs, rfl, hx, q⟩ := h
  cases rx
  obtain ⟨its, r, ht, hz⟩ := I.list hx
  have hlen := r.length
  refine ⟨"list", _, slot_list_getitem.lookup, ht.isList.typeIs, ?_⟩
  refine wpAny_getItem_list_slice ht.isList hs pl pu .none (by simp) ?_ (by rw [List.size_toArray] <;> omega)
  rw [slicePick_cut, ← hlen]
  refine ⟨.ref s.heap.objs.size, _, I.laid (t' := s.toks) (o := .lst (cutV xs lo hi)) (fun b ob q => Heap.get?_push_of_some _ q) (Nat.le_refl _) ?_, rfl, q _ (I.hok.fresh (Nat.le_refl _))⟩
  exact ⟨Nat.le_trans (cutV_length xs lo hi) hz, _, 0, (r.drop (HT.sIx xs.length 0 lo)).take (HT.sIx xs.length xs.length hi - HT.sIx xs.length 0 lo), Heap.get?_push_size _ rfl⟩
def flatV : V → Bool
  | .non => true
  | .bl _ => true
  | .int _ => true
  | .str _ => true
  | _ => false
/-- == of flat values -/
def eqV : V → V → Bool
  | .non, .non => true
  | .bl a, .bl b => a == b
  | .bl a, .int b => (if a then 1 else 0) == b
  | .int a, .bl b => a == (if b then 1 else 0)
  | .int a, .int b => a == b
  | .str a, .str b => a == b
  | _, _ => false
theorem eqAt_V {A : Around} {s : Shared} {y x : V} {u v : Value} (ry : RelV y u) (rx : RelV x v) (fy : flatV y = true) (fx : flatV x = true) : SeqAt.EqAt A s u v (eqV y x) := by
  cases y with
  | non =>
    cases ry
    cases x with
    | non => cases rx; exact SeqAt.EqAt.same _
    | bl b => cases rx; exact SeqAt.EqAt.none_bool b
    | int b => obtain ⟨t, rfl⟩ := rx; exact SeqAt.EqAt.none_int b t
    | str b => obtain ⟨t, rfl⟩ := rx; exact SeqAt.EqAt.none_str b t
    | _ => exact absurd (show false = true from fx) Bool.false_ne_true
  | bl a =>
    cases ry
    cases x with
    | non => cases rx; exact SeqAt.EqAt.bool_none a
    | bl b => cases rx; exact SeqAt.EqAt.bool_bool a b
    | int b => obtain ⟨t, rfl⟩ := rx; exact SeqAt.EqAt.bool_int a b t
    | str b => obtain ⟨t, rfl⟩ := rx; exact SeqAt.EqAt.bool_str a b t
    | _ => exact absurd (show false = true from fx) Bool.false_ne_true
  | int a =>
    obtain ⟨t', rfl⟩ := ry
    cases x with
    | non => cases rx; exact SeqAt.EqAt.int_none a t'
    | bl b => cases rx; exact SeqAt.EqAt.int_bool a t' b
    | int b => obtain ⟨t, rfl⟩ := rx; exact SeqAt.EqAt.int_int a t' b t
    | str b => obtain ⟨t, rfl⟩ := rx; exact SeqAt.EqAt.int_str a t' b t
    | _ => exact absurd (show false = true from fx) Bool.false_ne_true
  | str a =>
    obtain ⟨t', rfl⟩ := ry
    cases x with
    | non => cases rx; exact SeqAt.EqAt.str_none a t'
    | bl b => cases rx; exact SeqAt.EqAt.str_bool a t' b
    | int b => obtain ⟨t, rfl⟩ := rx; exact SeqAt.EqAt.str_int a t' b t
    | str b => obtain ⟨t, rfl⟩ := rx; exact SeqAt.EqAt.str_str a t' b t
    | _ => exact absurd (show false = true from fx) Bool.false_ne_true
  | _ => exact absurd (show false = true from fy) Bool.false_ne_true
theorem call_len_seq : CallR X (.builtin "len") (fun xs H Q => ∃ p ys, xs = [.ref p] ∧ (SqL X.K H p ys ∨ SqT X.K H p ys) ∧ Q (.int ys.length) H) := by
  intro pins s σ H xs us Q I r h
  obtain ⟨p, ys, rfl, hq, q⟩ := h
  obtain ⟨u, rfl, rx⟩ := vals1 r
  cases rx
  have hn := line63
  rcases hq with hq | hq
  · obtain ⟨its, r', pl, hz⟩ := I.list hq
    have hlen := r'.length
    exact Calls.call_len_list pl.isList (by simp only [List.size_toArray] <;> omega) ⟨.int ys.length, H, I.tok _, ⟨s.toks + 1, by rw [List.size_toArray, hlen]⟩, q⟩
  · obtain ⟨its, r', pl, hz⟩ := I.tuple hq
    have hlen := r'.length
    exact len_tuple pl (by simp only [List.size_toArray] <;> omega) ⟨.int ys.length, H, I.tok _, ⟨s.toks + 1, by rw [List.size_toArray, hlen]⟩, q⟩
theorem call_len_str : CallR X (.builtin "len") (fun xs H Q => ∃ z, xs = [.str z] ∧ z.length ≤ sizeLine ∧ Q (.int z.length) H) := by
  intro pins s σ H xs us Q I r h
  obtain ⟨z, rfl, hz, q⟩ := h
  obtain ⟨u, rfl, t, rfl⟩ := vals1 r
  have hn := line63
  exact len_str (by omega) ⟨.int z.length, H, I.tok _, ⟨_, rfl⟩, q⟩
theorem CallR.or {f : Value} {r r' : List V → Hp → VK → Prop} (h : CallR X f r) (h' : CallR X f r') : CallR X f (fun xs H Q => r xs H Q ∨ r' xs H Q) := by
  intro pins s σ H xs us Q I rs q
  rcases q with q | q
  · exact h pins s σ H xs us Q I rs q
  · exact h' pins s σ H xs us Q I rs q
/-- the value is of that builtin type -/
def tyV (K : PySem.W.Frag) (T : String) (x : V) (H : Hp) : Prop := match x with
  | .str _ => T = "str"
  | .int _ => T = "int"
  | .ref p => (T = "list" ∧ ∃ xs, SqL K H p xs) ∨ (T = "tuple" ∧ ∃ o, K.lookup p = some o ∧ o.cls = .type "tuple" ∧ o.dict = none) ∨
      (T = "dict" ∧ ((∃ kvs, H p = some (.dK kvs)) ∨ ∃ kvs, H p = some (.dT kvs))) ∨ (T = "set" ∧ ∃ S n, H p = some (.set S n))
  | _ => False
theorem tyV_is {pins : List (Addr × Obj)} {σ : St} {H : Hp} {s : Shared} {T : String} {x : V} {v : Value} (I : Inv X pins σ H s) (r : RelV x v) (ty : tyV X.K T x H) :
    s.TypeIs v T ∧ ∀ a, v = .ref a → ∃ ob, s.heap.get? a = some ob ∧ ob.dict = none := by
  cases x with
  | str z =>
    obtain ⟨t, rfl⟩ := r
    cases (show T = "str" from ty)
    exact ⟨typeIs_str s z t, fun _ e => nomatch e⟩
  | int i =>
    obtain ⟨t, rfl⟩ := r
    cases (show T = "int" from ty)
    exact ⟨typeIs_int s i t, fun _ e => nomatch e⟩
  | ref p =>
    cases r
    rcases ty with ⟨rfl, xs, hq⟩ | ⟨rfl, o, hk, hc, hd⟩ | ⟨rfl, hk⟩ | ⟨rfl, S, n, hk⟩
    · obtain ⟨its, _, pl, _⟩ := I.list hq
      refine ⟨pl.isList.typeIs, fun a e => ?_⟩
      cases e
      obtain ⟨o, n, e, c, hd, _⟩ := pl
      exact ⟨o, e, hd⟩
    · refine ⟨⟨o, I.kIn p o hk, hc⟩, fun a e => ?_⟩
      cases e
      exact ⟨o, I.kIn _ o hk, hd⟩
    · have z : ∃ o, s.heap.get? p = some o ∧ o.ExactDict := by
        rcases hk with ⟨kvs, hk⟩ | ⟨kvs, hk⟩
        · obtain ⟨_, _, _, _, o, _, _, e, ex, _⟩ := I.hok p _ hk
          exact ⟨o, e, ex⟩
        · obtain ⟨_, _, _, _, o, _, _, e, ex, _⟩ := I.hok p _ hk
          exact ⟨o, e, ex⟩
      obtain ⟨o, e, ex⟩ := z
      refine ⟨⟨o, e, ex.1⟩, fun a e2 => ?_⟩
      cases e2
      exact ⟨o, e, ex.2.1⟩
    · obtain ⟨o, _, _, _, e, ex, _⟩ := I.hok p _ hk
      refine ⟨⟨o, e, ex.1⟩, fun a e2 => ?_⟩
      cases e2
      exact ⟨o, e, ex.2.1⟩
  | _ => exact False.elim ty
def tBM0 (K : PySem.W.Frag) (T : String) (r : V → List V → Hp → VK → Prop) (to : TE) : TE := fun σ H Q => to σ H fun x H1 => tyV K T x H1 ∧ r x [] H1 Q
def tBM (K : PySem.W.Frag) (T : String) (r : V → List V → Hp → VK → Prop) (to : TE) (t : TA) : TE := fun σ H Q => to σ H fun x H1 => tyV K T x H1 ∧ t σ H1 fun xs H2 => r x xs H2 Q
variable {o e : Expr} {es : List Expr} {to : TE} {t : TA} {name : Str} {apos cpos : Pos} {T id : String} {r : V → List V → Hp → VK → Prop}
theorem pe_bm (pa : PlainAttrs T) (slot : Slot T name id) (hty : typeOf (.builtin id) = pure (.type "method_descriptor")) (hm : MtR X id r) (ho : PE X o to) (ha : PA X (e :: es) t)
    (hbase : attributeBase o name X.env (eval o X.env) = eval o X.env := by rfl)
    (hfew : ((backTo cpos (starEach (e :: es) X.env)).all (fun x => !x.1) && (backToKw cpos (keywordEach [] X.env)).all (fun x => x.1.isSome)
      && decide ((e :: es).length + ([] : List Keyword).length + (if ([] : List Keyword).isEmpty then 0 else 1) < 30)) = true := by rfl)
    (hline : (apos.endLine == cpos.line) = true := by rfl) (hs : starEach (e :: es) X.env = (false, eval e X.env) :: starEach es X.env := by rfl) (hplain : (backTo cpos (starEach es X.env)).any (·.1) = false := by rfl) :
    PE X (.Call (.Attribute o name apos) (e :: es) [] cpos) (tBM X.K T r to t) := by
  intro pins s σ H Q I h
  refine wpAny_Call_method_late hbase hfew hline rfl (thn (ho pins s σ H _ I h) fun v s1 ⟨x, H1, I1, r1, ty, q1⟩ => ?_)
  obtain ⟨h1, h2⟩ := tyV_is I1 r1 ty
  refine ⟨T, id, pa, slot, hty, h1, h2, ?_⟩
  have hA := ha cpos pins s1 σ H1 _ I1 q1
  rw [hs] at hA ⊢
  refine Calls.callWith_builtin (by show (false || (backTo cpos (starEach es X.env)).any (·.1)) = false; rw [hplain] <;> rfl) (Calls.evalArgs_plain ?_)
  exact thn hA fun us s2 ⟨vs, H2, I2, r2, q2⟩ => hm pins s2 σ H2 x vs v us Q I2 r1 r2 q2
/- xs.append(e), list.index on a module's tuple .. are MtR facts of 06m -/
end
end L2
namespace L2
open PySem PySem.Spec PyProof.Rows
def MtM (X : Cx) (id : String) (r : V → List V → Hp → VK → Prop) : Prop :=
  ∀ (pins : List (Addr × Obj)) (s : Shared) (σ : St) (H : Hp) (x : V) (xs : List V) (v : Value) (us : List Value) (Q : VK), Inv X pins σ H s → RelV x v → Vals xs us → r x xs H Q →
    wpAny (model X.prog X.w) X.A (call (.builtin id) (v :: us)) (EP X pins σ Q) X.xe s
theorem Vals.one : ∀ {x : V} {us : List Value}, Vals [x] us → ∃ u, us = [u] ∧ RelV x u
  | _, _, .cons r .nil => ⟨_, rfl, r⟩
theorem Vals.two : ∀ {x y : V} {us : List Value}, Vals [x, y] us → ∃ u v, us = [u, v] ∧ RelV x u ∧ RelV y v
  | _, _, _, .cons r (.cons q .nil) => ⟨_, _, rfl, r, q⟩
theorem Vals.zero : ∀ {us : List Value}, Vals [] us → us = []
  | _, .nil => rfl
theorem Vals.reverse {xs : List V} {us : List Value} (h : Vals xs us) : Vals xs.reverse us.reverse := by
  induction h with
  | nil => exact .nil
  | cons r t ih => rw [List.reverse_cons, List.reverse_cons]; exact Vals.append ih (.cons r .nil)
theorem Vals.rep {xs : List V} {us : List Value} (h : Vals xs us) : ∀ k : Nat, Vals (List.replicate k xs).flatten (List.replicate k us).flatten
  | 0 => .nil
  | k + 1 => by
    rw [List.replicate_succ, List.replicate_succ, List.flatten_cons, List.flatten_cons]
    exact Vals.append h (Vals.rep h k)
section
variable {X : Cx} {pins : List (Addr × Obj)} {σ : St} {H : Hp} {s : Shared} {l b : Addr} {xs ys zs : List V}
theorem Inv.lset {its its' : List Value} {n : Nat} {f : Array Value → Array Value} {t' : Nat} (I : Inv X pins σ H s) (hH : H l = some (.lst xs))
    (e : s.heap.get? l = some { cls := .type "list", data := .seq its.toArray n }) (hf : f its.toArray = its'.toArray) (hv : Vals ys its') (hz : ys.length ≤ sizeLine) :
    Inv X pins σ (upd H l (.lst ys)) { s with heap := s.heap.update l (Obj.mapSeq f), toks := t' } := by
  have q := PySem.IsL.update e f
  rw [hf] at q
  refine I.write (x := l) (e := l) (by rw [hH]; exact trivial) (.inl rfl) (fun b' u hb hu => (Heap.get?_update_other s.heap (Obj.mapSeq f) (Ne.symm hb)).trans hu) ⟨_, q⟩ ?_
  exact ⟨hz, its', _, hv, q⟩
theorem Inv.lnew {its : List Value} {t' : Nat} (I : Inv X pins σ H s) (hv : Vals ys its) (hz : ys.length ≤ sizeLine) :
    Inv X pins σ (upd H s.heap.objs.size (.lst ys)) { s with heap := s.heap.push { cls := .type "list", data := .seq its.toArray }, toks := t' } :=
  I.laid (fun _ _ q => Heap.get?_push_of_some _ q) (Nat.le_refl _) ⟨hz, its, 0, hv, Heap.get?_push_size _ rfl⟩
theorem Inv.fresh (I : Inv X pins σ H s) : H s.heap.objs.size = none := I.hok.fresh (Nat.le_refl _)
theorem Inv.lstM (I : Inv X pins σ H s) (hH : H l = some (.lst xs)) : xs.length ≤ sizeLine ∧ ∃ (its : List Value) (n : Nat), Vals xs its ∧ xs.length = its.length ∧ s.heap.get? l = some { cls := .type "list", data := .seq its.toArray n } := by
  obtain ⟨z, its, n, r, e⟩ := I.hok l _ hH
  exact ⟨z, its, n, r, r.length, e⟩
end
section
variable {X : Cx}
def rAppend : V → List V → Hp → VK → Prop := fun x vs H Q => ∃ l xs y, x = .ref l ∧ vs = [y] ∧ H l = some (.lst xs) ∧ xs.length < sizeLine ∧ Q .non (upd H l (.lst (xs ++ [y])))
theorem mt_append : MtM X "list.append" rAppend := by
  intro pins s σ H x vs v us Q I rx rv h
  obtain ⟨l, xs, y, rfl, rfl, hH, hz, q⟩ := h
  cases rx
  obtain ⟨u, rfl, ru⟩ := rv.one
  obtain ⟨z, its, n, r, hl, e⟩ := I.lstM hH
  refine call_meets F.slot_list_append ⟨_, e, rfl⟩ F.entry_list_append (F.args_list_append_2 _ _) (PySem.list_append l its.toArray n u (by rw [List.size_toArray]; omega)) ⟨e, ?_⟩
  refine ⟨.non, _, I.lset (its' := its ++ [u]) hH e (by simp) (r.append (.cons ru .nil)) ?_, rfl, q⟩
  rw [List.length_append, List.length_singleton]
  omega
def rCat : R2 := fun x y H Q => ∃ l b xs zs, x = .ref l ∧ y = .ref b ∧ H l = some (.lst xs) ∧ H b = some (.lst zs) ∧ xs.length + zs.length ≤ sizeLine ∧ ∀ p, H p = none → Q (.ref p) (upd H p (.lst (xs ++ zs)))
theorem op_cat : OpR X (binaryOp .Add) rCat := by
  intro pins s σ H x y v u Q I rx ry h
  obtain ⟨l, b, xs, zs, rfl, rfl, hH, hB, hz, q⟩ := h
  cases rx
  cases ry
  obtain ⟨z, its, n, r, hl, e⟩ := I.lstM hH
  obtain ⟨z2, its2, n2, r2, hl2, e2⟩ := I.lstM hB
  refine PySem.P.add_list e e2 ?_ (by rw [List.size_toArray, List.size_toArray]; omega)
  have ea : its.toArray ++ its2.toArray = (its ++ its2).toArray := by simp
  rw [ea]
  exact ⟨.ref _, _, I.lnew (t' := s.toks) (r.append r2) (by rw [List.length_append]; omega), rfl, q _ I.fresh⟩
theorem len_rep {α : Type} (xs : List α) (k : Nat) : (List.replicate k xs).flatten.length = k * xs.length := by
  induction k with
  | zero => simp
  | succ k ih => rw [List.replicate_succ, List.flatten_cons, List.length_append, ih, Nat.succ_mul, Nat.add_comm]
end
section
variable {prog : Program} {w : World} {A : Around} {E : Value → Shared → Prop} {s : Shared}
set_option maxRecDepth 100000 in
end
section
variable {X : Cx}
end
end L2
namespace L2
open PySem PySem.Spec PyProof.Rows
section
variable {κ : Type} [DecidableEq κ]
def valV (kvs : List (κ × V)) (k : κ) : Option V := (kvs.find? fun kv => decide (kv.1 = k)).map (·.2)
/-- in its place, or at the end -/
def putK (kvs : List (κ × V)) (k : κ) (v : V) : List (κ × V) :=
  if (kvs.any fun kv => decide (kv.1 = k)) = true then kvs.map (fun kv => if kv.1 = k then (kv.1, v) else kv) else kvs ++ [(k, v)]
def dropK (kvs : List (κ × V)) (k : κ) : List (κ × V) := kvs.filter fun kv => decide (kv.1 ≠ k)
theorem valV_pos {p : κ × V} {r : List (κ × V)} {k : κ} (e : p.1 = k) : valV (p :: r) k = some p.2 := by simp [valV, List.find?_cons, e]
theorem valV_neg {p : κ × V} {r : List (κ × V)} {k : κ} (e : ¬ p.1 = k) : valV (p :: r) k = valV r k := by simp [valV, List.find?_cons, e]
theorem valV_any (k : κ) : ∀ kvs : List (κ × V), (kvs.any fun kv => decide (kv.1 = k)) = (valV kvs k).isSome
  | [] => rfl
  | p :: r => by
    rw [List.any_cons]
    by_cases e : p.1 = k
    · simp only [valV_pos e, decide_eq_true e, Bool.true_or, Option.isSome_some]
    · rw [valV_neg e, decide_eq_false e, Bool.false_or]; exact valV_any k r
theorem RelO.isSome_eq {o : Option V} {u : Option Value} (r : RelO o u) : o.isSome = u.isSome := by
  cases o with
  | none => cases u with
    | none => rfl
    | some _ => exact (show False from r).elim
  | some _ => cases u with
    | none => exact (show False from r).elim
    | some _ => rfl
theorem RelO.getD {o : Option V} {u : Option Value} {d : V} {d' : Value} (r : RelO o u) (rd : RelV d d') : RelV (o.getD d) (u.getD d') := by
  cases o with
  | none => cases u with
    | none => exact rd
    | some _ => exact (show False from r).elim
  | some _ => cases u with
    | none => exact (show False from r).elim
    | some _ => exact r
/-- raw tables of the same keys -/
theorem KV.val {kvs : List (κ × V)} {vs : List (κ × Value)} (r : KV kvs vs) (k : κ) : RelO (valV kvs k) (valueAt vs k) := by
  unfold KV at r
  induction r with
  | nil => exact True.intro
  | @cons p q ps qs h t ih =>
    obtain ⟨h1, h2⟩ := h
    by_cases e : p.1 = k
    · have e' : q.1 = k := h1.symm.trans e
      have b : valueAt (q :: qs) k = some q.2 := by simp [valueAt, List.find?_cons, e']
      rw [valV_pos e, b]; exact h2
    · have e' : ¬ q.1 = k := fun z => e (h1.trans z)
      have b : valueAt (q :: qs) k = valueAt qs k := by simp [valueAt, List.find?_cons, e']
      rw [valV_neg e, b]; exact ih
theorem KV.any {kvs : List (κ × V)} {vs : List (κ × Value)} (r : KV kvs vs) (k : κ) : (kvs.any fun kv => decide (kv.1 = k)) = vs.any fun kv => decide (kv.1 = k) := by
  unfold KV at r
  induction r with
  | nil => rfl
  | cons h t ih => rw [List.any_cons, List.any_cons, ih, h.1]
theorem KV.repl {kvs : List (κ × V)} {vs : List (κ × Value)} (r : KV kvs vs) (k : κ) {y : V} {u : Value} (ry : RelV y u) :
    KV (kvs.map fun kv => if kv.1 = k then (kv.1, y) else kv) (vs.map fun kv => if kv.1 = k then (kv.1, u) else kv) := by
  unfold KV at r ⊢
  induction r with
  | nil => exact .nil
  | @cons p q ps qs h t ih =>
    rw [List.map_cons, List.map_cons]
    refine .cons ?_ ih
    obtain ⟨h1, h2⟩ := h
    by_cases e : p.1 = k
    · rw [if_pos e, if_pos (h1.symm.trans e)]; exact ⟨h1, ry⟩
    · rw [if_neg e, if_neg (fun z => e (h1.trans z))]; exact ⟨h1, h2⟩
theorem KV.put {kvs : List (κ × V)} {vs : List (κ × Value)} (r : KV kvs vs) (k : κ) {y : V} {u : Value} (ry : RelV y u) : KV (putK kvs k y) (stored vs k u) := by
  unfold putK stored
  rw [r.any k]
  by_cases e : (vs.any fun kv => decide (kv.1 = k)) = true
  · rw [if_pos e, if_pos e]; exact r.repl k ry
  · rw [if_neg e, if_neg e]; exact Paired.snoc r ⟨rfl, ry⟩
theorem KV.drop {kvs : List (κ × V)} {vs : List (κ × Value)} (r : KV kvs vs) (k : κ) : KV (dropK kvs k) (without vs k) := by
  unfold KV at r ⊢
  unfold dropK without
  induction r with
  | nil => exact .nil
  | @cons p q ps qs h t ih =>
    obtain ⟨h1, h2⟩ := h
    rw [List.filter_cons, List.filter_cons]
    by_cases e : p.1 = k
    · have a : ¬ decide (p.1 ≠ k) = true := by simp [e]
      have b : ¬ decide (q.1 ≠ k) = true := by simp [h1.symm.trans e]
      rw [if_neg a, if_neg b]; exact ih
    · have e' : ¬ q.1 = k := fun z => e (h1.trans z)
      have a : decide (p.1 ≠ k) = true := by simp [e]
      have b : decide (q.1 ≠ k) = true := by simp [e']
      rw [if_pos a, if_pos b]; exact .cons ⟨h1, h2⟩ ih
theorem KV.keys {kvs : List (κ × V)} {vs : List (κ × Value)} (r : KV kvs vs) : kvs.map (·.1) = vs.map (·.1) := by
  unfold KV at r
  induction r with
  | nil => rfl
  | cons h t ih => rw [List.map_cons, List.map_cons, ih, h.1]
theorem KV.length {kvs : List (κ × V)} {vs : List (κ × Value)} (r : KV kvs vs) : kvs.length = vs.length := Paired.length r
end
/-- raw entries of a dict with tuple keys -/
abbrev KT (H : Hp) : List (List Key × V) → List (List Key × Addr × Value) → Prop := Paired fun p q => p.1 = q.1 ∧ H q.2.1 = some (.tup (p.1.map kV)) ∧ RelV p.2 q.2.2
theorem KT.val {H : Hp} {kvs : List (List Key × V)} {xs : List (List Key × Addr × Value)} (r : KT H kvs xs) (k : List Key) : RelO (valV kvs k) ((atKey xs k).map (·.2)) := by
  induction r with
  | nil => exact True.intro
  | @cons p q ps qs h t ih =>
    obtain ⟨h1, _, h2⟩ := h
    by_cases e : p.1 = k
    · have e' : q.1 = k := h1.symm.trans e
      have b : atKey (q :: qs) k = some q.2 := by simp [atKey, List.find?_cons, e']
      rw [valV_pos e, b]; exact h2
    · have e' : ¬ q.1 = k := fun z => e (h1.trans z)
      have b : atKey (q :: qs) k = atKey qs k := by simp [atKey, List.find?_cons, e']
      rw [valV_neg e, b]; exact ih
theorem KT.repl {H : Hp} {kvs : List (List Key × V)} {xs : List (List Key × Addr × Value)} (r : KT H kvs xs) (k : List Key) {y : V} {u : Value} (ry : RelV y u) :
    KT H (kvs.map fun kv => if kv.1 = k then (kv.1, y) else kv) (xs.map (putAt k u)) := by
  induction r with
  | nil => exact .nil
  | @cons p q ps qs h t ih =>
    rw [List.map_cons, List.map_cons]
    refine .cons ?_ ih
    obtain ⟨h1, h2, h3⟩ := h
    unfold putAt
    by_cases e : p.1 = k
    · rw [if_pos e, if_pos (h1.symm.trans e)]; exact ⟨h1, h2, ry⟩
    · rw [if_neg e, if_neg (fun z => e (h1.trans z))]; exact ⟨h1, h2, h3⟩
theorem KT.put {H : Hp} {kvs : List (List Key × V)} {xs : List (List Key × Addr × Value)} (r : KT H kvs xs) (k : List Key) {b : Addr} {y : V} {u : Value} (hb : H b = some (.tup (k.map kV))) (ry : RelV y u) :
    KT H (putK kvs k y) (storedH xs k b u) := by
  have e : (kvs.any fun kv => decide (kv.1 = k)) = (atKey xs k).isSome := by
    rw [valV_any, (r.val k).isSome_eq, Option.isSome_map]
  unfold putK storedH
  rw [e]
  by_cases q : (atKey xs k).isSome = true
  · rw [if_pos q, if_pos q]; exact r.repl k ry
  · rw [if_neg q, if_neg q]; exact Paired.snoc r ⟨rfl, hb, ry⟩
theorem KT.keeps {H H' : Hp} {kvs : List (List Key × V)} {xs : List (List Key × Addr × Value)} (r : KT H kvs xs) (ht : ∀ b ys, H b = some (.tup ys) → H' b = some (.tup ys)) : KT H' kvs xs :=
  Paired.mapP r fun _ _ z => ⟨z.1, ht _ _ z.2.1, z.2.2⟩
section
variable {P : Program} {w : World} {H : Hp} {h : Heap} {a : Addr}
end
/-- what the dict at a holds at the key y -/
def DGet (H : Hp) (a : Addr) (y : V) (r : Option V) : Prop :=
  (∃ kvs k, Rd H a (.dK kvs) ∧ y = kV k ∧ r = valV kvs k) ∨ ∃ kvs k b, Rd H a (.dT kvs) ∧ y = .ref b ∧ H b = some (.tup (k.map kV)) ∧ r = valV kvs k
/-- the heap behind a[y] = v -/
def DPut (H : Hp) (a : Addr) (y v : V) (H' : Hp) : Prop :=
  (∃ kvs k, H a = some (.dK kvs) ∧ y = kV k ∧ kvs.length < sizeLine ∧ H' = upd H a (.dK (putK kvs k v))) ∨
  ∃ kvs k b, H a = some (.dT kvs) ∧ y = .ref b ∧ H b = some (.tup (k.map kV)) ∧ kvs.length < sizeLine ∧ H' = upd H a (.dT (putK kvs k v))
theorem DGet.k {H : Hp} {a : Addr} {kvs : List (Key × V)} {k : Key} (e : H a = some (.dK kvs)) : DGet H a (kV k) (valV kvs k) := .inl ⟨kvs, k, .inl e, rfl, rfl⟩
theorem DGet.t {H : Hp} {a b : Addr} {kvs : List (List Key × V)} {k : List Key} (e : H a = some (.dT kvs)) (eb : H b = some (.tup (k.map kV))) : DGet H a (.ref b) (valV kvs k) := .inr ⟨kvs, k, b, .inl e, rfl, eb, rfl⟩
theorem DPut.k {H : Hp} {a : Addr} {kvs : List (Key × V)} {k : Key} {v : V} (e : H a = some (.dK kvs)) (hl : kvs.length < sizeLine) : DPut H a (kV k) v (upd H a (.dK (putK kvs k v))) := .inl ⟨kvs, k, e, rfl, hl, rfl⟩
theorem DPut.t {H : Hp} {a b : Addr} {kvs : List (List Key × V)} {k : List Key} {v : V} (e : H a = some (.dT kvs)) (eb : H b = some (.tup (k.map kV))) (hl : kvs.length < sizeLine) :
    DPut H a (.ref b) v (upd H a (.dT (putK kvs k v))) := .inr ⟨kvs, k, b, e, rfl, eb, hl, rfl⟩
section
variable {X : Cx} {pins : List (Addr × Obj)} {σ : St} {H : Hp} {s : Shared} {a : Addr} {y v : V} {u r : Value} {o : Option V} {A : Around} {E : Value → Shared → Prop}
end
section
variable {X : Cx} {pins : List (Addr × Obj)} {σ : St} {H : Hp} {s : Shared} {a : Addr} {kvs : List (Key × V)} {k : Key} {u : Value} {A : Around} {E : Value → Shared → Prop}
end
/-- d[y] -/
def tDGet (td ty : TE) : TE := fun σ H Q => td σ H fun x H1 => ty σ H1 fun y H2 => ∃ a v, x = .ref a ∧ DGet H2 a y (some v) ∧ Q v H2
/-- d[y] = v -/
def sDPut (td ty tv : TE) : TS := fun D σ H => tv σ H fun v H1 => td σ H1 fun x H2 => ty σ H2 fun y H3 => ∃ a H4, x = .ref a ∧ DPut H3 a y v H4 ∧ D.nx σ H4
section
variable {X : Cx} {o i e value : Expr} {pos pos' tpos : Pos} {td ty tv : TE}
end
/-- {}, to be a dict of the kind that is wanted -/
def tDNewK : TE := fun _ H Q => ∀ p, H p = none → Q (.ref p) (upd H p (.dK []))
section
variable {X : Cx} {pos : Pos}
end
/-- the pairs of a display, from the left -/
def tPairs : List (TE × TE) → St → Hp → (List (V × V) → Hp → Prop) → Prop
  | [], _, H, Q => Q [] H
  | (tk, tv) :: r, σ, H, Q => tk σ H fun x H1 => tv σ H1 fun y H2 => tPairs r σ H2 fun ps H3 => Q ((x, y) :: ps) H3
abbrev VV : List (V × V) → List (Value × Value) → Prop := Paired fun p q => RelV p.1 q.1 ∧ RelV p.2 q.2
def PPs (X : Cx) (pos : Pos) (keys : List (Option Expr)) (values : List Expr) (trs : List (TE × TE)) : Prop :=
  ∀ (pins : List (Addr × Obj)) (s : Shared) (σ : St) (H : Hp) (Q : List (V × V) → Hp → Prop), Inv X pins σ H s → tPairs trs σ H Q →
    wpAny (model X.prog X.w) X.A (evalPairs (pairTrees keys values X.env pos)) (fun vs s' => ∃ ps H', Inv X pins σ H' s' ∧ VV ps vs ∧ Q ps H') X.xe s
def mergeK (kvs more : List (Key × V)) : List (Key × V) := more.foldl (fun acc kv => putK acc kv.1 kv.2) kvs
/-- {k: v, ..} with keys ints and texts; the new dict stands empty while the pairs are made -/
def tDisp (trs : List (TE × TE)) : TE := fun σ H Q => ∀ p, H p = none → tPairs trs σ (upd H p (.dK [])) fun ps H2 => H2 p = some (.dK []) ∧ ∃ kvs : List (Key × V), ps = kvs.map (fun kv => (kV kv.1, kv.2)) ∧ kvs.length ≤ 15 ∧ Q (.ref p) (upd H2 p (.dK (mergeK [] kvs)))
/-- a method call o.m(e) of a built-in, with one argument: what must be seen of the text -/
structure M1 (X : Cx) (o : Expr) (m : Str) (apos : Pos) (e : Expr) (cpos : Pos) : Prop where
  base : attributeBase o m X.env (eval o X.env) = eval o X.env
  few : ((backTo cpos (starEach [e] X.env)).all (fun x => !x.1) && (backToKw cpos (keywordEach [] X.env)).all (fun x => x.1.isSome)
    && decide (([e] : List Expr).length + ([] : List Keyword).length + (if ([] : List Keyword).isEmpty then 0 else 1) < 30)) = true
  line : (apos.endLine == cpos.line) = true
  trees : backTo cpos (starEach [e] X.env) = [(false, eval e X.env)]
structure M2 (X : Cx) (o : Expr) (m : Str) (apos : Pos) (e f : Expr) (cpos : Pos) : Prop where
  base : attributeBase o m X.env (eval o X.env) = eval o X.env
  few : ((backTo cpos (starEach [e, f] X.env)).all (fun x => !x.1) && (backToKw cpos (keywordEach [] X.env)).all (fun x => x.1.isSome)
    && decide (([e, f] : List Expr).length + ([] : List Keyword).length + (if ([] : List Keyword).isEmpty then 0 else 1) < 30)) = true
  line : (apos.endLine == cpos.line) = true
  trees : backTo cpos (starEach [e, f] X.env) = [(false, eval e X.env), (false, eval f X.env)]
section
variable {X : Cx} {pins : List (Addr × Obj)} {σ : St} {H : Hp} {s : Shared} {a : Addr} {y d : V} {u r : Value} {o : Option V} {A : Around} {E : Value → Shared → Prop}
end
section
variable {X : Cx} {o e f : Expr} {apos cpos : Pos} {td ty tx : TE}
end
section
variable {X : Cx} {pins : List (Addr × Obj)} {σ : St} {H : Hp} {s : Shared} {a : Addr} {kvs : List (Key × V)} {A : Around} {E : Value → Shared → Prop}
end
section
variable {X : Cx} {pins : List (Addr × Obj)} {σ : St} {H : Hp} {s : Shared} {a : Addr} {y : V} {u : Value} {A : Around} {E : Value → Shared → Prop}
end
end L2
namespace Att
open PySem PySem.W PySem.Calls PyProof.Rows
theorem ints_of_wellAll {P : Params} {h : Heap} : ∀ (ns : List Int) (vs : List Value), WellAll P h vs (ns.map WData.int) → IntsAre vs ns := by
  intro ns
  induction ns with
  | nil =>
    intro vs w
    rw [List.map_nil] at w
    cases w
    exact .nil
  | cons n ns ih =>
    intro vs w
    rw [List.map_cons] at w
    cases w with
    | cons a b =>
      cases a
      exact .cons _ _ (ih _ b)
theorem script_of {l : OpenLaw} {n : Nat} (hn : l.most = some n) {P : Params} {h : Heap} {args : List WData} {vals : List Value}
    (hpre : l.row.toRowW.claim.pre args = true) (hwl : WellAll P h vals args) :
    ∃ a vs ns, vals = [Value.ref a] ∧ args = [WData.list (ns.map WData.int)] ∧ h.get? a = some { cls := .type "list", data := .seq vs.toArray } ∧ IntsAre vs ns ∧ ns.length ≤ n := by
  have hsh : WShape.hasAll [] args [.list .int] = true := (pre_splitW hpre).1
  have hc : l.pre.holds [] { args := args } = true := (pre_splitW hpre).2
  obtain ⟨d, r, rfl, h1, h2⟩ := hasAllW_cons hsh
  obtain rfl := hasAllW_nil h2
  obtain ⟨xs, rfl, h3⟩ := hasW_list h1
  obtain ⟨ns, rfl⟩ := items_int h3
  have hlen : ns.length ≤ n := by
    unfold OpenLaw.pre at hc
    have h4 : (WTm.not (.lt (.lit (.int (n : Int))) (.len (.arg 0)))).holds [] { args := [.list (ns.map .int)] } = true := by
      have h4 := (holds_andW hc).1
      rw [hn] at h4
      exact h4
    have h5 := condW_of h4 (w_not (w_lt w_lit (w_len_list (w_arg rfl))))
    rw [List.length_map] at h5
    refine Nat.le_of_not_lt fun q => ?_
    have q' : (n : Int) < ((ns.length : Nat) : Int) := by omega
    first
      | (rw [decide_eq_true q'] at h5; exact absurd h5 (by decide))
      | (simp at h5; omega)
  cases hwl with
  | cons w1 w2 =>
    cases w2
    cases w1 with
    | list ho hall => exact ⟨_, _, ns, rfl, rfl, ho, ints_of_wellAll ns _ hall, hlen⟩
theorem post_true (l : OpenLaw) (args : List WData) : l.row.toRowW.claim.post args (.bool true) args = true :=
  postW_of (r := l.row.toRowW) (X := (true == true))
    (show WShape.has [] (.bool true) .bool = true by first | rfl | decide | simp [WShape.has, WShape.arms, WShape.armsAll])
    (show (WTm.eq .res (.lit (.bool true))).value [] { args := args, res := some (.bool true), after := args } = some (.bool (true == true)) from w_eq_bool (w_res rfl) w_lit) rfl
/-- the same from a codeAny of the CALL (for a layer whose function contracts speak of calls) -/
theorem attach_call {l : OpenLaw} {n : Nat} {q : Program} {loose : List Str} {XP : (Str → Option Value) → Heap → Prop} {YP : World → Heap → Prop} {d : DefRec}
    (hn : l.most = some n) (hdf : d.params.defaults = [])
    (call : ∀ (w : World) (s₀ s₁ : Shared) (mg mb : Str → Option Value) (fa : Addr) (o : Obj) (pm cd doc : Value) (a : Addr) (vs : List Value) (ns : List Int),
      Ground q loose [] XP w s₀ mg mb s₁.heap → YP w s₁.heap →
      s₁.heap.get? fa = some o → o.data = .func (docDef d.name d.params d.body d.scope pm cd doc) → s₁.heap.CodeRec cd d.name → mg d.name = some (.ref fa) →
      s₁.heap.get? a = some { cls := .type "list", data := .seq vs.toArray } → IntsAre vs ns → ns.length ≤ n → s₁.gens = #[] →
      codeAny (model l.prog w) callerA (.call (.ref fa) ⟨[.ref a], []⟩) (fun r s' => r = .ok (.ret (.bool true)) ∧ OldK s₁.heap s'.heap ∧ s'.os = s₁.os ∧ AllBare s'.gens) s₁) :
    WalkO q loose XP YP l.row.toRowW d [] (fun f vs => PySem.call f vs) := by
  intro w s₀ s₁ mg mb G Y fa o pm cd doc dV kV ho hd hcd hD hmg hg args vals as hpre hlay hrd hwl hlo
  obtain rfl : dV = .none := Dflts.none hD hdf
  obtain rfl : kV = .none := Dflts.noKw hD
  obtain ⟨a, vs, ns, rfl, rfl, hobj, hints, hlen⟩ := script_of hn hpre hwl
  refine enter_call (codeAny_mono (call w s₀ s₁ mg mb fa o pm cd doc a vs ns G Y ho (fd_plain hd) hcd hmg hobj hints hlen hg) fun r s' hq => ?_)
  obtain ⟨rfl, h2, h3, h4⟩ := hq
  exact ⟨.inl ⟨.bool true, .bool true, [], rfl, fun _ => rfl, .bool true, post_true l _, fun _ => ⟨List.Pairwise.nil, fun _ hm => (nomatch hm)⟩⟩, h2, h3, h4⟩
section
variable {prog : Program} {w : World} {A : Around} {E : Value → Shared → Prop} {s : Shared} {K : Frag}
def ledger (h : Heap) (L d : Addr) : List (Addr × Obj) := (List.range h.objs.size).filterMap fun a => if a = L ∨ a = d then none else (h.get? a).map fun o => (a, o)
end
end Att
namespace L2
open PySem PySem.Spec PyProof.Rows
theorem vals_ints : ∀ {vs : List Value} {ns : List Int}, IntsAre vs ns → Vals (ns.map V.int) vs
  | _, _, .nil => .nil
  | _, _, .cons n t h => .cons ⟨t, rfl⟩ (vals_ints h)
/-- nothing is tracked but the script, known to the object (or it is an object of the module) -/
def Only (H : Hp) : Prop := ∀ b, H b = none ∨ ∃ o xs, H b = some (.frz o (.lst xs))
/-- THE HEAD: the law's promise, at the heap behind the top. F, the promise of the law's def, may use that base is part of the heap (so K.In base, base.Ns mainGlobals mg stand in Mod) -/
theorem law_call {P : Program} {w : World} {K : PySem.W.Frag} {mg mb : Str → Option Value} {CX : CXT} {k : Nat} {fa a : Addr} {fd : FuncData} {x : Str} {sp : Sp} {s₁ : Shared} {vs : List Value} {ns : List Int}
    (KX : K.In s₁.heap) (hns : s₁.heap.Ns mainGlobals mg) (hb : s₁.heap.Ns builtinsNs mb) (hbb : ∀ x : Str, x ≠ "__name__" → mb x = bootBuiltins x) (hlim : s₁.heap.NoLimit) (hg : s₁.gens = #[])
    (ha : s₁.heap.get? a = some { cls := .type "list", data := .seq vs.toArray }) (hi : IntsAre vs ns) (hl : ns.length ≤ sizeLine) (hr : Room k callerA)
    (F : ∀ base : Heap, K.In base → base.Ns mainGlobals mg → FnOk P w K mg base CX k fa fd [x] sp) (hbind : ∀ (s : Shared) (u : Value), BindsTo s fd ⟨[u], []⟩ [(x, u)])
    (hsp : ∀ H : Hp, Only H → SqL K H a (ns.map V.int) → sp [.ref a] H (fun v _ => v = .bl true) fun _ _ _ => False)
    (hCX : ∀ H e s', CX [] H s₁ (fun _ _ _ => False) e s' → False) :
    codeAny (model P w) callerA (.call (.ref fa) ⟨[.ref a], []⟩) (fun r s' => r = .ok (.ret (.bool true)) ∧ OldK s₁.heap s'.heap ∧ s'.os = s₁.os ∧ AllBare s'.gens) s₁ := by
  have rv := vals_ints hi
  have lenV := hi.length
  -- from an abstract heap in which nothing but the script may be tracked
  have core : ∀ H : Hp, Only H → SqL K H a (ns.map V.int) → HOk P w H s₁.heap → (∀ b, H b ≠ none → b = a) → (H a ≠ none → K.lookup a = none) →
      codeAny (model P w) callerA (.call (.ref fa) ⟨[.ref a], []⟩) (fun r s' => r = .ok (.ret (.bool true)) ∧ OldK s₁.heap s'.heap ∧ s'.os = s₁.os ∧ AllBare s'.gens) s₁ := by
    intro H hO hS hok hA hK
    have base_of : ∀ {b : Addr} {o : Obj}, s₁.heap.get? b = some o → H b = none → (hidT s₁.heap H).get? b = some o := fun e n => hidT_get e n
    have noA : ∀ {b : Addr} {o : Obj} {es : Array DictEntry} {ep : Nat}, s₁.heap.get? b = some o → o.data = .dict es ep → H b = none := fun {b o es ep} e d => by
      cases q : H b with
      | none => rfl
      | some u =>
        have e' : b = a := hA b (by rw [q]; simp)
        subst e'
        rw [ha] at e; cases e
        have d' : Data.seq vs.toArray _ = Data.dict es ep := d
        cases d'
    have nsK : ∀ {b : Addr} {m : Str → Option Value}, s₁.heap.Ns b m → (hidT s₁.heap H).Ns b m := fun {b m} ⟨o, es, ep, e, d, r⟩ => ⟨o, es, ep, base_of e (noA e d), d, r⟩
    have hKb : K.In (hidT s₁.heap H) := fun b o e => base_of (KX b o e) (by
      cases q : H b with
      | none => rfl
      | some u =>
        have e' : b = a := hA b (by rw [q]; simp)
        subst e'
        rw [hK (by rw [q]; simp)] at e; cases e)
    have hM : Mod K mg (hidT s₁.heap H) := ⟨hKb, nsK hns, ⟨mb, nsK hb, hbb⟩, let ⟨mc, h1, h2⟩ := hlim; ⟨mc, nsK h1, h2⟩⟩
    have e0 : Env0 P w K mg (hidT s₁.heap H) callerA [] s₁ H := ⟨rfl, hM, fun b o e => of_hidT e, Nat.le_of_eq (hidT_size _ _), trivial, fun b hb => absurd (show b ∈ ([] : List Addr) from hb) (by simp), hok, .of_eq hg⟩
    refine codeAny_mono ((F _ hKb (nsK hns)).run callerA [] s₁ H ⟨[.ref a], []⟩ [.ref a] [.ref a] _ _ hr e0 (hbind s₁ (.ref a)) (.cons rfl .nil) (hsp H hO hS)) fun r s' h => ?_
    cases r with
    | error e => exact (hCX H e s' h).elim
    | ok fl =>
      cases fl with
      | next => exact False.elim h
      | brk => exact False.elim h
      | cont => exact False.elim h
      | ret u =>
        obtain ⟨v, H', os, bare, un, hok', r', q⟩ := h
        have q' : v = .bl true := q
        subst q'
        obtain rfl : u = Value.bool true := r'
        refine ⟨rfl, OldK.of_keep fun b o e => ?_, os, bare⟩
        cases q : H b with
        | none => exact un.keep b o e q (by intro z; exact absurd (show b ∈ ([] : List Addr) from z) (by simp)) (by simp)
        | some u =>
          rcases hO b with z | ⟨ob, xs, z⟩
          · rw [q] at z; cases z
          · have z2 := un.frzs b ob _ z
            obtain ⟨e1, _⟩ := hok b _ z
            obtain ⟨e2, _⟩ := hok' b _ z2
            rw [e] at e1; cases e1
            exact e2
  cases hk : K.lookup a with
  | some o =>
    -- the script is one of the module's own objects
    have e := KX a o hk
    rw [ha] at e
    cases e
    refine core (fun _ => none) (fun _ => .inl rfl) (.inr ⟨_, vs.toArray, _, hk, rfl, rfl, rfl, by rw [List.size_toArray, lenV]; exact hl, by simpa using rv⟩) (fun b u z => by have z' : (none : Option HO) = some u := z; cases z') (fun b z => absurd rfl z) fun z => absurd rfl z
  | none =>
    refine core (fun b => if b = a then some (.frz { cls := .type "list", data := .seq vs.toArray } (.lst (ns.map V.int))) else none) (fun b => ?_) (.inl (.inr ⟨{ cls := .type "list", data := .seq vs.toArray }, if_pos rfl⟩)) (fun b u z => ?_) (fun b z => ?_) fun _ => hk
    · by_cases hb : b = a
      · exact .inr ⟨_, _, if_pos hb⟩
      · exact .inl (if_neg hb)
    · by_cases hb : b = a
      · have z' := (if_pos hb).symm.trans z
        cases z'
        subst hb
        exact ⟨ha, by rw [List.length_map]; exact hl, vs, _, rv, ha⟩
      · have z' := (if_neg hb).symm.trans z
        cases z'
    · by_cases hb : b = a
      · exact hb
      · exact absurd (if_neg hb) z
end L2
namespace L2
open PySem PySem.Spec PyProof.Rows
abbrev KOf {K : PySem.W.Frag} {h : Heap} (_ : K.In h) : PySem.W.Frag := K
/-- the goal that k_head leaves (case hc), from the law's promise. F gives the function object fd (K's own) once, then the promise over every base -/
theorem walk_of {l : PySem.W.OpenLaw} {n k : Nat} {q : Program} {loose : List Str} {XP : (Str → Option Value) → Heap → Prop} {YP : World → Heap → Prop} {d : DefRec} {K : Params → PySem.W.Frag} {CX : World → CXT} {sp : World → Sp} {x : Str}
    (hn : l.most = some n) (hn2 : n ≤ sizeLine) (hdf : d.params.defaults = []) (hr : Room k callerA)
    (hY : ∀ (w : World) (h : Heap), YP w h → (K w.params).In h)
    (F : ∀ (w : World) (mg : Str → Option Value) (fa : Addr) (h : Heap), (K w.params).In h → h.Ns mainGlobals mg → mg d.name = some (.ref fa) →
      ∃ fd : FuncData, (∀ (s : Shared) (u : Value), BindsTo s fd ⟨[u], []⟩ [(x, u)]) ∧
        ∀ base : Heap, (K w.params).In base → base.Ns mainGlobals mg → FnOk l.prog w (K w.params) mg base (CX w) k fa fd [x] (sp w))
    (hsp : ∀ (w : World) (H : Hp) (a : Addr) (ns : List Int), ns.length ≤ n → Only H → SqL (K w.params) H a (ns.map V.int) → sp w [.ref a] H (fun v _ => v = .bl true) fun _ _ _ => False)
    (hCX : ∀ (w : World) (H : Hp) (s : Shared) (e : Value) (s' : Shared), CX w [] H s (fun _ _ _ => False) e s' → False) :
    PySem.W.WalkO q loose XP YP l.row.toRowW d [] (fun f vs => PySem.call f vs) := by
  refine Att.attach_call hn hdf fun w s₀ s₁ mg mb fa o pm cd doc a vs ns G Y ho hd hcd hmg hobj hints hlen hg => ?_
  have KX := hY w _ Y
  obtain ⟨fd, hb, hF⟩ := F w mg fa _ KX G.T.g hmg
  exact law_call KX G.T.g G.T.b G.T.builtins G.T.nolimit hg hobj hints (Nat.le_trans hlen hn2) hr hF hb (fun H hO hS => hsp w H a ns hlen hO hS) fun H e s' => hCX w H s₁ e s'
end L2
/- THE LAST THEOREM (shape; LID, My.* are yours):
   My.Adr: a structure of the addresses that your layer names (classes, functions); My.Txt K t: a structure (Prop) of the equations over K;
   My.txt_mk : {K} {implicit addresses ..} (e1 : nsIn K mainGlobals "law" = some (some (.ref f))) (e2 : K.lookup f = some ⟨oc, od, .func (fnOf "law" "law" params body scope dV kV doc pm an cdv ct), sl⟩) (e3 : codeIn K cdv "law" = true) .. : ∃ t, My.Txt K t
set_option maxRecDepth 100000 in
set_option maxHeartbeats 0 in
theorem PySem.Challenge.cw_LID_holds : PySem.Challenge.rw_LID.Holds := by
  w_on; o_law; k_head; (case hw => w_witness2)
  k_fill
  refine L2.walk_of (l := PySem.Challenge.rw_LID) (n := 63) (k := 40) (x := "script") (CX := fun w => ..) (sp := fun _ => My.sp_law) rfl (by decide) rfl ⟨rfl, by decide, by decide⟩ (fun w h Y => PySem.W.kIn_of Y) ?F ?S ?C
  case F =>
    intro w mg fa h KX G hmg
    have T : ∃ t, My.Txt (L2.KOf KX) t := by
      dsimp only [L2.KOf]                          -- K must stand as «<heap const> w.params» for k_is
      refine' My.txt_mk ?e1 ?e2 ?e3 ..
      (case e1 => PySem.W.k_is)                    -- in the order: a name -> its address -> its object -> its parts
      (case e2 => PySem.W.k_is)
      ..
    obtain ⟨t, T⟩ := T
    have e0 := hmg.symm.trans (PySem.W.mg_of KX G T.law)
    cases e0                                       -- fa is the law's own address
    exact ⟨_, fun s u => .of_eq rfl, fun base kb nb => My.law_fn T kb nb⟩     -- if «.of_eq rfl» comes too early: refine' ⟨_, ?b, fun base kb nb => My.law_fn T kb nb⟩; exact fun s u => .of_eq rfl
  case S => exact fun w H a ns hl hO hS => ..
  case C => exact ..
(the tactic k_is has no namespace: write k_is) -/
namespace L2
open PySem PySem.Spec PyProof.Rows
def defArgs (s : Stmt) : Arguments := match s with
  | .FunctionDef _ a _ _ _ _ _ _ _ _ => a
  | _ => { posonlyargs := [], args := [], vararg := none, kwonlyargs := [], kw_defaults := [], kwarg := none, defaults := [] }
def defBody (s : Stmt) : List Stmt := match s with
  | .FunctionDef _ _ b _ _ _ _ _ _ _ => b
  | _ => []
def defScope (s : Stmt) : Scope := match s with
  | .FunctionDef _ _ _ _ _ _ sc _ _ _ => sc
  | _ => { kind := .function, names := [], isGenerator := false, isCoroutine := false }
abbrev CX0 : CXT := fun _ _ _ _ _ _ => False
abbrev E0 : XK := fun _ _ _ => False
theorem pass0 {X : Cx} : Passes CX0 X E0 := fun _ _ _ _ _ _ _ h => h.elim
structure Fun (K : PySem.W.Frag) (x qual : Str) (st : Stmt) (f : Addr) (fd : FuncData) : Prop where
  ex : ∃ (oc : Value) (od : Option Addr) (kV doc pm : Value) (an : Option Addr) (cdv ct : Value) (osl : Array (Option Value)),
    fd = PySem.W.fnOf x qual (defArgs st) (defBody st) (defScope st) .none kV doc pm an cdv ct ∧ K.lookup f = some ⟨oc, od, .func fd, osl⟩ ∧ PySem.W.codeIn K cdv qual = true
  kp : PySem.W.keepIn K (.ref f) = true
section
variable {P : Program} {w : World} {K : PySem.W.Frag} {mg : Str → Option Value} {base : Heap}
/-- THE RULE for a def: its body as a term of rules, and the reading of that term -/
theorem Fun.ok {x qual : Str} {st : Stmt} {f : Addr} {fd : FuncData} {N ps : List Str} {k : Nat} {sp : Sp} (F : Fun K x qual st f fd) (S : FnScope N ps (defScope st)) (len : ∀ vs H Q E, sp vs H Q E → vs.length = ps.length)
    (hbody : ∀ (cdv : Value) (A : Around) (outer : List Env) (s : Shared) (H : Hp) (vs : List V) (Q : VK) (E : XK), Room k (A.deeper (envOfC qual (defScope st) s.heap.objs.size f cdv)) → sp vs H Q E →
      ∃ t, PSs (cxOf CX0 P w K mg base N qual (defScope st) f cdv A outer s H E).nox (defBody st) t ∧ t { nx := fun _ H' => Q .non H', rt := Q } (start N vs) H) : FnOk P w K mg base CX0 (k + 1) f fd ps sp := by
  obtain ⟨oc, od, kV, doc, pm, an, cdv, ct, osl, rfl, lk, hcd⟩ := F.ex
  refine fn_of lk hcd S len fun A outer s H vs Q E hr hsp => ?_
  obtain ⟨t, h, q⟩ := hbody cdv A outer s H vs Q E hr hsp
  exact ⟨t, h.nox, q⟩
/-- how its arguments bind (no defaults): h is «fun _ _ _ _ _ _ us hl => match us, hl with | [_, _], _ => rfl», one _ a parameter -/
theorem Fun.binds {x qual : Str} {st : Stmt} {f : Addr} {fd : FuncData} {ps : List Str} (F : Fun K x qual st f fd)
    (h : ∀ (kV doc pm : Value) (an : Option Addr) (cdv ct : Value) (us : List Value), us.length = ps.length → bindArgs (PySem.W.fnOf x qual (defArgs st) (defBody st) (defScope st) .none kV doc pm an cdv ct) ⟨us, []⟩ = pure (ps.zip us)) : Binds K fd ps [] := by
  obtain ⟨oc, od, kV, doc, pm, an, cdv, ct, osl, rfl, lk, hcd⟩ := F.ex
  exact .all (h kV doc pm an cdv ct)
theorem fun_mk {x qual : Str} {st : Stmt} {f : Addr} {oc : Value} {od an : Option Addr} {osl : Array (Option Value)} {kV doc pm cdv ct : Value} (l : K.lookup f = some ⟨oc, od, .func (PySem.W.fnOf x qual (defArgs st) (defBody st) (defScope st) .none kV doc pm an cdv ct), osl⟩)
    (c : PySem.W.codeIn K cdv qual = true) (k : PySem.W.keepIn K (.ref f) = true) : Fun K x qual st f (PySem.W.fnOf x qual (defArgs st) (defBody st) (defScope st) .none kV doc pm an cdv ct) := ⟨⟨oc, od, kV, doc, pm, an, cdv, ct, osl, rfl, l, c⟩, k⟩
end
theorem hu_of {A : Around} {k : Nat} (hr : Room k A) : A.units + 1 < cLine := Nat.lt_of_le_of_lt (Nat.add_le_add_left (by decide : 1 ≤ 64) _) hr.units
section
variable {X : Cx}
theorem pv (i : Nat) {x : Str} {pos : Pos} (hN : X.N[i]? = some x := by rfl) (hv : Vis X.env.scope x := by first | exact Or.inl rfl | exact Or.inr (Or.inl rfl) | exact Or.inr (Or.inr rfl)) (hd : (x == ("__debug__" : Str)) = false := by decide)
    (hcd : (x == ("__classdict__" : Str)) = false := by decide) : PE X (.Name x pos) (tVar i) := pe_var hN hv hd hcd
end
theorem iteF {A B : Prop} (h : B) : if false = true then A else B := by
  rw [if_neg Bool.false_ne_true]
  exact h
theorem iteT {A B : Prop} (h : A) : if true = true then A else B := by
  rw [if_pos rfl]
  exact h
/-- all that was tracked is as it was -/
def Same (H H' : Hp) : Prop := ∀ b o, H b = some o → H' b = some o
theorem Same.refl (H : Hp) : Same H H := fun _ _ h => h
theorem Same.trans {H H1 H2 : Hp} (a : Same H H1) (b : Same H1 H2) : Same H H2 := fun c o h => b c o (a c o h)
theorem Same.free {H H' : Hp} (e : Same H H') {l : Addr} (h : H' l = Option.none) : H l = Option.none := by
  cases q : H l with
  | none => rfl
  | some o =>
    rw [e l o q] at h
    cases h
theorem Same.seq {K : PySem.W.Frag} {H H' : Hp} {a : Addr} {xs : List V} (e : Same H H') (h : SqL K H a xs) : SqL K H' a xs := by
  rcases h with (h | ⟨o, h⟩) | h
  · exact .inl (.inl (e _ _ h))
  · exact .inl (.inr ⟨o, e _ _ h⟩)
  · exact .inr h
section
variable {X : Cx}
end
section
variable {κ : Type} [DecidableEq κ]
end
end L2
namespace L2
open PySem PySem.Spec PyProof.Rows
abbrev ts (x : Str) : List Nat := x.cps.toList
abbrev tx (l : List Nat) : Str := ⟨l.toArray⟩
theorem ts_tx (l : List Nat) : ts (tx l) = l := rfl
theorem tx_ts (x : Str) : tx (ts x) = x := by cases x; simp [tx, ts]
theorem ts_len (x : Str) : x.length = (ts x).length := by simp [Str.length, ts]
theorem tx_len (l : List Nat) : (tx l).length = l.length := by simp [Str.length, tx]
theorem str_ext {x y : Str} (h : ts x = ts y) : x = y := by rw [← tx_ts x, ← tx_ts y, h]
theorem app_tx (a b : List Nat) : tx a ++ tx b = tx (a ++ b) := by
  apply str_ext
  show (a.toArray ++ b.toArray).toList = a ++ b
  simp
theorem foldl_app (xs : Array Nat) : ∀ (k : Nat) (acc : Array Nat), ((List.replicate k xs).foldl (· ++ ·) acc).toList = acc.toList ++ (List.replicate k xs.toList).flatten
  | 0, acc => by simp
  | k + 1, acc => by
    rw [List.replicate_succ, List.foldl_cons, foldl_app xs k (acc ++ xs)]
    simp [List.replicate_succ]
theorem mul_tx (x : Str) (n : Int) : Txt.mul x n = tx (List.replicate n.toNat (ts x)).flatten := by
  apply str_ext
  rw [ts_tx]
  unfold Txt.mul
  by_cases h1 : n < 1
  · rw [if_pos h1]
    have e : n.toNat = 0 := by omega
    rw [e]; rfl
  · rw [if_neg h1]
    by_cases h2 : (n == 1 || x.length == 0) = true
    · rw [if_pos h2]
      rcases (Bool.or_eq_true _ _).mp h2 with h3 | h3
      · have e : n = 1 := by simpa using h3
        subst e; simp
      · have e : x.length = 0 := by simpa using h3
        rw [ts_len] at e
        have e2 : ts x = [] := List.eq_nil_of_length_eq_zero e
        show ts x = _
        rw [e2]; simp
    · rw [if_neg h2]
      show ((List.replicate n.toNat x.cps).foldl (· ++ ·) #[]).toList = _
      rw [foldl_app]; simp
section
variable {X : Cx}
def rMulS : R2 := fun x y H Q => ∃ z n, x = .str z ∧ y = .int n ∧ z.length ≤ 1000 ∧ -1000 ≤ n ∧ n ≤ 1000 ∧ Q (.str (tx (List.replicate n.toNat (ts z)).flatten)) H
theorem op_mul_str : OpR X (binaryOp .Mult) rMulS := by
  intro pins s σ H x y v u Q I rx ry h
  obtain ⟨z, n, rfl, rfl, hz, h0, h1, q⟩ := h
  obtain ⟨t, rfl⟩ := rx
  obtain ⟨t', rfl⟩ := ry
  refine SB.mul ⟨by rw [decide_eq_false (by omega), decide_eq_false (by omega)]; rfl, fun a _ b => ?_, fun a _ => ?_⟩ fun t' k => ⟨.str (Txt.mul z n), H, I.tok _, ⟨_, rfl⟩, by rw [mul_tx]; exact q⟩
  · have h2 : (9223372036854775 : Int) ≤ (2 ^ 63 - 1 : Int) / n := Int.le_ediv_of_mul_le (by omega) (by omega)
    omega
  · unfold PySem.Builtin.Str.tooLong
    have e : z.length * n.toNat ≤ 1000 * 1000 := Nat.mul_le_mul hz (by omega)
    exact decide_eq_false (by rw [sizeLine_eq]; omega)
theorem strsAre_of {ys : List Str} : ∀ {us : List Value}, Vals (ys.map V.str) us → StrsAre us ys := by
  induction ys with
  | nil => intro us r; rw [List.map_nil] at r; cases r; exact .nil
  | cons n ns ih =>
    intro us r
    rw [List.map_cons] at r
    cases r with
    | cons r1 r2 =>
      obtain ⟨t, e⟩ := r1
      subst e
      exact .cons n t (ih r2)
theorem glue_foldl (g : Str) : ∀ (ps : List Str) (acc : Array Nat), (ps.foldl (fun a p => a ++ g.cps ++ p.cps) acc).toList = acc.toList ++ (ps.map fun p => ts g ++ ts p).flatten
  | [], acc => by simp
  | p :: ps, acc => by
    rw [List.foldl_cons, glue_foldl g ps]
    simp
theorem join_nil (ys : List Str) : Txt.join (tx []) ys = tx (ys.map ts).flatten := by
  apply str_ext
  show ((ys.drop 1).foldl (fun acc p => acc ++ (tx []).cps ++ p.cps) (ys.headD Str.empty).cps).toList = _
  rw [glue_foldl]
  cases ys with
  | nil => rfl
  | cons y r =>
    show ts y ++ (List.map (fun p => ts (tx []) ++ ts p) r).flatten = ts y ++ (List.map ts r).flatten
    simp only [ts_tx, List.nil_append]
def rJoin (K : PySem.W.Frag) : V → List V → Hp → VK → Prop := fun x vs H Q => ∃ (p : Addr) (ys : List Str), x = .str (tx []) ∧ vs = [.ref p] ∧ SqL K H p (ys.map V.str) ∧ ((ys.map ts).flatten).length ≤ 100000 ∧ Q (.str (tx (ys.map ts).flatten)) H
theorem sum_len (ys : List Str) : (ys.map (·.length)).sum = ((ys.map ts).flatten).length := by
  induction ys with
  | nil => rfl
  | cons y r ih => rw [List.map_cons, List.sum_cons, ih, List.map_cons, List.flatten_cons, List.length_append, ts_len]
theorem mt_join : MtR X "str.join" (rJoin X.K) := by
  intro pins s σ H x vs v us Q I rx rv h
  obtain ⟨p, ys, rfl, rfl, hq, hz, q⟩ := h
  obtain ⟨t, rfl⟩ := rx
  obtain ⟨u, rfl, ru⟩ := rv.one
  cases ru
  obtain ⟨its, r, pl, _⟩ := I.list hq
  refine join_list (ys := ys) pl.isList (by simpa using strsAre_of r) ?_ fun t' k => ⟨.str (Txt.join (tx []) ys), H, I.tok _, ⟨_, rfl⟩, by rw [join_nil]; exact q⟩
  rw [sum_len, show (tx []).length = 0 from rfl, Nat.mul_zero]
  omega
theorem idx_clip (a b n : Nat) : PySem.Builtin.Str.strSliceIndices (some (a : Int)) (some (b : Int)) 1 n = PySem.Builtin.Str.strSliceIndices (some ((min a n : Nat) : Int)) (some ((min b n : Nat) : Int)) 1 n := by
  have h1 : ¬ ((a : Int) < 0) := by omega
  have h2 : ¬ ((b : Int) < 0) := by omega
  have h3 : ¬ (((min a n : Nat) : Int) < 0) := by omega
  have h4 : ¬ (((min b n : Nat) : Int) < 0) := by omega
  have e1 : max (0 : Int) (min (a : Int) (n : Int)) = max (0 : Int) (min ((min a n : Nat) : Int) (n : Int)) := by omega
  have e2 : max (0 : Int) (min (b : Int) (n : Int)) = max (0 : Int) (min ((min b n : Nat) : Int) (n : Int)) := by omega
  unfold PySem.Builtin.Str.strSliceIndices
  simp only [h1, h2, h3, h4, if_false, show ((1 : Int) > 0) = True from by simp, if_true]
  rw [e1, e2]
theorem idx_none {a b n : Nat} (h : b < a) (hb : a ≤ n) : PySem.Builtin.Str.strSliceIndices (some (a : Int)) (some (b : Int)) 1 n = [] := by
  have h1 : ¬ ((a : Int) < 0) := by omega
  have h2 : ¬ ((b : Int) < 0) := by omega
  have e1 : max (0 : Int) (min (a : Int) (n : Int)) = a := by omega
  have e2 : max (0 : Int) (min (b : Int) (n : Int)) = b := by omega
  have h3 : ¬ ((a : Int) < (b : Int)) := by omega
  simp only [PySem.Builtin.Str.strSliceIndices, PySem.sliceRange, h1, h2, if_false, e1, e2, show ((1 : Int) > 0) = True from by simp, if_true, h3]
  rfl
theorem cut_min {α : Type} (l : List α) (a b : Nat) : (l.drop (min a l.length)).take (min b l.length - min a l.length) = (l.take b).drop a := by
  rw [List.drop_take]
  by_cases ha : a ≤ l.length
  · rw [Nat.min_eq_left ha]
    by_cases hb : b ≤ l.length
    · rw [Nat.min_eq_left hb]
    · rw [Nat.min_eq_right (by omega), List.take_of_length_le (by rw [List.length_drop]; omega), List.take_of_length_le (by rw [List.length_drop]; omega)]
  · have e1 : min a l.length = l.length := Nat.min_eq_right (by omega)
    rw [e1, List.drop_eq_nil_of_le (Nat.le_refl _), List.drop_eq_nil_of_le (as := l) (i := a) (by omega), List.take_nil, List.take_nil]
theorem slice_nat (x : Str) (a b : Nat) : Txt.slice x (some (a : Int)) (some (b : Int)) = tx (((ts x).take b).drop a) := by
  have hl : x.length = (ts x).length := ts_len x
  by_cases h : min a x.length ≤ min b x.length
  · have e := StrLaws.sliceText_nat x h (Nat.min_le_right _ _)
    have e2 : Txt.slice x (some (a : Int)) (some (b : Int)) = StrLaws.sliceText x (some ((min a x.length : Nat) : Int)) (some ((min b x.length : Nat) : Int)) := by
      unfold Txt.slice StrLaws.sliceText
      rw [idx_clip a b]
    rw [e2, e, hl, cut_min]
  · have h1 : min b x.length = b := by omega
    have h2 : b < a := by omega
    have e : PySem.Builtin.Str.strSliceIndices (some (a : Int)) (some (b : Int)) 1 x.length = [] := by
      rw [idx_clip a b, h1]
      exact idx_none (by omega) (Nat.min_le_right _ _)
    unfold Txt.slice
    rw [e, if_neg (by simp; omega)]
    apply str_ext
    rw [ts_tx, List.drop_eq_nil_of_le (by rw [List.length_take]; omega)]
    rfl
theorem slice_to (x : Str) (j : Nat) : Txt.slice x none (some (j : Int)) = tx ((ts x).take j) := by
  have e : Txt.slice x none (some (j : Int)) = Txt.slice x (some ((0 : Nat) : Int)) (some (j : Int)) := by
    unfold Txt.slice
    rw [StrLaws.sliceIdx_none_lo]; rfl
  rw [e, slice_nat, List.drop_zero]
def rSlS : V → Option Int → Option Int → Hp → VK → Prop := fun x lo hi H Q => ∃ z, x = .str z ∧ z.length ≤ sizeLine ∧ Q (.str (Txt.slice z lo hi)) H
theorem sl_str : SlR X rSlS := by
  intro pins s σ H x v vl vu lo hi sl Q I rx hs pl pu h
  obtain ⟨z, rfl, hz, q⟩ := h
  obtain ⟨t, rfl⟩ := rx
  refine ⟨"str", _, F.slot_str_getitem.lookup, typeIs_str _ _ _, ?_⟩
  have fin : ∀ t' k, EP X pins σ Q (.str (Txt.slice z lo hi) t') { s with toks := k } := fun t' k => ⟨.str (Txt.slice z lo hi), H, I.tok _, ⟨_, rfl⟩, q⟩
  obtain ⟨o, ho, hc, hd⟩ := hs
  cases pl with
  | none =>
    cases pu with
    | none => exact wpAny_getItem_str_slice (l := none) (u := none) (st := none) ⟨o, ho, hc, hd⟩ rfl (post_val_or_str ⟨Nat.le_trans (Txt.slice_le z _ _) hz, fin⟩)
    | int j uj => exact wpAny_getItem_str_slice (l := none) (u := some (j, uj)) (st := none) ⟨o, ho, hc, hd⟩ rfl (post_val_or_str ⟨Nat.le_trans (Txt.slice_le z _ _) hz, fin⟩)
  | int i ui =>
    cases pu with
    | none => exact wpAny_getItem_str_slice (l := some (i, ui)) (u := none) (st := none) ⟨o, ho, hc, hd⟩ rfl (post_val_or_str ⟨Nat.le_trans (Txt.slice_le z _ _) hz, fin⟩)
    | int j uj => exact wpAny_getItem_str_slice (l := some (i, ui)) (u := some (j, uj)) (st := none) ⟨o, ho, hc, hd⟩ rfl (post_val_or_str ⟨Nat.le_trans (Txt.slice_le z _ _) hz, fin⟩)
def rInC (neg : Bool) : R2 := fun x y H Q => ∃ c j, x = .str (tx [c]) ∧ y = .str j ∧ Q (.bl (if neg then !decide (c ∈ ts j) else decide (c ∈ ts j))) H
theorem op_in_c : OpR X (compareOp .In) (rInC false) := by
  intro pins s σ H x y v u Q I rx ry h
  obtain ⟨c, j, rfl, rfl, q⟩ := h
  refine op_in_str pins s σ H _ _ v u Q I rx ry ⟨_, _, rfl, rfl, ?_⟩
  have e := StrLaws.found_one j c
  rw [show (tx [c] : Str) = ⟨#[c]⟩ from rfl, e]
  exact q
def Its (x : Str) : It := ⟨fun i _ => i < (ts x).length, fun i H y H' => H' = H ∧ ∃ c, (ts x)[i]? = some c ∧ y = .str (tx [c]), fun i _ => (ts x).length ≤ i⟩
theorem turn_str {P : Program} {w : World} {K : PySem.W.Frag} {tg : Expr} (x : Str) (t : Tok) (it : Addr) (ty : String) (hty : ty = "str_ascii_iterator" ∨ ty = "str_iterator") : Turn P w K tg (Its x) [it] it (fun i h => h.IsStrIter it ty x t i) where
  mem := by simp
  obj := fun i h st b hb => by
    have e : b = it := by simpa using hb
    subst e
    obtain ⟨o, e, c, d⟩ := st
    exact ⟨o, e, fun v z => by rw [d] at z; cases z⟩
  keep := fun i h h' st k => by
    obtain ⟨o, e, c, d⟩ := st
    exact ⟨o, k it (by simp) o e, c, d⟩
  item := by
    intro X hP hw hK hc i pins s σ H E I hf st hg
    subst hP hw hK
    obtain ⟨f0, f1, f2, f3, f4, f5⟩ := hf it (by simp)
    have hi : i < (ts x).length := hg
    have hx : x.cps[i]? = some (ts x)[i] := by
      rw [← Array.getElem?_toList]; simp [hi]
    have fin : ∀ h', h'.IsStrIter it ty x t (i + 1) → Heap.SameBut it s.heap h' → ∃ u, some (Value.str ⟨#[(ts x)[i]]⟩ s.toks) = some u ∧
        wpAny (model X.prog X.w) X.A (letOwnedTupleGo tg (.ref it) u) (fun _ s2 => ∃ x' H', Inv X pins σ H' s2 ∧ RelV x' u ∧ (Its x).yld i H x' H' ∧ s2.heap.IsStrIter it ty x t (i + 1) ∧ ∀ b ∈ [it], H' b = none) E { s with heap := h', toks := s.toks + 1 } := fun h' st' sb => by
      have I1 : Inv X pins σ H { s with heap := h', toks := s.toks + 1 } := I.turned (t' := s.toks + 1) (fun b o hb e => (sb.2 b hb).trans e) f0 f1 f3 f4 f5
      obtain ⟨o, e, c, d⟩ := id st'
      refine ⟨_, rfl, go_of (s := { s with heap := h', toks := s.toks + 1 }) e c d ?_ ⟨.str (tx [(ts x)[i]]), H, I1, ⟨_, rfl⟩, ⟨rfl, _, by simp [hi], rfl⟩, st', fun b hb => (hf b hb).1⟩⟩
      rcases hty with z | z <;> (rw [z]; decide)
    rcases hty with z | z
    · subst z; exact wpAny_pyNext_ascii_item st hx fun h' st' sb => fin h' st' sb
    · subst z; exact wpAny_pyNext_wide_item st hx fun h' st' sb => fin h' st' sb
  done := by
    intro X hP hw hK hc i pins s σ H E I hf st hg
    subst hP hw hK
    obtain ⟨f0, f1, f2, f3, f4, f5⟩ := hf it (by simp)
    have hi : (ts x).length ≤ i := hg
    have hx : x.cps[i]? = none := by
      rw [← Array.getElem?_toList]; exact List.getElem?_eq_none hi
    rcases hty with z | z
    · subst z; exact wpAny_pyNext_ascii_end (I.ok.hd hc) st hx fun h' eb => ⟨rfl, I.turned (t' := s.toks) (fun b o hb e => eb b o hb e) f0 f1 f3 f4 f5⟩
    · subst z; exact wpAny_pyNext_wide_end (I.ok.hd hc) st hx fun h' eb => ⟨rfl, I.turned (t' := s.toks) (fun b o hb e => eb b o hb e) f0 f1 f3 f4 f5⟩
  self := fun _ _ _ _ _ st h => by
    rcases hty with z | z
    · subst z; exact wpAny_pyIter_striter_ascii st h
    · subst z; exact wpAny_pyIter_striter_wide st h
def iStr (tl : TE) : TI := fun σ H R => tl σ H fun x H1 => ∃ z, x = .str z ∧ R (Its z) H1
theorem pi_str {tg l : Expr} {tl : TE} (hl : PE X l tl) : PI X tg l (iStr tl) := by
  intro pins s σ H R I h
  refine thn (hl pins s σ H _ I h) fun v s1 ⟨x, H1, I1, r1, q1⟩ => ?_
  obtain ⟨z, rfl, q⟩ := q1
  obtain ⟨t, rfl⟩ := r1
  have fin : ∀ ty, (ty = "str_ascii_iterator" ∨ ty = "str_iterator") → PIE X pins σ tg R (.ref s1.heap.objs.size) { s1 with heap := s1.heap.push { cls := .type ty, data := .fields #[.str z t, .int 0 0] } } := fun ty hty => by
    refine ⟨s1.heap.objs.size, [s1.heap.objs.size], _, _, H1, rfl, I1.kept (t' := s1.toks) fun b o e => Heap.get?_push_of_some _ e, turn_str z t _ ty hty, ⟨_, Heap.get?_push_size _ rfl, rfl, rfl⟩, fun b hb => ?_, q⟩
    have e : b = s1.heap.objs.size := by simpa using hb
    subst e
    exact I1.fpOk (Nat.le_refl _) (I1.hok.fresh (Nat.le_refl _))
  cases ha : z.cps.all (· < 128) with
  | true => exact wpAny_pyIter_ascii ha (fin _ (.inl rfl))
  | false => exact wpAny_pyIter_wide ha (fin _ (.inr rfl))
theorem boolsAre_of {bs : List Bool} : ∀ {us : List Value}, Vals (bs.map V.bl) us → PyProof.Rows.LSm.BoolsAre us bs := by
  induction bs with
  | nil => intro us r; rw [List.map_nil] at r; cases r; exact .nil
  | cons n ns ih =>
    intro us r
    rw [List.map_cons] at r
    cases r with
    | cons r1 r2 =>
      cases (show _ = Value.bool n from r1)
      exact .cons n (ih r2)
theorem call_all (hc : X.calm = true) : CallR X (.builtin "all") (fun xs H Q => ∃ (p : Addr) (bs : List Bool), xs = [.ref p] ∧ SqL X.K H p (bs.map V.bl) ∧ Q (.bl (bs.all id)) H) := by
  intro pins s σ H xs us Q I r h
  obtain ⟨p, bs, rfl, hq, q⟩ := h
  obtain ⟨u, rfl, rx⟩ := vals1 r
  cases rx
  obtain ⟨its, rv, pl, hz⟩ := I.list hq
  have hl := pl.isList
  have hb := boolsAre_of rv
  have hlt : p < s.heap.objs.size := by obtain ⟨_, e, _⟩ := hl; exact Heap.lt_size e
  refine call_all_walk (wpAny_pyIter_list hl ?_)
  refine ⟨s.heap.objs.size, [s.heap.objs.size, p], [s.heap.objs.size], its.toArray.size, _, _, fun i => (bs[i]?).getD true, rfl, Walks.list (A := X.A.in1) (I.ok.hd hc) _ p (Nat.ne_of_lt hlt) its.toArray,
    ⟨⟨_, Heap.get?_push_size _ rfl, rfl, rfl⟩, hl.push _⟩, fun i v s' Q' E' hP hQ => ?_, fun h' tk hk => ?_⟩
  · obtain ⟨b, e, rfl⟩ := hb.get i v (by simpa using hP)
    simp only [e, Option.getD_some] at hQ
    exact wpAny_truthy_bool hQ
  · have e : ((List.range its.toArray.size).all fun i => (bs[i]?).getD true) = bs.all id := by
      rw [List.size_toArray, hb.length]; exact PyProof.Rows.LSm.range_all bs
    rw [e]
    exact ⟨.bl _, H, I.kept (PyProof.Rows.LSm.kept_iter hk), rfl, q⟩
def eqLs : List V → List V → Bool
  | [], [] => true
  | x :: xs, y :: ys => eqV x y && eqLs xs ys
  | _, _ => false
theorem eqLs_range : ∀ (xs ys : List V), xs.length = ys.length → (List.range xs.length).all (fun j => match xs[j]?, ys[j]? with | some a, some b => eqV a b | _, _ => true) = eqLs xs ys
  | [], [], _ => rfl
  | x :: xs, y :: ys, h => by
    have ih := eqLs_range xs ys (by simpa using h)
    rw [List.length_cons, List.range_succ_eq_map, List.all_cons, List.all_map]
    show (eqV x y && _) = (eqV x y && eqLs xs ys)
    rw [← ih]
    congr 1
theorem eqLs_len : ∀ {xs ys : List V}, xs.length ≠ ys.length → eqLs xs ys = false
  | [], [], h => absurd rfl h
  | [], _ :: _, _ => rfl
  | _ :: _, [], _ => rfl
  | x :: xs, y :: ys, h => by
    have ih := eqLs_len (xs := xs) (ys := ys) (by simpa using h)
    show (eqV x y && eqLs xs ys) = false
    rw [ih, Bool.and_false]
def rEqL (K : PySem.W.Frag) (neg : Bool) : R2 := fun x y H Q => ∃ a b xs ys, x = .ref a ∧ y = .ref b ∧ SqL K H a xs ∧ SqL K H b ys ∧ xs.all flatV = true ∧ ys.all flatV = true ∧ Q (.bl (if neg then !eqLs xs ys else eqLs xs ys)) H
theorem Vals.some_at {xs : List V} {us : List Value} (r : Vals xs us) {j : Nat} (h : j < us.length) : ∃ x, xs[j]? = some x ∧ RelV x us[j] := by
  have hl := r.length
  obtain ⟨x, e⟩ : ∃ x, xs[j]? = some x := ⟨xs[j], by simp [hl, h]⟩
  obtain ⟨u, hu, ru⟩ := r.get e
  have e2 : us[j]? = some us[j] := by simp [h]
  rw [e2] at hu
  cases hu
  exact ⟨x, e, ru⟩
theorem lists_he {A : Around} {s : Shared} {xs ys : List V} {us ws : List Value} (r : Vals xs us) (q : Vals ys ws) (fx : xs.all flatV = true) (fy : ys.all flatV = true) :
    ∀ j (h1 : j < us.toArray.size) (h2 : j < ws.toArray.size), SeqAt.EqAt A s us.toArray[j] ws.toArray[j] ((fun j => match xs[j]?, ys[j]? with | some a, some b => eqV a b | _, _ => true) j) := fun j h1 h2 => by
  obtain ⟨x, e1, r1⟩ := r.some_at (j := j) (by simpa using h1)
  obtain ⟨y, e2, r2⟩ := q.some_at (j := j) (by simpa using h2)
  have f1 : flatV x = true := List.all_eq_true.mp fx x (List.mem_of_getElem? e1)
  have f2 : flatV y = true := List.all_eq_true.mp fy y (List.mem_of_getElem? e2)
  have z := eqAt_V (A := A) (s := s) r1 r2 f1 f2
  simp only [e1, e2]
  simpa using z
theorem op_ne_l (hu : X.A.units < cLine) : OpR X (compareOp .NotEq) (rEqL X.K true) := by
  intro pins s σ H x y v u Q I rx ry h
  obtain ⟨a, b, xs, ys, rfl, rfl, ha, hb, fx, fy, q⟩ := h
  cases rx
  cases ry
  obtain ⟨its, r1, pl1, _⟩ := I.list ha
  obtain ⟨its2, r2, pl2, _⟩ := I.list hb
  have l1 := r1.length
  have l2 := r2.length
  by_cases e : xs.length = ys.length
  · refine SeqAt.RcNeAt.lists pl1.isList pl2.isList (by simp only [List.size_toArray]; omega) hu (lists_he r1 r2 fx fy) X.prog X.w X.xe _ ⟨.bl _, H, I, rfl, ?_⟩
    rw [List.size_toArray, ← l1, eqLs_range xs ys e]
    exact q
  · refine SeqAt.RcNeAt.lists_lengths pl1.isList pl2.isList (by simp only [List.size_toArray]; simpa [← l1, ← l2] using e) hu X.prog X.w X.xe _ ⟨.bl _, H, I, rfl, ?_⟩
    have z := eqLs_len e
    simpa [z] using q
def tyS (H : Hp) : V → Option String
  | .non => some "NoneType"
  | .bl _ => some "bool"
  | .int _ => some "int"
  | .str _ => some "str"
  | .ref a => match H a with
    | some (.lst _) => some "list"
    | some (.tup _) => some "tuple"
    | some (.dK _) => some "dict"
    | _ => none
  | _ => none
def isSub (t T : String) : Bool := t == T || (t == "bool" && T == "int")
theorem tyS_of {K : PySem.W.Frag} {H : Hp} {x : V} {t : String} (h : tyS H x = some t) : TyOf K H x (.type t) := by
  cases x with
  | non => cases h; exact .non
  | bl b => cases h; exact .bl b
  | int i => cases h; exact .int i
  | str z => cases h; exact .str z
  | ref a =>
    have h' : (match H a with | some (.lst _) => some "list" | some (.tup _) => some "tuple" | some (.dK _) => some "dict" | _ => none) = some t := h
    cases e : H a with
    | none => rw [e] at h'; cases h'
    | some o =>
      rw [e] at h'
      cases o with
      | lst xs => cases h'; exact .lst e
      | tup xs => cases h'; exact .tup e
      | dK kvs => cases h'; exact .dK e
      | _ => cases h'
  | byt b => cases h
  | flt b => cases h
  | ty n => cases h
def tyL : List String := ["NoneType", "bool", "int", "str", "list", "tuple", "dict"]
def kitB (t T : String) : Option Bool := if (Value.type t == Value.type T) = true then some true else if PySem.W.kitMeta T = true then (fastBuiltinMro t).map (·.contains (.type T)) else none
theorem kitB_ok : (tyL.all fun t => tyL.all fun T => kitB t T == some (isSub t T)) = true := by decide +kernel
theorem kit_bi {K : PySem.W.Frag} {t T : String} (h1 : t ∈ tyL) (h2 : T ∈ tyL) : PySem.W.kitOne K (.type t) (.type T) = some (isSub t T) := by
  have a := List.all_eq_true.mp (List.all_eq_true.mp kitB_ok t h1) T h2
  have b : kitB t T = some (isSub t T) := by simpa using a
  exact b
theorem tyS_mem {H : Hp} {x : V} {t : String} (h : tyS H x = some t) : t ∈ tyL := by
  cases x <;> first | (cases h; simp [tyL]; done) | (cases h; done) | skip
  rename_i a
  have h' : (match H a with | some (.lst _) => some "list" | some (.tup _) => some "tuple" | some (.dK _) => some "dict" | _ => none) = some t := h
  split at h' <;> first | (cases h'; simp [tyL]; done) | (cases h'; done)
theorem call_isi {T : String} (hT : T ∈ tyL) : CallR X (.builtin "isinstance") (fun xs H Q => ∃ x t, xs = [x, .ty T] ∧ tyS H x = some t ∧ Q (.bl (isSub t T)) H) := by
  intro pins s σ H xs us Q I r h
  obtain ⟨x, t, rfl, ht, q⟩ := h
  obtain ⟨u, w', rfl, ru, rw'⟩ := vals2 r
  cases (show w' = Value.type T from rw')
  exact isinst_ok I ru (tyS_of ht) (kit_bi (tyS_mem ht) hT) fun tk => ⟨.bl _, H, I.tok _, rfl, q⟩
end
theorem bt_len : bootBuiltins "len" = some (.builtin "len") := by decide +kernel
theorem bt_isinstance : bootBuiltins "isinstance" = some (.builtin "isinstance") := by decide +kernel
theorem bt_all : bootBuiltins "all" = some (.builtin "all") := by decide +kernel
theorem bt_ord : bootBuiltins "ord" = some (.builtin "ord") := by decide +kernel
theorem bt_max : bootBuiltins "max" = some (.builtin "max") := by decide +kernel
theorem bt_int : bootBuiltins "int" = some (.type "int") := by decide +kernel
theorem bt_str : bootBuiltins "str" = some (.type "str") := by decide +kernel
theorem bt_bool : bootBuiltins "bool" = some (.type "bool") := by decide +kernel
/-- which names of the text are Python's own -/
structure Bl (mg : Str → Option Value) : Prop where
  len : mg "len" = none
  range : mg "range" = none
  isinstance : mg "isinstance" = none
  all : mg "all" = none
  sum : mg "sum" = none
  int : mg "int" = none
  str : mg "str" = none
  bool : mg "bool" = none
  list : mg "list" = none
  dict : mg "dict" = none
  tuple : mg "tuple" = none
structure Dn (P : Program) (w : World) (K : PySem.W.Frag) (mg : Str → Option Value) (base : Heap) (k : Nat) (x : Str) (ps : List Str) (sp : Sp) : Prop where
  ex : ∃ (f : Addr) (fd : FuncData), FnOk P w K mg base CX0 k f fd ps sp ∧ Binds K fd ps [] ∧ PySem.W.keepIn K (.ref f) = true ∧ mg x = some (.ref f)
section
variable {X : Cx} {k j : Nat} {x : Str} {ps : List Str} {sp : Sp} {e : Expr} {es : List Expr} {t : TA} {p pos : Pos}
theorem pe_cd (D : Dn X.prog X.w X.K X.mg X.base k x ps sp) (hr : Room j X.A) (hj : k ≤ j) (hg : Gl X x) (ha : PA X (e :: es) t) (hdb : (x == ("__debug__" : Str)) = false := by decide)
    (he : starEach (e :: es) X.env = (false, eval e X.env) :: starEach es X.env := by rfl) (hpl : (backTo pos (starEach es X.env)).any (·.1) = false := by rfl) : PE X (.Call (.Name x p) (e :: es) [] pos) (tCall sp [] E0 t) := by
  obtain ⟨f, fd, h1, h2, h3, h4⟩ := D.ex
  exact pe_call h1 (hr.mono hj) hg h4 h3 h2 .nil pass0 ha hdb he hpl
theorem pe_cd0 (D : Dn X.prog X.w X.K X.mg X.base k x ps sp) (hr : Room j X.A) (hj : k ≤ j) (hg : Gl X x) (hdb : (x == ("__debug__" : Str)) = false := by decide) : PE X (.Call (.Name x p) [] [] pos) (tCall sp [] E0 tNil) := by
  obtain ⟨f, fd, h1, h2, h3, h4⟩ := D.ex
  exact pe_call0 h1 (hr.mono hj) hg h4 h3 h2 .nil pass0 hdb
end
end L2
namespace L2
open PySem PySem.Spec PyProof.Rows
theorem forIn_fold {α β : Type} {l : List α} {f : α → β → Sem (ForInStep β)} (g : β → α → β) (h : ∀ x ∈ l, ∀ c, f x c = pure (.yield (g c x))) : ∀ b : β, forIn l b f = pure (l.foldl g b) := by
  induction l with
  | nil => intro b; rfl
  | cons a r ih =>
    intro b
    rw [List.forIn_cons, h a List.mem_cons_self]
    show forIn r (g b a) f = _
    rw [ih (fun x hx => h x (List.mem_cons_of_mem _ hx)) (g b a)]
    rfl
def cloStep (env : Env) (cs : List (Str × Addr)) (x : Str × NameKind) : List (Str × Addr) :=
  if (x.2 == NameKind.free) = true then (match env.cells.lookup x.1 with | some a => (x.1, a) :: cs | none => cs) else cs
def clo (env : Env) (names : List (Str × NameKind)) : List (Str × Addr) := names.foldl (cloStep env) []
theorem closureFor_clo {scope : Scope} {env : Env} (h : ∀ x ∈ scope.names, x.2 = .free → ∃ c, env.cells.lookup x.1 = some c) : closureFor scope env = pure (clo env scope.names) := by
  simp only [closureFor]
  rw [forIn_fold (cloStep env) (fun x hx c => by
    obtain ⟨n, k⟩ := x
    by_cases hk : k = .free
    · subst hk
      obtain ⟨a, e⟩ := h _ hx rfl
      have e' : env.cells.lookup n = some a := e
      simp [cloStep, cellOf, e']
    · have e : (k == NameKind.free) = false := by simpa using hk
      simp [cloStep, e])]
  rfl
theorem clo_mem {env : Env} : ∀ (names : List (Str × NameKind)) (cs : List (Str × Addr)), (∀ p ∈ cs, env.cells.lookup p.1 = some p.2) → ∀ p ∈ names.foldl (cloStep env) cs, env.cells.lookup p.1 = some p.2
  | [], _, h => h
  | x :: r, cs, h => by
    refine clo_mem r (cloStep env cs x) fun p hp => ?_
    unfold cloStep at hp
    split at hp
    · split at hp
      · rename_i a e
        rcases List.mem_cons.mp hp with z | z
        · rw [z]; exact e
        · exact h p z
      · exact h p hp
    · exact h p hp
theorem clo_keep {env : Env} {p : Str × Addr} : ∀ (names : List (Str × NameKind)) (cs : List (Str × Addr)), p ∈ cs → p ∈ names.foldl (cloStep env) cs
  | [], _, h => h
  | x :: r, cs, h => by
    refine clo_keep r (cloStep env cs x) ?_
    unfold cloStep
    split
    · split
      · exact List.mem_cons_of_mem _ h
      · exact h
    · exact h
theorem clo_has {env : Env} {n : Str} {c : Addr} (e : env.cells.lookup n = some c) : ∀ (names : List (Str × NameKind)) (cs : List (Str × Addr)), (n, NameKind.free) ∈ names → (n, c) ∈ names.foldl (cloStep env) cs
  | [], _, h => nomatch h
  | x :: r, cs, h => by
    rcases List.mem_cons.mp h with z | z
    · subst z
      refine clo_keep r _ ?_
      unfold cloStep
      rw [if_pos (by rfl)]
      show (n, c) ∈ (match env.cells.lookup n with | some a => (n, a) :: cs | none => cs)
      rw [e]
      exact List.mem_cons_self
    · exact clo_has e r _ z
theorem lookup_some_of_mem {α : Type} {n : Str} {c : α} : ∀ {l : List (Str × α)}, (n, c) ∈ l → ∃ c', l.lookup n = some c'
  | [], h => nomatch h
  | (m, d) :: r, h => by
    by_cases e : n = m
    · subst e; exact ⟨d, by simp [List.lookup_cons]⟩
    · rcases List.mem_cons.mp h with z | z
      · cases z; exact absurd rfl e
      · obtain ⟨c', q⟩ := lookup_some_of_mem z
        have e2 : (n == m) = false := by simpa using e
        exact ⟨c', by rw [List.lookup_cons, e2]; exact q⟩
theorem clo_of {env : Env} {names : List (Str × NameKind)} {n : Str} {c : Addr} (h : (clo env names).lookup n = some c) : env.cells.lookup n = some c :=
  clo_mem names [] (fun _ z => nomatch z) (n, c) (PySem.mem_of_lookup h)
theorem clo_lookup {env : Env} {names : List (Str × NameKind)} {n : Str} {c : Addr} (e : env.cells.lookup n = some c) (h : (n, NameKind.free) ∈ names) : (clo env names).lookup n = some c := by
  obtain ⟨c', q⟩ := lookup_some_of_mem (clo_has e names [] h)
  have q' : (clo env names).lookup n = some c' := q
  have z := clo_of q'
  rw [e] at z
  rw [q', ← z]
/-- the outer names that the block sees: their slots -/
inductive FreeOk (X : Cx) (scope : Scope) : List (Str × Nat) → Prop where
  | nil : FreeOk X scope []
  | cons {x : Str} {i : Nat} {r : List (Str × Nat)} (h1 : X.N[i]? = some x) (h2 : X.env.kindOf x = some .cell) (h3 : scope.names.lookup x = some .free) (h : FreeOk X scope r) : FreeOk X scope ((x, i) :: r)
theorem FreeOk.mem {X : Cx} {scope : Scope} : ∀ {F : List (Str × Nat)}, FreeOk X scope F → ∀ p ∈ F, X.N[p.2]? = some p.1 ∧ X.env.kindOf p.1 = some .cell ∧ scope.names.lookup p.1 = some .free
  | _, .nil, _, h => nomatch h
  | _, .cons h1 h2 h3 h, p, hp => by
    rcases List.mem_cons.mp hp with z | z
    · subst z; exact ⟨h1, h2, h3⟩
    · exact h.mem p z
structure CompSc (X : Cx) (scope : Scope) (own : List Str) (F : List (Str × Nat)) : Prop where
  kind : scope.kind = .function
  nocell : (scope.names.all fun y => !(y.2 == NameKind.cell)) = true
  loc : (scope.names.all fun y => !(y.2 == NameKind.local) || (scope.names.lookup y.1 == some NameKind.local)) = true
  fr : (scope.names.all fun y => !(y.2 == NameKind.free) || (X.env.scope.names.lookup y.1 == some NameKind.cell)) = true
  free : FreeOk X scope F
def compN (own : List Str) (F : List (Str × Nat)) : List Str := own ++ F.map (·.1)
def compσ (own : List Str) (F : List (Str × Nat)) (σ : St) : St := own.map (fun _ => Option.none) ++ F.map (fun p => (σ[p.2]?).join)
def compCx (X : Cx) (own : List Str) (F : List (Str × Nat)) (scope : Scope) (C : Addr) (s₃ : Shared) (H₃ : Hp) (ex : List Addr) : Cx where
  prog := X.prog
  w := X.w
  K := X.K
  mg := X.mg
  base := X.base
  A := X.A
  N := compN own F
  s₀ := s₃
  H₀ := H₃
  env := compEnvC scope (clo X.env scope.names) C X.env
  outer := X.stack
  stack := X.stack
  ex := ex
  fn := fun _ => false
  calm := X.calm
  pn := []
  xe := fun _ _ => False
theorem CompSc.nc {X : Cx} {scope : Scope} {own : List Str} {F : List (Str × Nat)} (S : CompSc X scope own F) : ∀ y ∈ scope.names, y.2 ≠ .cell := fun y hy e => by
  have q := List.all_eq_true.mp S.nocell y hy
  rw [e] at q
  exact absurd q (by decide)
theorem CompSc.lc {X : Cx} {scope : Scope} {own : List Str} {F : List (Str × Nat)} (S : CompSc X scope own F) : ∀ y ∈ scope.names, y.2 = .local → scope.names.lookup y.1 = some .local := fun y hy e => by
  have q := List.all_eq_true.mp S.loc y hy
  rw [e] at q
  simpa using q
theorem CompSc.fc {X : Cx} {scope : Scope} {own : List Str} {F : List (Str × Nat)} (S : CompSc X scope own F) : ∀ y ∈ scope.names, y.2 = .free → X.env.kindOf y.1 = some .cell := fun y hy e => by
  have q := List.all_eq_true.mp S.fr y hy
  rw [e] at q
  have q' : X.env.scope.names.lookup y.1 = some NameKind.cell := by simpa using q
  exact q'
/-- a name of the relabelled scope that is a cell or free was free -/
theorem relabel_free {scope : Scope} {env : Env} (hc : ∀ y ∈ scope.names, y.2 ≠ .cell) {x : Str} (h : (relabel scope env).names.lookup x = some .cell ∨ (relabel scope env).names.lookup x = some .free) : (x, NameKind.free) ∈ scope.names := by
  have go : ∀ k, (relabel scope env).names.lookup x = some k → k = .cell ∨ k = .free → (x, NameKind.free) ∈ scope.names := fun k e hk => by
    have m := PySem.mem_of_lookup e
    unfold relabel at m
    obtain ⟨⟨n, k0⟩, hm, e2⟩ := List.mem_map.mp m
    by_cases hf : k0 = .free
    · subst hf
      dsimp only at e2
      split at e2 <;> (cases e2; exact hm)
    · have e3 : (k0 == NameKind.free) = false := by simpa using hf
      simp only [e3, Bool.false_and, Bool.false_eq_true, if_false] at e2
      cases e2
      rcases hk with z | z
      · exact absurd z (hc _ hm)
      · exact absurd z hf
  rcases h with h | h
  · exact go _ h (.inl rfl)
  · exact go _ h (.inr rfl)
theorem lookup_relabel_free {env : Env} (hf : env.scope.kind = .function) : ∀ {names : List (Str × NameKind)} {x : Str}, names.lookup x = some .free → env.kindOf x = some .cell →
    (names.map fun (n, k) => if (k == NameKind.free && env.scope.kind == .function && env.kindOf n == some .cell) then (n, NameKind.cell) else (n, k)).lookup x = some .cell
  | [], _, h, _ => by simp at h
  | (n, k) :: r, x, h, hx => by
    have ih := @lookup_relabel_free env hf r x
    rw [List.map_cons]
    by_cases e : x = n
    · subst e
      have hk : k = .free := by simpa [List.lookup_cons] using h
      subst hk
      have c : (NameKind.free == NameKind.free && env.scope.kind == .function && env.kindOf x == some .cell) = true := by rw [hf, hx]; rfl
      show List.lookup x ((if (NameKind.free == NameKind.free && env.scope.kind == .function && env.kindOf x == some .cell) = true then (x, NameKind.cell) else (x, NameKind.free)) :: _) = _
      rw [if_pos c]
      simp [List.lookup_cons]
    · have e2 : (x == n) = false := by simpa using e
      have h' : r.lookup x = some .free := by rw [List.lookup_cons, e2] at h; exact h
      have q := ih h' hx
      dsimp only
      split
      · rw [List.lookup_cons, e2]; exact q
      · rw [List.lookup_cons, e2]; exact q
section
variable {X : Cx} {pins : List (Addr × Obj)} {σ : St} {H : Hp} {s : Shared}
theorem Inv.freeCells {scope : Scope} {own : List Str} {F : List (Str × Nat)} (I : Inv X pins σ H s) (S : CompSc X scope own F) : ∀ x ∈ scope.names, x.2 = .free → ∃ c, X.env.cells.lookup x.1 = some c := fun x hx e =>
  I.ok.has x.1 (.inl (S.fc x hx e))
theorem Inv.notStk (I : Inv X pins σ H s) {b : Addr} (h1 : b ≠ X.env.locals) (h2 : b ∉ X.fs) : b ∉ frs X.stack := fun z => (List.mem_cons.mp (I.stkSub b z)).elim h1 h2
/-- the block begins -/
theorem comp_start {scope : Scope} {own : List Str} {F : List (Str × Nat)} {fp : List Addr} {h1 : Heap} {tk : Nat} (I : Inv X pins σ H s) (S : CompSc X scope own F) (hf : ∀ b ∈ fp, FpOk X pins H b) (hlt : ∀ b ∈ fp, b < s.heap.objs.size) {s3 : Shared}
    (e3 : s3 = { s with heap := s.heap.push { cls := .type "list", data := .seq ([] : List Value).toArray } })
    (hns : h1.Ns s3.heap.objs.size (fun _ => none)) (hk : ∀ b o, s3.heap.get? b = some o → h1.get? b = some o) :
    Inv (compCx X own F scope s3.heap.objs.size s3 H (s.heap.objs.size :: fp)) [] (compσ own F σ) H { s3 with heap := h1, toks := tk } := by
  have sz3 : s3.heap.objs.size = s.heap.objs.size + 1 := by rw [e3]; exact Heap.size_push ..
  have k3 : ∀ b o, s.heap.get? b = some o → s3.heap.get? b = some o := fun b o e => by rw [e3]; exact Heap.get?_push_of_some _ e
  have I3 : Inv X pins σ H s3 := by rw [e3]; exact I.kept (t' := s.toks) fun b o e => Heap.get?_push_of_some _ e
  have lkup : ∀ x c, (clo X.env scope.names).lookup x = some c → X.env.cells.lookup x = some c := fun x c e => clo_of e
  have base_lt : ∀ b o, X.base.get? b = some o → b < X.s₀.heap.objs.size := fun b o e => Nat.lt_of_lt_of_le (Heap.lt_size e) I.ok.bsz
  have kf : X.env.scope.kind = .function := I.ok.kind
  refine ⟨⟨I.ok.mod, S.kind, I.ok.glob, I.ok.blt, Nat.le_refl _, fun x y c h1 h2 => I.ok.inj x y c (lkup x c h1) (lkup y c h2), fun x hx => ?_, fun x c hx _ => (nomatch hx), I.ok.hd, I.ok.frames, .inl rfl, fun b hb => ?_, fun b o e => ?_, ?_, fun b o e hb => ?_, fun b hb => ?_, I3.stack, fun b hb => I.stkFree b hb⟩,
    rfl, I3.bare, Un.kept hk, ⟨_, hns, fun i x v e1 e2 e3' => ?_⟩, fun x c e => ?_, ?_, fun x c e => I.freeC x c (lkup x c e), fun p hp => absurd (show p ∈ ([] : List (Addr × Obj)) from hp) (by simp), I3.hok.kept hk, ?_⟩
  · have hm := relabel_free S.nc hx
    obtain ⟨c, e⟩ := I.freeCells S _ hm rfl
    exact ⟨c, clo_lookup e hm⟩
  · rcases List.mem_cons.mp hb with z | z
    · subst z
      refine ⟨fun q => ?_, fun x c e q => ?_⟩
      · have q' : s.heap.objs.size = s3.heap.objs.size := q
        omega
      · obtain ⟨v, u⟩ := I.cell x c (lkup x c e)
        exact absurd u.lt (by rw [q]; exact Nat.lt_irrefl _)
    · refine ⟨fun q => ?_, fun x c e => (hf b z).2.2.2.2.1 x c (lkup x c e)⟩
      exact Nat.ne_of_lt (Nat.lt_of_lt_of_le (hlt b z) (show s.heap.objs.size ≤ s3.heap.objs.size by omega)) q
  · obtain ⟨a1, a2⟩ := I.bs b o e
    exact ⟨k3 b o a1, a2⟩
  · exact Nat.le_trans (Nat.le_trans I.ok.bsz I.sz) (by show s.heap.objs.size ≤ s3.heap.objs.size; omega)
  · have l1 := base_lt b o e
    rcases List.mem_cons.mp hb with z | z
    · exact absurd (Nat.lt_of_lt_of_le l1 I.sz) (by rw [z]; exact Nat.lt_irrefl _)
    · rcases (hf b z).2.2.2.1 with q | q
      · exact I.ok.noex b o e q
      · exact absurd l1 (Nat.not_lt.mpr q)
  · rcases List.mem_cons.mp hb with z | z
    · subst z
      exact I.notStk (Nat.ne_of_gt I.lt) (I.nofs (Nat.le_refl _))
    · exact I.notStk (hf b z).2.1 (hf b z).2.2.1
  · -- a name that is seen
    have hi : own.length ≤ i := by
      by_cases z : i < own.length
      · rw [compσ, List.getElem?_append_left (by simpa using z), List.getElem?_map] at e2
        cases q : own[i]? with
        | none => rw [q] at e2; cases e2
        | some y => rw [q] at e2; cases e2
      · omega
    rw [compσ, List.getElem?_append_right (by simpa using hi), List.getElem?_map] at e2
    have e1' : (own ++ F.map (·.1))[i]? = some x := e1
    rw [List.getElem?_append_right hi, List.getElem?_map] at e1'
    simp only [List.length_map] at e2
    cases q : F[i - own.length]? with
    | none => rw [q] at e2; cases e2
    | some p =>
      rw [q] at e1' e2
      simp only [Option.map_some, Option.some.injEq] at e1' e2
      obtain ⟨f1, f2, f3⟩ := S.free.mem p (List.mem_of_getElem? q)
      subst e1'
      obtain ⟨m, hn, hl⟩ := I.loc
      have e4 : σ[p.2]? = some (some v) := by
        cases r : σ[p.2]? with
        | none => rw [r] at e2; cases e2
        | some o => rw [r] at e2; exact congrArg some e2
      obtain ⟨u, ru, l⟩ := hl p.2 p.1 v f1 e4 (.inr (.inl f2))
      refine ⟨u, ru, .inr ⟨.inl (lookup_relabel_free kf f3 f2), ?_⟩⟩
      rcases l with ⟨l, _⟩ | ⟨_, c, ec, z⟩
      · rw [f2] at l; cases l
      · refine ⟨c, clo_lookup ec (PySem.mem_of_lookup f3), ?_⟩
        obtain ⟨oc, ho, hd⟩ := z
        exact ⟨oc, hk _ _ (k3 _ _ ho), hd⟩
  · obtain ⟨v, oc, ho, hd⟩ := I.cell x c (lkup x c e)
    exact ⟨v, oc, hk _ _ (k3 _ _ ho), hd⟩
  · exact I.hok.fresh (by show s.heap.objs.size ≤ s3.heap.objs.size; omega)
  · show (compσ own F σ).length = (compN own F).length
    simp [compσ, compN]
/-- the block is through: the list is told -/
theorem comp_back {scope : Scope} {own : List Str} {F : List (Str × Nat)} {fp : List Addr} {s3 s4 : Shared} {σ' : St} {H' : Hp} {ys : List V} {its : List Value} {n : Nat} (I : Inv X pins σ H s) (hf : ∀ b ∈ fp, FpOk X pins H b)
    (e3 : s3 = { s with heap := s.heap.push { cls := .type "list", data := .seq ([] : List Value).toArray } })
    (J : Inv (compCx X own F scope s3.heap.objs.size s3 H (s.heap.objs.size :: fp)) [] σ' H' s4) (hz : ys.length ≤ sizeLine) (hv : Vals ys its)
    (ha : s4.heap.get? s.heap.objs.size = some { cls := .type "list", data := .seq its.toArray n }) (hn : H' s.heap.objs.size = none) : Inv X pins σ (upd H' s.heap.objs.size (.lst ys)) s4 := by
  have sz3 : s3.heap.objs.size = s.heap.objs.size + 1 := by rw [e3]; exact Heap.size_push ..
  have k3 : ∀ b o, s.heap.get? b = some o → s3.heap.get? b = some o := fun b o e => by rw [e3]; exact Heap.get?_push_of_some _ e
  have U : Un (frs X.stack) (s.heap.objs.size :: fp) H H' s3.heap s4.heap := J.base
  have ne : ∀ b o, s.heap.get? b = some o → b ≠ s.heap.objs.size := fun b o e => Nat.ne_of_lt (Heap.lt_size e)
  have nx : ∀ b o, s.heap.get? b = some o → b ∉ fp → b ∉ s.heap.objs.size :: fp := fun b o e h z => (List.mem_cons.mp z).elim (ne b o e) h
  have os4 : s4.os = s.os := by
    have q : s4.os = s3.os := J.os
    rw [q, e3]
  refine I.call' (ch := fp) os4 ⟨fun b o e z hb hx => U.keep b o (k3 b o e) z hb (nx b o e hx), fun b o e z hb hx => U.slot b o (k3 b o e) z hb (nx b o e hx), fun b o e z hx => ?_, fun b o e hx => U.there b o (k3 b o e) (nx b o e hx), fun b xs e => ?_, fun b o u e => ?_, fun b ps e => ?_⟩ (fun b u e => ?_) J.bare fun b hb => ?_
  · rw [upd_ne (ne b o e)]
    exact U.free b o (k3 b o e) z (nx b o e hx)
  · have q := U.tups b xs e
    rw [upd_ne (ne_of_none q hn)]; exact q
  · have q := U.frzs b o u e
    rw [upd_ne (ne_of_none q hn)]; exact q
  · obtain ⟨more, q⟩ := U.tbls b ps e
    exact ⟨more, by rw [upd_ne (ne_of_none q hn)]; exact q⟩
  · by_cases hb : b = s.heap.objs.size
    · subst hb
      rw [upd_same] at e
      cases e
      exact ⟨hz, its, n, hv, ha⟩
    · rw [upd_ne hb] at e
      exact (J.hok b u e).stay (fun _ _ _ q => q) (fun c q => by rw [upd_ne (ne_of_none q hn)]; exact q) fun c xs q => by rw [upd_ne (ne_of_none q hn)]; exact q
  · obtain ⟨_, f1, _, f3, f4, f5⟩ := hf b hb
    exact ⟨f3, f1, f4, f5⟩
/-- the block's own names are let go -/
theorem comp_letgo {H' : Hp} {s4 : Shared} {C : Addr} {h' : Heap} {σ4 : St} (I : Inv X pins σ H s) (hC : s.heap.objs.size ≤ C) (I4 : Inv X pins σ4 H' s4) (hn : H' C = none) (hs : Heap.SameBut C s4.heap h') : Inv X pins σ4 H' { s4 with heap := h' } := by
  have q := I4.turned (it := C) (t' := s4.toks) (h' := h') (fun b o hb e => (hs.2 b hb).trans e) hn (Nat.ne_of_gt (Nat.lt_of_lt_of_le I.lt hC)) (.inr (Nat.le_trans I.sz hC)) (fun x c e z => ?_) (fun p hp z => ?_)
  · exact q
  · obtain ⟨v, u⟩ := I.cell x c e
    exact absurd (Nat.lt_of_lt_of_le u.lt (by rw [z]; exact hC)) (Nat.lt_irrefl _)
  · exact absurd (Nat.lt_of_lt_of_le (Heap.lt_size (I.pin p hp).1) (by rw [z]; exact hC)) (Nat.lt_irrefl _)
end
def PTs (X : Cx) (ifs : List Expr) (t : TT) : Prop :=
  ∀ (pins : List (Addr × Obj)) (s : Shared) (σ : St) (H : Hp) (Q : Bool → Hp → Prop), Inv X pins σ H s → t σ H Q →
    wpAny (model X.prog X.w) X.A (forIn ifs true fun c r => if r = true then do let ok ← isTrue c X.env (eval c X.env); pure (ForInStep.yield ok) else pure (ForInStep.yield r)) (TP X pins σ Q) X.xe s
def tTrue : TT := fun _ H Q => Q true H
theorem pts_nil {X : Cx} : PTs X [] tTrue := fun _ _ _ H _ I h => wpAny_tests_nil ⟨H, I, h⟩
theorem compLoop_go {prog : Program} {w : World} {A : Around} {R : Result → Shared → Prop} {s : Shared} {elt target iter : Expr} {ifs : List Expr} {scope : Scope} {pos : Pos} {it acc : Value} {env : Env} (I : Nat → Shared → Prop)
    (turn : ∀ n s, I n s → wpAny (model prog w) A (pyNext it) (fun r s₁ => match r with
      | none => R (.ok .next) s₁
      | some v => wpAny (model prog w) A (letOwnedTupleGo target it v) (fun _ s₂ => wpAny (model prog w) A (assign target env v) (fun _ s₃ =>
          wpAny (model prog w) A (forIn ifs true fun c r => if r = true then do let ok ← isTrue c env (eval c env); pure (ForInStep.yield ok) else pure (ForInStep.yield r)) (fun ok s₄ =>
            if ok = true then wpAny (model prog w) A (eval elt env) (fun x s₅ =>
              wpAny (model prog w) A (call (.builtin "list.append") [acc, x]) (fun _ s₆ => ∃ m, m < n ∧ I m s₆) (fun _ _ => False) s₅) (fun _ _ => False) s₄
            else ∃ m, m < n ∧ I m s₄) (fun _ _ => False) s₃) (fun _ _ => False) s₂) (fun _ _ => False) s₁) (fun _ _ => False) s)
    (n : Nat) (h : I n s) : codeAny (model prog w) A (.compLoop (.ListComp elt [⟨target, iter, ifs, 0⟩] scope pos) 0 it acc env) R s := by
  refine codeAny_loop rfl I (fun n s hI => ?_) n h
  show wpAny _ A ((compTurn (.ListComp elt [⟨target, iter, ifs, 0⟩] scope pos) 0 it acc env).onRaise (fun x => do noteFrame x env; theTreesLotGoes x)) _ _ s
  refine wpAny_noted ?_
  rw [compTurn_list]
  refine wpAny_bind (wpAny_standAt (wpAny_bind (wpAny_mono (turn n s hI) (fun r s₁ h₁ => ?_) fun _ _ f => f.elim)))
  cases r with
  | none => exact wpAny_pure h₁
  | some v =>
    refine wpAny_bind (wpAny_mono h₁ (fun _ s₂ h₂ => wpAny_bind (wpAny_mono h₂ (fun _ s₃ h₃ => wpAny_bind (wpAny_mono h₃ (fun ok s₄ h₄ => ?_) fun _ _ f => f.elim)) fun _ _ f => f.elim)) fun _ _ f => f.elim)
    cases ok with
    | false => exact wpAny_pure ⟨rfl, h₄⟩
    | true => exact wpAny_bind (wpAny_bind (wpAny_mono h₄ (fun x s₅ h₅ => wpAny_bind (wpAny_mono h₅ (fun _ s₆ h₆ => wpAny_pure (wpAny_pure ⟨rfl, h₆⟩)) fun _ _ f => f.elim)) fun _ _ f => f.elim))
/-- the slots of σ' stand in σ too -/
def Weak (σ σ' : St) : Prop := σ'.length = σ.length ∧ ∀ (i : Nat) v, σ'[i]? = some (some v) → σ[i]? = some (some v)
theorem weak_set {σ : St} {i : Nat} {v : Option V} (h : σ[i]? = some none) : Weak (σ.set i v) σ := by
  refine ⟨by simp, fun j u e => ?_⟩
  by_cases hj : i = j
  · subst hj; rw [h] at e; cases e
  · rw [List.getElem?_set_ne hj]; exact e
/-- [elt for tg in iter if ..]: W is the word between two turns: the turn, a measure, what was told so far, the heap -/
def CompBody (own : List Str) (F : List (Str × Nat)) (g : TG) (tt : TT) (te : TE) (σ : St) (Q : VK) (J : It) (H1 : Hp) : Prop := ∃ W : Nat → Nat → List V → Hp → Prop, (∃ m, W 0 m [] H1) ∧ ∀ i m ys H', W i m ys H' → ys.length ≤ i →
  (J.stop i H' ∧ i ≤ sizeLine ∧ ∀ p, H' p = none → Q (.ref p) (upd H' p (.lst ys))) ∨
  (J.go i H' ∧ i < sizeLine ∧ ∃ N : List V → Hp → Prop, (∀ ys' H'', N ys' H'' → ∃ m', m' < m ∧ W (i + 1) m' ys' H'') ∧
    ∀ x H2, J.yld i H' x H2 → g x (compσ own F σ) H2 fun σ3 H3 => Weak σ3 (compσ own F σ) ∧ tt σ3 H3 fun b H4 => if b = true then te σ3 H4 fun y H5 => N (ys ++ [y]) H5 else N ys H4)
def tComp (own : List Str) (F : List (Str × Nat)) (wi : TI) (g : TG) (tt : TT) (te : TE) : TE := fun σ H Q => wi σ H fun J H1 => CompBody own F g tt te σ Q J H1
section
variable {X : Cx} {scope : Scope} {own : List Str} {F : List (Str × Nat)} {elt tg iter : Expr} {ifs : List Expr} {pos : Pos} {wi : TI} {g : TG} {tt : TT} {te : TE}
/-- a new empty list is laid -/
abbrev pushed (s : Shared) : Shared := { s with heap := s.heap.push { cls := .type "list", data := .seq ([] : List Value).toArray } }
/-- the block's run, up to its end -/
theorem comp_run {pins : List (Addr × Obj)} {σ : St} {H : Hp} {s : Shared} {Q : VK} {RR : Addr → Result → Shared → Prop} {it : Addr} {fp : List Addr} {tn : Nat → Heap → Prop} {J : It} (S : CompSc X scope own F) (hc : X.calm = true)
    (hg : ∀ C s₃ H₃ ex, PG (compCx X own F scope C s₃ H₃ ex) tg g) (ht : ∀ C s₃ H₃ ex, PTs (compCx X own F scope C s₃ H₃ ex) ifs tt) (he : ∀ C s₃ H₃ ex, PE (compCx X own F scope C s₃ H₃ ex) elt te)
    (I : Inv X pins σ H s) (T : Turn X.prog X.w X.K tg J fp it tn) (st : tn 0 s.heap) (hf : ∀ b ∈ fp, FpOk X pins H b)
    (h : CompBody own F g tt te σ Q J H)
    (hR : ∀ C s4 H4, s.heap.objs.size ≤ C → C ≠ s.heap.objs.size → Inv X pins σ H4 s4 → Q (.ref s.heap.objs.size) H4 → H4 C = none → (∃ m, s4.heap.Ns C m) → RR C (.ok .next) s4) :
    wpAny (model X.prog X.w) X.A (newList []) (fun acc s₃ => wpAny (model X.prog X.w) X.A (newFunctionEnv scope X.env.globals (clo X.env scope.names) [] X.env.qual none .none (some X.env)) (fun cenv s₄ =>
      codeAny (model X.prog X.w) X.A (.compStart (.ListComp elt [⟨tg, iter, ifs, 0⟩] scope pos) 0 (.ref it) acc { cenv with scope := relabel scope X.env }) (fun r s' => acc = .ref s.heap.objs.size ∧ RR cenv.locals r s') s₄) X.xe s₃) X.xe s := by
  obtain ⟨W, ⟨m0, w0⟩, turn⟩ := h
  have hlt : ∀ b ∈ fp, b < s.heap.objs.size := fun b hb => by
    obtain ⟨o, e, _⟩ := T.obj _ _ st b hb
    exact Heap.lt_size e
  refine wpAny_newObj_type (wpAny_newFunctionEnv S.nc (by intro y hy; simp at hy) (fun h₁ hns₁ hsb₁ => ?_) S.kind)
  dsimp only at hns₁ hsb₁ ⊢
  have e3' : pushed s = { s with heap := s.heap.push { cls := .type "list", data := .seq ([] : List Value).toArray } } := rfl
  have sz3 : (pushed s).heap.objs.size = s.heap.objs.size + 1 := Heap.size_push ..
  have k3 : ∀ b o, (pushed s).heap.get? b = some o → h₁.get? b = some o := fun b o e => hsb₁.extBut b o (Nat.ne_of_lt (Heap.lt_size e)) (Heap.get?_push_of_some _ e)
  have k2 : ∀ b o, s.heap.get? b = some o → (pushed s).heap.get? b = some o := fun b o e => Heap.get?_push_of_some _ e
  have hns : h₁.Ns (pushed s).heap.objs.size (fun _ => none) := by simpa using hns₁
  have I0 : Inv (compCx X own F scope (pushed s).heap.objs.size (pushed s) H (s.heap.objs.size :: fp)) [] (compσ own F σ) H { pushed s with heap := h₁, toks := (pushed s).toks + ([] : List (Str × Value)).length } := comp_start I S hf hlt e3' hns k3
  have acc0 : h₁.get? s.heap.objs.size = some { cls := .type "list", data := .seq ([] : List Value).toArray 0 } := k3 _ _ (Heap.get?_push_size _ rfl)
  have ht0 : tn 0 h₁ := T.keep _ _ _ st fun b _ o e => k3 b o (k2 b o e)
  have loop : codeAny (model X.prog X.w) X.A (.compLoop (.ListComp elt [⟨tg, iter, ifs, 0⟩] scope pos) 0 (.ref it) (.ref s.heap.objs.size) (compEnvC scope (clo X.env scope.names) (pushed s).heap.objs.size X.env)) (RR (pushed s).heap.objs.size) { pushed s with heap := h₁, toks := (pushed s).toks + ([] : List (Str × Value)).length } := by
    refine compLoop_go (fun n s' => ∃ i ys H' its k, Inv (compCx X own F scope (pushed s).heap.objs.size (pushed s) H (s.heap.objs.size :: fp)) [] (compσ own F σ) H' s' ∧ tn i s'.heap ∧ (∀ b ∈ fp, H' b = none) ∧ H' s.heap.objs.size = none ∧
      Vals ys its ∧ s'.heap.get? s.heap.objs.size = some { cls := .type "list", data := .seq its.toArray k } ∧ ys.length ≤ i ∧ W i n ys H') ?_ m0 ⟨0, [], H, [], 0, I0, ht0, fun b hb => (hf b hb).1, I.hok.fresh (Nat.le_refl _), .nil, acc0, Nat.le_refl _, w0⟩
    rintro n s5 ⟨i, ys, H5, its, k, I5, t5, fr5, ha5, v5, o5, l5, w5⟩
    have pn5 : Inv (compCx X own F scope (pushed s).heap.objs.size (pushed s) H (s.heap.objs.size :: fp)) [(s.heap.objs.size, { cls := .type "list", data := .seq its.toArray k })] (compσ own F σ) H5 s5 := I5.pins_of fun p hp => by
      have z : p = (s.heap.objs.size, { cls := .type "list", data := .seq its.toArray k }) := by simpa using hp
      subst z
      obtain ⟨x1, x2⟩ := I0.ok.exf s.heap.objs.size List.mem_cons_self
      exact ⟨o5, ha5, x1, I0.ok.exfs _ List.mem_cons_self, fun v z => by cases z⟩
    have fp5 : ∀ {H' : Hp}, (∀ b ∈ fp, H' b = none) → ∀ b ∈ fp, FpOk (compCx X own F scope (pushed s).heap.objs.size (pushed s) H (s.heap.objs.size :: fp)) [(s.heap.objs.size, { cls := .type "list", data := .seq its.toArray k })] H' b := fun {H'} hn b hb => by
      obtain ⟨x1, x2⟩ := I0.ok.exf b (List.mem_cons_of_mem _ hb)
      refine ⟨hn b hb, x1, I0.ok.exfs b (List.mem_cons_of_mem _ hb), .inl (List.mem_cons_of_mem _ hb), x2, fun p hp => ?_⟩
      have z : p = (s.heap.objs.size, { cls := .type "list", data := .seq its.toArray k }) := by
        have hp' : p ∈ ([] : List (Addr × Obj)) ++ [(s.heap.objs.size, { cls := .type "list", data := .seq its.toArray k })] := hp
        simpa using hp'
      subst z
      exact Nat.ne_of_gt (hlt b hb)
    rcases turn i n ys H5 w5 l5 with ⟨stop, hz, q⟩ | ⟨go, hz, N, hN, step⟩
    · refine thn (T.done (compCx X own F scope (pushed s).heap.objs.size (pushed s) H (s.heap.objs.size :: fp)) rfl rfl rfl hc i _ s5 _ H5 (fun _ _ => False) pn5 (fp5 fr5) t5 stop) fun r s6 ⟨hr, I6⟩ => ?_
      subst hr
      obtain ⟨a6, b6, _⟩ := I6.pin (s.heap.objs.size, { cls := .type "list", data := .seq its.toArray k }) (List.mem_append_right _ (List.mem_singleton.mpr rfl))
      have J6 := I6.pins_of (pins' := []) (fun p hp => nomatch hp)
      have I7 := comp_back I hf e3' J6 (Nat.le_trans l5 hz) v5 a6 b6
      have hC : H5 (pushed s).heap.objs.size = none := J6.free
      refine hR _ s6 _ (show s.heap.objs.size ≤ (pushed s).heap.objs.size by omega) (fun z => by have z' : (pushed s).heap.objs.size = s.heap.objs.size := z; omega) I7 (q _ b6) (by rw [upd_ne (fun z => by have z' : (pushed s).heap.objs.size = s.heap.objs.size := z; omega)]; exact hC) ?_
      obtain ⟨m, hn, _⟩ := J6.loc
      exact ⟨m, hn⟩
    · refine thn (T.item (compCx X own F scope (pushed s).heap.objs.size (pushed s) H (s.heap.objs.size :: fp)) rfl rfl rfl hc i _ s5 _ H5 (fun _ _ => False) pn5 (fp5 fr5) t5 go) fun r s6 ⟨u, hr, h6⟩ => ?_
      subst hr
      refine thn h6 fun _ s7 ⟨x, H7, I7, r7, y7, t7, fr7⟩ => ?_
      have J7 := I7.pinned (fp5 fr7) (T.obj _ _ t7)
      refine thn (hg _ _ _ _ _ s7 _ H7 x u _ J7 r7 (step x H7 y7)) fun _ s8 ⟨σ8, H8, I8, wk, q8⟩ => ?_
      refine thn (ht _ _ _ _ _ s8 σ8 H8 _ I8 q8) fun ok s9 ⟨H9, I9, q9⟩ => ?_
      have keep : ∀ {σ' : St} {H' : Hp} {s' : Shared}, Inv (compCx X own F scope (pushed s).heap.objs.size (pushed s) H (s.heap.objs.size :: fp)) ([(s.heap.objs.size, { cls := .type "list", data := .seq its.toArray k })] ++ pinsAt fp s7.heap) σ' H' s' →
          tn (i + 1) s'.heap ∧ (∀ b ∈ fp, H' b = none) ∧ H' s.heap.objs.size = none ∧ s'.heap.get? s.heap.objs.size = some { cls := .type "list", data := .seq its.toArray k } := fun {σ' H' s'} J => by
        have pa := J.pin (s.heap.objs.size, { cls := .type "list", data := .seq its.toArray k }) (List.mem_append_right _ (List.mem_append_left _ (List.mem_singleton.mpr rfl)))
        refine ⟨T.keep _ _ _ t7 fun b hb o e => (J.pin (b, o) (List.mem_append_right _ (List.mem_append_right _ (mem_pinsAt hb e)))).1, fun b hb => ?_, pa.2.1, pa.1⟩
        obtain ⟨o, e, d⟩ := T.obj _ _ t7 b hb
        exact (J.pin (b, o) (List.mem_append_right _ (List.mem_append_right _ (mem_pinsAt hb e)))).2.1
      cases ok with
      | false =>
        rw [if_neg Bool.false_ne_true] at q9 ⊢
        obtain ⟨m', hm, w9⟩ := hN _ _ q9
        obtain ⟨a1, a2, a3, a4⟩ := keep I9
        exact ⟨m', hm, i + 1, ys, H9, its, k, (I9.pins_of (pins' := []) (fun p hp => nomatch hp)).weak wk.1 wk.2, a1, a2, a3, v5, a4, Nat.le_succ_of_le l5, w9⟩
      | true =>
        rw [if_pos rfl] at q9 ⊢
        refine thn (he _ _ _ _ _ s9 σ8 H9 _ I9 q9) fun u' s10 ⟨y, H10, I10, r10, q10⟩ => ?_
        obtain ⟨m', hm, w10⟩ := hN _ _ q10
        obtain ⟨a1, a2, a3, a4⟩ := keep I10
        have hl := v5.length
        refine call_meets PySem.F.slot_list_append ⟨_, a4, rfl⟩ PySem.F.entry_list_append (PySem.F.args_list_append_2 _ _) (PySem.list_append s.heap.objs.size its.toArray k u' (by rw [List.size_toArray]; omega)) ⟨a4, ?_⟩
        have q := PySem.IsL.update a4 (fun xs : Array Value => xs.push u')
        have eq : its.toArray.push u' = (its ++ [u']).toArray := by simp
        rw [eq] at q
        obtain ⟨x1, x2⟩ := I0.ok.exf s.heap.objs.size List.mem_cons_self
        have I11 := (I10.pins_of (pins' := []) (fun p hp => nomatch hp)).turned (it := s.heap.objs.size) (t' := s10.toks) (h' := s10.heap.update s.heap.objs.size (Obj.mapSeq (fun xs : Array Value => xs.push u'))) (fun b o hb e => (Heap.get?_update_other s10.heap _ (Ne.symm hb)).trans e) a3 x1 (.inl List.mem_cons_self) x2 (fun p hp => absurd (show p ∈ ([] : List (Addr × Obj)) from hp) (by simp))
        refine ⟨m', hm, i + 1, ys ++ [y], H10, its ++ [u'], _, I11.weak wk.1 wk.2, ?_, a2, a3, v5.append (.cons r10 .nil), q, by rw [List.length_append, List.length_singleton]; omega, w10⟩
        exact T.keep _ _ _ a1 fun b hb o e => (Heap.get?_update_other s10.heap _ (Nat.ne_of_gt (hlt b hb))).trans e
  have loop' := codeAny_mono loop (R' := fun r s' => Value.ref s.heap.objs.size = .ref s.heap.objs.size ∧ RR (pushed s).heap.objs.size r s') fun r s' z => ⟨rfl, z⟩
  exact codeAny_compStart_list loop' (T.self X.A 0 _ _ _ ht0 loop')
theorem pe_comp (S : CompSc X scope own F) (hc : X.calm = true) (hi : PI X tg iter wi)
    (hg : ∀ C s₃ H₃ ex, PG (compCx X own F scope C s₃ H₃ ex) tg g) (ht : ∀ C s₃ H₃ ex, PTs (compCx X own F scope C s₃ H₃ ex) ifs tt) (he : ∀ C s₃ H₃ ex, PE (compCx X own F scope C s₃ H₃ ex) elt te)
    (hs : ∀ x, foldedSetIterable iter X.env x = pure x := by intro _; rfl) : PE X (.ListComp elt [⟨tg, iter, ifs, 0⟩] scope pos) (tComp own F wi g tt te) := by
  intro pins s σ H Q I h
  rw [eval_ListComp]
  refine wpAny_comprehension_free (use := none) rfl hs (closureFor_clo (I.freeCells S)) S.kind S.lc ?_
  refine thn (hi pins s σ H _ I h) fun v s1 h1 => thn h1 fun itv s2 ⟨it, fp, tn, J, H2, e, I2, T, st2, f2, q2⟩ => ?_
  subst e
  refine thn (comp_run (Q := Q) (RR := fun C r s' => compPost (model X.prog X.w) X.A X.xe none (EP X pins σ Q) (.ref s2.heap.objs.size) C r s') S hc hg ht he I2 T st2 f2 q2 fun C s4 H4 c1 c2 I4 q4 n4 hm => ?_) fun acc s3 h3 => thn h3 fun cenv s4 h4 => codeAny_mono h4 fun r s' ⟨ea, hr⟩ => ?_
  · obtain ⟨m, hn⟩ := hm
    exact ⟨m, hn, fun h' hs' => ⟨.ref s2.heap.objs.size, H4, comp_letgo I2 c1 I4 n4 hs', rfl, q4⟩⟩
  · rw [ea]; exact hr
/-- x = [..], where the store comes ahead of the letting go -/
theorem ps_comp {i : Nat} {x : Str} {pos' spos : Pos} (hN : X.N.Nodup) (hi' : X.N[i]? = some x) (hx : Loc X.env.scope x) (S : CompSc X scope own F) (hc : X.calm = true) (hi : PI X tg iter wi)
    (hg : ∀ C s₃ H₃ ex, PG (compCx X own F scope C s₃ H₃ ex) tg g) (ht : ∀ C s₃ H₃ ex, PTs (compCx X own F scope C s₃ H₃ ex) ifs tt) (he : ∀ C s₃ H₃ ex, PE (compCx X own F scope C s₃ H₃ ex) elt te)
    (hsw : swapsWith (.ListComp elt [⟨tg, iter, ifs, 0⟩] scope pos) (some (.Name x pos')) spos.line X.env = pure true := by rfl)
    (hs : ∀ x, foldedSetIterable iter X.env x = pure x := by intro _; rfl) (hf : X.fn x = true ∨ X.env.scope.names.lookup x = some .local := by first | exact .inl rfl | exact .inr rfl | assumption) :
    PS X (.Assign [.Name x pos'] (.ListComp elt [⟨tg, iter, ifs, 0⟩] scope pos) spos) (tAsg (tComp own F wi g tt te) (gName i)) := by
  intro pins s σ H D I h
  rw [exec_Assign_Name_used x pos' _ _ hsw]
  refine wpAny_bind (wpAny_standAt (wpAny_bind ?_))
  refine wpAny_bind ?_
  refine wpAny_mono (Q := fun _ s' => SP X pins D .next s') ?_ (fun _ s' q => wpAny_pure (wpAny_pure q)) fun _ _ z => z
  refine wpAny_comprehension_free (use := some (assign (.Name x pos') X.env)) rfl hs (closureFor_clo (I.freeCells S)) S.kind S.lc ?_
  refine thn (hi pins s σ H _ I h) fun v s1 h1 => thn h1 fun itv s2 ⟨it, fp, tn, J, H2, e, I2, T, st2, f2, q2⟩ => ?_
  subst e
  refine thn (comp_run (Q := fun x H1 => gName i x σ H1 D.nx) (RR := fun C r s' => compPost (model X.prog X.w) X.A X.xe (some (assign (.Name x pos') X.env)) (fun _ s' => SP X pins D .next s') (.ref s2.heap.objs.size) C r s') S hc hg ht he I2 T st2 f2 q2 fun C s4 H4 c1 c2 I4 q4 n4 hm => ?_) fun acc s3 h3 => thn h3 fun cenv s4 h4 => codeAny_mono h4 fun r s' ⟨ea, hr⟩ => ?_
  · obtain ⟨m, hn⟩ := hm
    refine wpAny_assign_Name (store_ok2 I4 hN hi' hx (v := .ref s2.heap.objs.size) rfl (fun s5 I5 ⟨a, sb, ha⟩ => ?_) hf)
    have aC : a ≠ C := by
      rcases ha with z | z
      · rw [z]; exact Nat.ne_of_lt (Nat.lt_of_lt_of_le I2.lt c1)
      · obtain ⟨v, u⟩ := I2.cell _ _ z
        exact Nat.ne_of_lt (Nat.lt_of_lt_of_le u.lt c1)
    exact ⟨m, hn.sameBut sb (Ne.symm aC), fun h' hs' => ⟨_, H4, comp_letgo I2 c1 I5 n4 hs', q4⟩⟩
  · rw [ea]; exact hr
end
end L2
namespace L2
open PySem PySem.Spec PyProof.Rows
inductive T where
  | non | bl (b : Bool) | int (i : Int) | str (x : List Nat) | lst (ts : List T) | dic (ks : List (List Nat)) (ts : List T) | tup (ts : List T)
mutual
/-- the value stands for the tree -/
def Rep (H : Hp) : V → T → Prop
  | v, .non => v = .non
  | v, .bl b => v = .bl b
  | v, .int i => v = .int i
  | v, .str x => v = .str (tx x)
  | v, .lst ts => ∃ a vs, v = .ref a ∧ H a = some (.lst vs) ∧ Reps H vs ts
  | v, .dic ks ts => ∃ a ps, v = .ref a ∧ H a = some (.dK ps) ∧ ps.map (·.1) = ks.map (fun k => (Sum.inr (tx k) : Key)) ∧ Reps H (ps.map (·.2)) ts
  | v, .tup ts => ∃ a vs, v = .ref a ∧ H a = some (.tup vs) ∧ Reps H vs ts
def Reps (H : Hp) : List V → List T → Prop
  | vs, [] => vs = []
  | vs, t :: ts => ∃ v r, vs = v :: r ∧ Rep H v t ∧ Reps H r ts
end
mutual
theorem Rep.same {H H' : Hp} (e : Same H H') : ∀ (v : V) (t : T), Rep H v t → Rep H' v t
  | _, .non, h => h
  | _, .bl _, h => h
  | _, .int _, h => h
  | _, .str _, h => h
  | _, .lst ts, ⟨a, vs, h1, h2, h3⟩ => ⟨a, vs, h1, e _ _ h2, Reps.same e vs ts h3⟩
  | _, .dic ks ts, ⟨a, ps, h1, h2, h3, h4⟩ => ⟨a, ps, h1, e _ _ h2, h3, Reps.same e _ ts h4⟩
  | _, .tup ts, ⟨a, vs, h1, h2, h3⟩ => ⟨a, vs, h1, e _ _ h2, Reps.same e vs ts h3⟩
theorem Reps.same {H H' : Hp} (e : Same H H') : ∀ (vs : List V) (ts : List T), Reps H vs ts → Reps H' vs ts
  | _, [], h => h
  | _, t :: ts, ⟨v, r, h1, h2, h3⟩ => ⟨v, r, h1, Rep.same e v t h2, Reps.same e r ts h3⟩
end
theorem Reps.snoc {H : Hp} {v : V} {t : T} (h : Rep H v t) : ∀ {vs : List V} {ts : List T}, Reps H vs ts → Reps H (vs ++ [v]) (ts ++ [t])
  | _, [], e => by
    have e' : _ = [] := e
    subst e'
    exact ⟨v, [], rfl, h, rfl⟩
  | _, t' :: ts, ⟨v', r, h1, h2, h3⟩ => by
    subst h1
    exact ⟨v', r ++ [v], rfl, h2, Reps.snoc h h3⟩
theorem Reps.length {H : Hp} : ∀ {vs : List V} {ts : List T}, Reps H vs ts → vs.length = ts.length
  | _, [], e => by
    have e' : _ = [] := e
    subst e'; rfl
  | _, t' :: ts, ⟨v', r, h1, h2, h3⟩ => by
    subst h1
    simp [Reps.length h3]
theorem Reps.get {H : Hp} : ∀ {vs : List V} {ts : List T} {i : Nat} {v : V}, Reps H vs ts → vs[i]? = some v → ∃ t, ts[i]? = some t ∧ Rep H v t
  | _, [], i, v, e, h => by
    have e' : _ = [] := e
    subst e'; simp at h
  | _, t' :: ts, 0, v, ⟨v', r, h1, h2, h3⟩, h => by
    subst h1
    simp at h; subst h
    exact ⟨t', rfl, h2⟩
  | _, t' :: ts, i + 1, v, ⟨v', r, h1, h2, h3⟩, h => by
    subst h1
    obtain ⟨t, e, q⟩ := Reps.get (i := i) (v := v) h3 (by simpa using h)
    exact ⟨t, by simpa using e, q⟩
def tyT : T → String
  | .non => "NoneType"
  | .bl _ => "bool"
  | .int _ => "int"
  | .str _ => "str"
  | .lst _ => "list"
  | .dic _ _ => "dict"
  | .tup _ => "tuple"
theorem Rep.ty {H : Hp} {v : V} : ∀ {t : T}, Rep H v t → tyS H v = some (tyT t)
  | .non, h => by cases (show v = .non from h); rfl
  | .bl b, h => by cases (show v = .bl b from h); rfl
  | .int i, h => by cases (show v = .int i from h); rfl
  | .str x, h => by cases (show v = .str (tx x) from h); rfl
  | .lst ts, h => by obtain ⟨a, vs, e, h2, _⟩ := h; subst e; show (match H a with | some (.lst _) => some "list" | some (.tup _) => some "tuple" | some (.dK _) => some "dict" | _ => none) = _; rw [h2]; rfl
  | .dic ks ts, h => by obtain ⟨a, vs, e, h2, _⟩ := h; subst e; show (match H a with | some (.lst _) => some "list" | some (.tup _) => some "tuple" | some (.dK _) => some "dict" | _ => none) = _; rw [h2]; rfl
  | .tup ts, h => by obtain ⟨a, vs, e, h2, _⟩ := h; subst e; show (match H a with | some (.lst _) => some "list" | some (.tup _) => some "tuple" | some (.dK _) => some "dict" | _ => none) = _; rw [h2]; rfl
def letL : List Nat := (List.range 26).map (· + 97)
def figL : List Nat := (List.range 10).map (· + 48)
/-- the signs of texts: from the blank to ~ but the percent sign -/
def sgnL : List Nat := ((List.range 95).map (· + 32)).filter (· != 37)
def okName (w : List Nat) : Bool := decide (1 ≤ w.length) && decide (w.length ≤ 12) && (match w with | [] => false | c :: _ => decide (c ∈ letL)) && w.all (fun c => decide (c ∈ letL ++ figL))
def okText (w : List Nat) : Bool := decide (w.length ≤ 30) && w.all (fun c => decide (c ∈ sgnL))
mutual
def Nice : Nat → T → Prop
  | _, .non => True
  | _, .bl _ => True
  | _, .int i => -(10 ^ 12) ≤ i ∧ i ≤ 10 ^ 12
  | _, .str x => okText x = true
  | d, .lst ts => 1 ≤ d ∧ ts.length ≤ 4 ∧ NiceL (d - 1) ts
  | d, .dic ks ts => 1 ≤ d ∧ ts.length ≤ 4 ∧ ks.length = ts.length ∧ ks.Nodup ∧ (∀ k ∈ ks, okName k = true) ∧ NiceL (d - 1) ts
  | _, .tup _ => False
def NiceL : Nat → List T → Prop
  | _, [] => True
  | d, t :: ts => Nice d t ∧ NiceL d ts
end
theorem NiceL.snoc {d : Nat} {t : T} (h : Nice d t) : ∀ {ts : List T}, NiceL d ts → NiceL d (ts ++ [t])
  | [], _ => ⟨h, trivial⟩
  | _ :: ts, ⟨a, b⟩ => ⟨a, NiceL.snoc h b⟩
end L2
namespace L2
open PySem PySem.Spec PyProof.Rows
theorem same_new {H : Hp} {p : Addr} (h : H p = none) (o : HO) : Same H (upd H p o) := fun b u q => by rw [upd_ne (ne_of_none q h)]; exact q
section
variable {K : PySem.W.Frag} {H : Hp} {Q : VK} {a b : Addr} {xs ys : List V}
theorem rEqL_i {neg : Bool} (h1 : SqL K H a xs) (h2 : SqL K H b ys) (f1 : xs.all flatV = true) (f2 : ys.all flatV = true) (q : Q (.bl (if neg then !eqLs xs ys else eqLs xs ys)) H) : rEqL K neg (.ref a) (.ref b) H Q :=
  ⟨a, b, xs, ys, rfl, rfl, h1, h2, f1, f2, q⟩
theorem rIxL_i {i : Int} {v : V} (h1 : SqL K H a xs) (h2 : atI xs i = some v) (q : Q v H) : rIxL K (.ref a) (.int i) H Q := ⟨a, xs, i, v, rfl, rfl, h1, h2, q⟩
theorem rIxT_i {i : Int} {v : V} (h1 : SqT K H a xs) (h2 : atI xs i = some v) (q : Q v H) : rIxT K (.ref a) (.int i) H Q := ⟨a, xs, i, v, rfl, rfl, h1, h2, q⟩
theorem rIxS_i {z : Str} {i : Int} {c : Nat} (h1 : z.length ≤ sizeLine) (h2 : atI (ts z) i = some c) (q : Q (.str (tx [c])) H) : rIxS (.str z) (.int i) H Q := ⟨z, i, c, rfl, rfl, h1, h2, q⟩
end
/-- an item at a place that is not written -/
theorem atI_of {α : Type} {xs : List α} {i : Int} (h0 : 0 ≤ i) (h1 : i < xs.length) : ∃ v, atI xs i = some v ∧ v ∈ xs := by
  obtain ⟨j, rfl⟩ := Int.eq_ofNat_of_zero_le h0
  have hj : j < xs.length := by omega
  exact ⟨xs[j], atI_nat (by simp [hj]), List.getElem_mem hj⟩
theorem atI_getD {α : Type} {xs : List α} {i : Int} {d : α} (h0 : 0 ≤ i) (h1 : i < xs.length) : atI xs i = some (xs.getD i.toNat d) := by
  obtain ⟨j, rfl⟩ := Int.eq_ofNat_of_zero_le h0
  have hj : j < xs.length := by omega
  refine atI_nat ?_
  simp [List.getD, hj]
/-- a comprehension over one name: Pv holds between two turns -/
theorem comp_by {x : Str} {F : List (Str × Nat)} {J : It} {n : Nat} {tt : TT} {te : TE} {σ : St} {Q : VK} {H1 : Hp} (Pv : Nat → List V → Hp → Prop) (hn : n ≤ sizeLine) (h0 : Pv 0 [] H1) (hgo : ∀ i ys H, i < n → Pv i ys H → J.go i H)
    (hst : ∀ ys H, Pv n ys H → J.stop n H)
    (hs : ∀ i ys H y H2, i < n → ys.length ≤ i → Pv i ys H → J.yld i H y H2 → tt (some y :: F.map (fun p => (σ[p.2]?).join)) H2 fun b H3 => if b = true then te (some y :: F.map (fun p => (σ[p.2]?).join)) H3 fun z H4 => Pv (i + 1) (ys ++ [z]) H4 else Pv (i + 1) ys H3)
    (hd : ∀ ys H, ys.length ≤ n → Pv n ys H → ∀ p, H p = none → Q (.ref p) (upd H p (.lst ys))) : CompBody [x] F (gName 0) tt te σ Q J H1 := by
  refine ⟨fun i m ys H => m = n - i ∧ i ≤ n ∧ Pv i ys H, ⟨n, by simp, Nat.zero_le _, h0⟩, ?_⟩
  rintro i m ys H ⟨rfl, hi, p⟩ hl
  by_cases hlt : i < n
  · refine .inr ⟨hgo i ys H hlt p, by omega, Pv (i + 1), fun ys' H'' q => ⟨n - (i + 1), by omega, rfl, hlt, q⟩, fun y H2 hy => ?_⟩
    exact ⟨weak_set (i := 0) rfl, hs i ys H y H2 hlt hl p hy⟩
  · have e : i = n := by omega
    subst e
    exact .inl ⟨hst ys H p, hn, hd ys H hl p⟩
/-- .. over a range, without a test -/
theorem comp_rng {x : Str} {F : List (Str × Nat)} {lo : Int} {n : Nat} {te : TE} {σ : St} {Q : VK} {H1 : Hp} (Pv : Nat → List V → Hp → Prop) (hn : n ≤ sizeLine) (h0 : Pv 0 [] H1)
    (hs : ∀ (i : Nat) ys H, i < n → ys.length ≤ i → Pv i ys H → te (some (.int (lo + i)) :: F.map (fun p => (σ[p.2]?).join)) H fun z H4 => Pv (i + 1) (ys ++ [z]) H4)
    (hd : ∀ ys H, ys.length ≤ n → Pv n ys H → ∀ p, H p = none → Q (.ref p) (upd H p (.lst ys))) : CompBody [x] F (gName 0) tTrue te σ Q (Itr lo n) H1 :=
  comp_by Pv hn h0 (fun i _ _ h _ => h) (fun _ _ _ => Nat.le_refl _) (fun i ys H y H2 h1 h2 h3 h4 => by
    obtain ⟨rfl, rfl⟩ := h4
    exact hs i ys _ h1 h2 h3) hd
/-- .. over a text -/
theorem comp_str {x : Str} {F : List (Str × Nat)} {w : Str} {tt : TT} {te : TE} {σ : St} {Q : VK} {H1 : Hp} (Pv : Nat → List V → Hp → Prop) (hn : (ts w).length ≤ sizeLine) (h0 : Pv 0 [] H1)
    (hs : ∀ i c ys H, (ts w)[i]? = some c → ys.length ≤ i → Pv i ys H → tt (some (.str (tx [c])) :: F.map (fun p => (σ[p.2]?).join)) H fun b H3 => if b = true then te (some (.str (tx [c])) :: F.map (fun p => (σ[p.2]?).join)) H3 fun z H4 => Pv (i + 1) (ys ++ [z]) H4 else Pv (i + 1) ys H3)
    (hd : ∀ ys H, ys.length ≤ (ts w).length → Pv (ts w).length ys H → ∀ p, H p = none → Q (.ref p) (upd H p (.lst ys))) : CompBody [x] F (gName 0) tt te σ Q (Its w) H1 :=
  comp_by Pv hn h0 (fun i _ _ h _ => h) (fun _ _ _ => Nat.le_refl _) (fun i ys H y H2 h1 h2 h3 h4 => by
    obtain ⟨rfl, c, hc, rfl⟩ := h4
    exact hs i c ys _ hc h2 h3) hd
end L2
namespace L2
open PySem PySem.Spec PyProof.Rows
section
variable {X : Cx} {x : Str} {pos : Pos}
theorem pe_gs {z : Str} (hg : Gl X x) (h : ∃ t, X.mg x = some (.str z t)) (hd : (x == ("__debug__" : Str)) = false := by decide) : PE X (.Name x pos) (tC (.str z)) := by
  obtain ⟨t, h⟩ := h
  exact pe_glob hg h ⟨t, rfl⟩ hd
end
end L2
namespace L2
open PySem PySem.Spec PyProof.Rows
theorem cxOf_K {CX : CXT} {P : Program} {w : World} {K : PySem.W.Frag} {mg : Str → Option Value} {base : Heap} {N : List Str} {qual : Str} {scope : Scope} {f : Addr} {cd : Value} {A : Around} {outer : List Env} {s : Shared} {H : Hp} {E : XK} : (cxOf CX P w K mg base N qual scope f cd A outer s H E).K = K := rfl
theorem nox_K {X : Cx} : X.nox.K = X.K := rfl
theorem compCx_K {X : Cx} {own : List Str} {F : List (Str × Nat)} {scope : Scope} {C : Addr} {s₃ : Shared} {H₃ : Hp} {ex : List Addr} : (compCx X own F scope C s₃ H₃ ex).K = X.K := rfl
theorem flat_ints (ns : List Int) : (ns.map V.int).all flatV = true := by
  rw [List.all_map]; exact List.all_eq_true.mpr fun _ _ => rfl
theorem eqLs_nil (xs : List V) : eqLs xs [] = xs.isEmpty := by cases xs <;> rfl
end L2
namespace L2
theorem natAbs10 : Int.natAbs 10 = 10 := rfl
end L2
namespace L2
open PySem PySem.Spec PyProof.Rows
def ForB (g : TG) (tb : TS) (D : Ends) (σ : St) (J : It) (H1 : Hp) : Prop := ∃ W : Nat → Nat → St → Hp → Prop, (∃ m, W 0 m σ H1) ∧ ∀ i m σ H, W i m σ H →
  (J.stop i H ∧ D.nx σ H) ∨ (J.go i H ∧ ∃ N : St → Hp → Prop, (∀ σ' H', N σ' H' → ∃ m', m' < m ∧ W (i + 1) m' σ' H') ∧ ∀ x H', J.yld i H x H' → g x σ H' fun σ2 H2 => tb { D with nx := N, ct := N, bk := D.nx } σ2 H2)
theorem tFor_eq (wi : TI) (g : TG) (tb : TS) (D : Ends) (σ : St) (H : Hp) : tFor wi g tb D σ H = wi σ H fun J H1 => ForB g tb D σ J H1 := rfl
theorem forB_rng {lo : Int} {n : Nat} {g : TG} {tb : TS} {D : Ends} {σ : St} {H : Hp} (Pv : Nat → St → Hp → Prop) (h0 : Pv 0 σ H)
    (hs : ∀ i σ H, i < n → Pv i σ H → g (.int (lo + i)) σ H fun σ2 H2 => tb { D with nx := Pv (i + 1), ct := Pv (i + 1), bk := D.nx } σ2 H2) (hd : ∀ σ H, Pv n σ H → D.nx σ H) : ForB g tb D σ (Itr lo n) H := for_range Pv h0 hs hd
section
variable {X : Cx}
theorem call_intB : CallR X (.type "int") (fun xs H Q => ∃ k, xs = [.bl k] ∧ Q (.int (if k then 1 else 0)) H) := fun pins s σ H xs us Q I r h => call_int1 pins s σ H xs us Q I r (.inr h)
theorem call_len_l : CallR X (.builtin "len") (fun xs H Q => ∃ p, xs = [.ref p] ∧ ∃ ys, SqL X.K H p ys ∧ Q (.int ys.length) H) := fun pins s σ H xs us Q I r ⟨p, e, ys, h, q⟩ => call_len_seq pins s σ H xs us Q I r ⟨p, ys, e, .inl h, q⟩
end
abbrev nK (k : List Nat) : Key := Sum.inr (tx k)
theorem nK_inj {a b : List Nat} (h : nK a = nK b) : a = b := by
  have e : tx a = tx b := Sum.inr.inj h
  rw [← ts_tx a, e, ts_tx]
theorem Reps.repl {H : Hp} {k : Key} {v : V} {t : T} (hv : Rep H v t) : ∀ {ps : List (Key × V)} {ts : List T}, Reps H (ps.map (·.2)) ts → ∃ ts', Reps H ((ps.map fun kv => if kv.1 = k then (kv.1, v) else kv).map (·.2)) ts' ∧ ts'.length = ts.length ∧ ∀ u ∈ ts', u ∈ ts ∨ u = t
  | [], ts, h => ⟨ts, h, rfl, fun u hu => .inl hu⟩
  | p :: ps, [], h => by
    have h' : (p :: ps).map (·.2) = [] := h
    cases h'
  | p :: ps, u :: ts, ⟨v', r, e, h1, h2⟩ => by
    have e' : p.2 :: ps.map (·.2) = v' :: r := e
    injection e' with e1 e2
    subst e1 e2
    obtain ⟨ts', r', l', m'⟩ := Reps.repl hv h2
    by_cases hk : p.1 = k
    · refine ⟨t :: ts', ⟨v, _, ?_, hv, r'⟩, by simp [l'], fun z hz => ?_⟩
      · rw [List.map_cons, if_pos hk, List.map_cons]
      · rcases List.mem_cons.mp hz with q | q
        · exact .inr q
        · exact (m' z q).imp (List.mem_cons_of_mem _) id
    · refine ⟨u :: ts', ⟨p.2, _, ?_, h1, r'⟩, by simp [l'], fun z hz => ?_⟩
      · rw [List.map_cons, if_neg hk, List.map_cons]
      · rcases List.mem_cons.mp hz with q | q
        · exact .inl (by rw [q]; exact List.mem_cons_self)
        · exact (m' z q).imp (List.mem_cons_of_mem _) id
end L2
namespace L2
open PySem PySem.Spec PyProof.Rows
theorem ts_l36 : ts (Str.ofString "abcdefghijklmnopqrstuvwxyz0123456789") = letL ++ figL := by decide +kernel
theorem ts_q : ts (Str.ofString "'") = [39] := by decide +kernel
theorem of_nil : Str.ofString "" = tx [] := by decide +kernel
theorem rep_one (c k : Nat) : (List.replicate k [c]).flatten = List.replicate k c := by
  induction k with
  | zero => rfl
  | succ k ih => rw [List.replicate_succ, List.flatten_cons, ih, List.replicate_succ]; rfl
theorem okText_of {w : List Nat} (h1 : w.length ≤ 30) (h4 : ∀ c ∈ w, c ∈ sgnL) : okText w = true := by
  unfold okText
  simp only [Bool.and_eq_true, decide_eq_true_eq, List.all_eq_true]
  exact ⟨h1, h4⟩
theorem at_l36 {i : Int} (h0 : 0 ≤ i) (h1 : i < 36) : ∃ c, atI (letL ++ figL) i = some c ∧ c ∈ letL ++ figL := atI_of h0 (by show i < ((36 : Nat) : Int); omega)
theorem at_l26 {i : Int} (h0 : 0 ≤ i) (h1 : i < 26) : ∃ c, atI (letL ++ figL) i = some c ∧ c ∈ letL := by
  obtain ⟨j, rfl⟩ := Int.eq_ofNat_of_zero_le h0
  have hj : j < 26 := by omega
  have hj' : j < letL.length := hj
  refine ⟨letL[j], atI_nat (by rw [List.getElem?_append_left hj']; simp [hj']), List.getElem_mem hj'⟩
theorem letL_sub {c : Nat} (h : c ∈ letL) : c ∈ letL ++ figL := List.mem_append_left _ h
end L2
namespace L2
end L2
namespace L2
open PySem PySem.Spec PyProof.Rows
theorem ts_sgn : Str.ofString " !\"#$&'()*+,-./0123456789:;<=>?@ABCDEFGHIJKLMNOPQRSTUVWXYZ[\\]^_`" ++ Str.ofString "abcdefghijklmnopqrstuvwxyz{|}~" = tx sgnL := by decide +kernel
theorem q_sgnL : 39 ∈ sgnL := by decide
theorem at_sgn {i : Int} (h0 : 0 ≤ i) (h1 : i < 94) : ∃ c, atI sgnL i = some c ∧ c ∈ sgnL := atI_of h0 (by show i < ((94 : Nat) : Int); omega)
theorem flat_one (cs : List Nat) : ((cs.map fun c => tx [c]).map ts).flatten = cs := by
  induction cs with
  | nil => rfl
  | cons d r ih => simp only [List.map_cons, List.flatten_cons, ih, ts_tx]; rfl
end L2
namespace L2
open PySem PySem.Spec PyProof.Rows
theorem HOk.sim {P : Program} {w : World} {H H' : Hp} {h : Heap} (ok : HOk P w H h) (ho : ∀ b a, H b = some (.own a) → H' b = some (.own a)) (ht : ∀ b xs, H b = some (.tup xs) → H' b = some (.tup xs))
    (hs : ∀ b u, H' b = some u → H b = some u ∨ (∃ o, H b = some (.frz o u)) ∨ ∃ o u', u = .frz o u' ∧ H b = some u' ∧ h.get? b = some o) : HOk P w H' h := fun b u e => by
  rcases hs b u e with q | ⟨o, q⟩ | ⟨o, u', rfl, q, g⟩
  · exact (ok b u q).stay (fun _ _ _ z => z) (fun c z => ho c b z) fun c xs z => ht c xs z
  · obtain ⟨_, z⟩ := (show ObjOk P w H h b (.frz o u) from ok b _ q)
    exact z.stay (fun _ _ _ z => z) (fun c z => ho c b z) fun c xs z => ht c xs z
  · exact ⟨g, (ok b u' q).stay (fun _ _ _ z => z) (fun c z => ho c b z) fun c xs z => ht c xs z⟩
section
variable {X : Cx} {pins : List (Addr × Obj)} {σ σ' : St} {H H' : Hp} {s s' : Shared}
theorem Inv.sim (I : Inv X pins σ H s) (hn : ∀ b, H b = none → H' b = none) (ho : ∀ b a, H b = some (.own a) → H' b = some (.own a)) (ht : ∀ b xs, H b = some (.tup xs) → H' b = some (.tup xs))
    (hb : ∀ b ps, H b = some (.tbl ps) → H' b = some (.tbl ps)) (hf : ∀ b o u, X.H₀ b = some (.frz o u) → H' b = some (.frz o u))
    (hs : ∀ b u, H' b = some u → H b = some u ∨ (∃ o, H b = some (.frz o u)) ∨ ∃ o u', u = .frz o u' ∧ H b = some u' ∧ s.heap.get? b = some o) : Inv X pins σ H' s :=
  ⟨I.ok, I.os, I.bare, ⟨I.base.keep, I.base.slot, fun b o e n hx => hn b (I.base.free b o e n hx), I.base.there, fun b xs e => ht b xs (I.base.tups b xs e), hf, fun b ps e => by
    obtain ⟨m, q⟩ := I.base.tbls b ps e
    exact ⟨m, hb b _ q⟩⟩, I.loc, I.cell, hn _ I.free, fun x c e => hn _ (I.freeC x c e), fun p hp => by
    obtain ⟨a, b, c, d, e⟩ := I.pin p hp
    exact ⟨a, hn _ b, c, d, e⟩, I.hok.sim ho ht hs, I.len⟩
/-- what was known to its object for a walk is freed again -/
def thaw (H H' : Hp) : Hp := fun b => match H b with
  | some (.frz _ _) => H' b
  | _ => match H' b with
    | some (.frz _ u) => some u
    | y => y
theorem thaw_frz {b : Addr} {o : Obj} {u : HO} (h : H b = some (.frz o u)) : thaw H H' b = H' b := by unfold thaw; rw [h]
theorem thaw_none {b : Addr} (h : H' b = none) : thaw H H' b = none := by unfold thaw; rw [h]; split <;> rfl
theorem thaw_of {b : Addr} {u : HO} (h : H' b = some u) (n : ∀ o v, u ≠ .frz o v) : thaw H H' b = some u := by
  unfold thaw; rw [h]
  split
  · rfl
  · cases u <;> first | rfl | exact absurd rfl (n _ _)
theorem thaw_inv {b : Addr} {u : HO} (h : thaw H H' b = some u) : H' b = some u ∨ ∃ o, H' b = some (.frz o u) := by
  unfold thaw at h
  split at h
  · exact .inl h
  · split at h
    · rename_i o v e
      cases h
      exact .inr ⟨_, e⟩
    · exact .inl h
theorem Inv.thaw (I : Inv X pins σ H s) (J : Inv X pins σ' H' s') : Inv X pins σ' (thaw H H') s' :=
  J.sim (fun b e => thaw_none e) (fun b a e => thaw_of e (by intro o v z; cases z)) (fun b a e => thaw_of e (by intro o v z; cases z)) (fun b a e => thaw_of e (by intro o v z; cases z))
    (fun b o u e => by rw [thaw_frz (I.base.frzs b o u e)]; exact J.base.frzs b o u e) fun b u e => (thaw_inv e).imp id .inl
def tThaw (t : TE) : TE := fun σ H Q => t σ H fun v H' => Q v (thaw H H')
end
theorem KV.get {κ : Type} : ∀ {kvs : List (κ × V)} {vs : List (κ × Value)} {i : Nat} {kv : κ × V}, KV kvs vs → kvs[i]? = some kv → ∃ q, vs[i]? = some q ∧ kv.1 = q.1 ∧ RelV kv.2 q.2
  | _, _, _, _, .nil, e => by simp at e
  | _, _, 0, _, .cons r _, e => by simp at e; subst e; exact ⟨_, rfl, r⟩
  | _, _, i + 1, x, .cons _ t, e => by
    obtain ⟨u, h1, h2⟩ := KV.get (i := i) (kv := x) t (by simpa using e)
    exact ⟨u, by simpa using h1, h2⟩
/-- the keys of the dict at d, which stays the very object -/
def Itd (d : Addr) (o : Obj) (kvs : List (Key × V)) : It :=
  ⟨fun i H => i < kvs.length ∧ H d = some (.frz o (.dK kvs)), fun i H y H' => H' = H ∧ ∃ kv, kvs[i]? = some kv ∧ y = kV kv.1, fun i H => kvs.length ≤ i ∧ H d = some (.frz o (.dK kvs))⟩
def iDict (tl : TE) : TI := fun σ H R => tl σ H fun x H1 => ∃ d kvs, x = .ref d ∧ ((H1 d = some (.dK kvs) ∧ ∀ o, R (Itd d o kvs) (upd H1 d (.frz o (.dK kvs)))) ∨ ∃ o, H1 d = some (.frz o (.dK kvs)) ∧ R (Itd d o kvs) H1)
section
variable {X : Cx}
end
def valsO (p d : Addr) : HO := .ext fun h => h.IsValuesView p d
section
variable {X : Cx}
def rVals : V → List V → Hp → VK → Prop := fun x vs H Q => ∃ d kvs, x = .ref d ∧ vs = [] ∧ Rd H d (.dK kvs) ∧ ∀ p, H p = none → Q (.ref p) (upd H p (valsO p d))
end
end L2
namespace L2
open PySem PySem.Spec PyProof.Rows
section
variable {prog : Program} {w : World} {A : Around} {E : Value → Shared → Prop}
end
section
variable {X : Cx}
end
end L2
namespace L2
open PySem PySem.Spec PyProof.Rows
/-- more names of Python's own -/
structure Bl2 (mg : Str → Option Value) : Prop extends Bl mg where
  max : mg "max" = none
  min : mg "min" = none
  sorted : mg "sorted" = none
def mxI (b z : Int) : Int := if z > b then z else b
def mxD (k : Int) : List Int → Int
  | [] => k
  | b :: r => r.foldl mxI b
section
variable {prog : Program} {w : World} {A : Around}
end
section
variable {X : Cx}
def rMaxD (K : PySem.W.Frag) : V → V → Hp → VK → Prop := fun x y H Q => ∃ (p : Addr) (ns : List Int) (k : Int), x = .ref p ∧ y = .int k ∧ SqL K H p (ns.map V.int) ∧ Q (.int (mxD k ns)) H
variable {e d : Expr} {te td : TE} {p kp pos : Pos}
def tMaxD (K : PySem.W.Frag) (te td : TE) : TE := fun σ H Q => te σ H fun x H1 => td σ H1 fun y H2 => rMaxD K x y H2 Q
end
end L2
namespace L2
open PySem PySem.Spec PyProof.Rows
mutual
def T.dep : T → Nat
  | .lst ts => T.deps ts + 1
  | .dic _ ts => T.deps ts + 1
  | .tup ts => T.deps ts + 1
  | .non => 0
  | .bl _ => 0
  | .int _ => 0
  | .str _ => 0
def T.deps : List T → Nat
  | [] => 0
  | t :: ts => max (T.dep t) (T.deps ts)
end
mutual
/-- no tuple within -/
def T.pure : T → Prop
  | .tup _ => False
  | .lst ts => T.pures ts
  | .dic ks ts => ks.Nodup ∧ T.pures ts
  | .non => True
  | .bl _ => True
  | .int _ => True
  | .str _ => True
def T.pures : List T → Prop
  | [] => True
  | t :: ts => T.pure t ∧ T.pures ts
end
theorem T.deps_le {t : T} : ∀ {ts : List T}, t ∈ ts → T.dep t ≤ T.deps ts
  | [], h => nomatch h
  | u :: ts, h => by
    show T.dep t ≤ max (T.dep u) (T.deps ts)
    rcases List.mem_cons.mp h with e | e
    · subst e; exact Nat.le_max_left _ _
    · exact Nat.le_trans (T.deps_le e) (Nat.le_max_right _ _)
def EqM (P : Program) (w : World) (A : Around) (s : Shared) (u v : Value) : Prop := ∀ (E : Value → Shared → Prop) (Q : Bool → Shared → Prop), Q true s → wpAny (model P w) A (eqBool u v) Q E s
def RcM (P : Program) (w : World) (A : Around) (s : Shared) (u v : Value) : Prop := ∀ (E : Value → Shared → Prop) (Q : Value → Shared → Prop), Q (.bool true) s → wpAny (model P w) A (richCompare .Eq u v) Q E s
theorem EqM.of_at {P : Program} {w : World} {A : Around} {s : Shared} {u v : Value} (h : SeqAt.EqAt A s u v true) : EqM P w A s u v := fun E Q q => h P w E Q q
theorem EqM.refs {P : Program} {w : World} {A : Around} {s : Shared} {a b : Addr} (h : a ≠ b → RcM P w A s (.ref a) (.ref b)) : EqM P w A s (.ref a) (.ref b) := by
  by_cases e : a = b
  · subst e; exact .of_at (SeqAt.EqAt.same _)
  · intro E Q q
    unfold eqBool
    refine wpAny_holding (wpAny_ite_split (fun z => ?_) fun _ => wpAny_bind (h e E _ (wpAny_truthy_bool q)))
    have := eq_of_beq z
    injection this with this
    exact absurd this e
section
variable {P : Program} {w : World}
open AutoSeq1 (wpAny_loadPart')
open MeetsSeq MeetsSeq2 MeetsSeq3 SeqRoads2 SeqAt
theorem eqm_loop (l b : Addr) (xs ys : Array Value) (n m : Nat) (d1 d2 : Option Addr) (sl1 sl2 : Array (Option Value)) (hsz : xs.size = ys.size) (k : Nat) :
    ∀ i : Nat, xs.size - i = k → MeetsIn P w (Builtin.«list.__eq__.loop» ⟨[.ref l, .ref b, rawInt i, rawInt 2], []⟩)
      (fun A R s => s.heap.get? l = some { cls := .type "list", dict := d1, data := .seq xs n, slots := sl1 } ∧ s.heap.get? b = some { cls := .type "list", dict := d2, data := .seq ys m, slots := sl2 } ∧
        (∀ j (h1 : j < xs.size) (h2 : j < ys.size), EqM P w A.in1 s xs[j] ys[j]) ∧ R (.ok (.ret (.bool true))) s) := by
  induction k with
  | zero =>
    intro i hk A R s h
    obtain ⟨hp, g, d, tk, os⟩ := s
    obtain ⟨hl, hb, he, h⟩ := h
    wp_walk using wpAny_loadPart' hl, wpAny_loadPart' hb
    have z1 : xs[((i : Nat) : Int).toNat]? = none := by simp; omega
    have z2 : ys[((i : Nat) : Int).toNat]? = none := by simp; omega
    rw [z1, z2]
    wp_walk using wpAny_loadPart' hl, wpAny_loadPart' hb
    show R (.ok (.ret (.bool (xs.size == ys.size)))) _
    rw [hsz, beq_self_eq_true]; exact h
  | succ k ih =>
    intro i hk A R s h
    obtain ⟨hp, g, d, tk, os⟩ := s
    obtain ⟨hl, hb, he, h⟩ := h
    wp_walk using wpAny_loadPart' hl, wpAny_loadPart' hb
    have l1 : i < xs.size := by omega
    have l2 : i < ys.size := by omega
    have z1 : xs[((i : Nat) : Int).toNat]? = some xs[i] := by simp [l1]
    have z2 : ys[((i : Nat) : Int).toNat]? = some ys[i] := by simp [l2]
    rw [z1, z2]
    refine wpAny_bind (he i l1 l2 _ _ ?_)
    wp_walk
    rw [show ((i : Int) + 1) = ((i + 1 : Nat) : Int) by omega]
    refine ⟨plainId_quiet plain_eq_loop _, codeAny_builtin entry_eq_loop ?_⟩
    rw [Around.under_plainId plain_eq_loop _]
    exact ih (i + 1) (by omega) A R _ ⟨hl, hb, he, h⟩
theorem eqm_list (l b : Addr) (xs ys : Array Value) (n m : Nat) (d1 d2 : Option Addr) (sl1 sl2 : Array (Option Value)) (hsz : xs.size = ys.size) : MeetsIn P w (Builtin.«list.__eq__» ⟨[.ref l, .ref b], []⟩)
      (fun A R s => s.heap.get? l = some { cls := .type "list", dict := d1, data := .seq xs n, slots := sl1 } ∧ s.heap.get? b = some { cls := .type "list", dict := d2, data := .seq ys m, slots := sl2 } ∧
        (∀ j (h1 : j < xs.size) (h2 : j < ys.size), EqM P w A.in1 s xs[j] ys[j]) ∧ R (.ok (.ret (.bool true))) s) := by
  intro A R s h
  obtain ⟨hp, g, d, tk, os⟩ := s
  obtain ⟨hl, hb, he, h⟩ := h
  have f3 := AutoSeq1.sub_list_list
  have hne : ¬ (xs.size != ys.size) = true := by simp [hsz]
  wp_walk using wpAny_loadPart' hl, wpAny_loadPart' hb
  refine ⟨plainId_quiet plain_eq_loop _, codeAny_builtin entry_eq_loop ?_⟩
  rw [Around.under_plainId plain_eq_loop _]
  exact eqm_loop l b xs ys n m d1 d2 sl1 sl2 hsz _ 0 rfl A R _ ⟨hl, hb, he, h⟩
theorem RcM.lists {A : Around} {s : Shared} {l b : Addr} {xs ys : Array Value} (hl : s.heap.IsList l xs) (hb : s.heap.IsList b ys) (hsz : xs.size = ys.size) (hu : A.units < cLine)
    (he : ∀ j (h1 : j < xs.size) (h2 : j < ys.size), EqM P w A.in1 s xs[j] ys[j]) : RcM P w A s (.ref l) (.ref b) := fun E Q q => by
  obtain ⟨⟨c1, d1, dt1, sl1⟩, ho, hc, n, hd⟩ := id hl
  obtain ⟨⟨c2, d2, dt2, sl2⟩, ho2, hc2, n2, hd2⟩ := id hb
  simp only at hc hd hc2 hd2
  subst hc hd hc2 hd2
  refine wpAny_richCompare_same_room (op := .Eq) ⟨_, ho, rfl⟩ ⟨_, ho2, rfl⟩ F.slot_list_eq (call_meetsIn F.slot_list_eq ⟨_, ho, rfl⟩ F.entry_list_eq (F.args_list_eq_2 _ _) (eqm_list l b xs ys n n2 d1 d2 sl1 sl2 hsz) ⟨ho, ho2, he, ?_⟩) hu
  exact ⟨(fun x => nomatch x), q⟩
end
section
variable {X : Cx} {pins : List (Addr × Obj)} {σ : St} {H : Hp} {s : Shared}
theorem nodup_nK {ks : List (List Nat)} (h : ks.Nodup) : (ks.map nK).Nodup := by
  induction ks with
  | nil => exact List.nodup_nil
  | cons k r ih =>
    rw [List.nodup_cons] at h
    rw [List.map_cons, List.nodup_cons]
    refine ⟨fun hm => ?_, ih h.2⟩
    obtain ⟨k', hk, e⟩ := List.mem_map.mp hm
    exact h.1 (nK_inj e ▸ hk)
end
end L2
namespace L2
open PySem PySem.Spec PyProof.Rows
mutual
def T.sz : T → Nat
  | .lst ts => T.szs ts + 1
  | .dic _ ts => T.szs ts + 1
  | .tup ts => T.szs ts + 1
  | .non => 1
  | .bl _ => 1
  | .int _ => 1
  | .str _ => 1
def T.szs : List T → Nat
  | [] => 0
  | t :: ts => T.sz t + T.szs ts
end
mutual
def Occ (H : Hp) (d : Addr) : V → T → Prop
  | v, .lst ts => v = .ref d ∨ ∃ a vs, v = .ref a ∧ H a = some (.lst vs) ∧ Occs H d vs ts
  | v, .dic _ ts => v = .ref d ∨ ∃ a ps, v = .ref a ∧ H a = some (.dK ps) ∧ Occs H d (ps.map (·.2)) ts
  | v, .tup ts => v = .ref d ∨ ∃ a vs, v = .ref a ∧ H a = some (.tup vs) ∧ Occs H d vs ts
  | _, .non => False
  | _, .bl _ => False
  | _, .int _ => False
  | _, .str _ => False
def Occs (H : Hp) (d : Addr) : List V → List T → Prop
  | v :: vs, t :: ts => Occ H d v t ∨ Occs H d vs ts
  | _, _ => False
end
mutual
/-- a store at an address that does not stand in it changes nothing of it -/
theorem Rep.away {H : Hp} {d : Addr} {o : HO} : ∀ (x : V) (t : T), Rep H x t → ¬ Occ H d x t → Rep (upd H d o) x t
  | _, .non, h, _ => h
  | _, .bl _, h, _ => h
  | _, .int _, h, _ => h
  | _, .str _, h, _ => h
  | x, .lst ts, ⟨a, vs, e, ha, hs⟩, n => by
    have ne : a ≠ d := fun z => n (.inl (by rw [e, z]))
    exact ⟨a, vs, e, by rw [upd_ne ne]; exact ha, Reps.away vs ts hs fun z => n (.inr ⟨a, vs, e, ha, z⟩)⟩
  | x, .dic ks ts, ⟨a, ps, e, ha, hk, hs⟩, n => by
    have ne : a ≠ d := fun z => n (.inl (by rw [e, z]))
    exact ⟨a, ps, e, by rw [upd_ne ne]; exact ha, hk, Reps.away _ ts hs fun z => n (.inr ⟨a, ps, e, ha, z⟩)⟩
  | x, .tup ts, ⟨a, vs, e, ha, hs⟩, n => by
    have ne : a ≠ d := fun z => n (.inl (by rw [e, z]))
    exact ⟨a, vs, e, by rw [upd_ne ne]; exact ha, Reps.away vs ts hs fun z => n (.inr ⟨a, vs, e, ha, z⟩)⟩
theorem Reps.away {H : Hp} {d : Addr} {o : HO} : ∀ (xs : List V) (ts : List T), Reps H xs ts → ¬ Occs H d xs ts → Reps (upd H d o) xs ts
  | _, [], h, _ => h
  | _, t :: ts, ⟨x, xr, e, h1, h2⟩, n => by
    subst e
    exact ⟨x, xr, rfl, Rep.away x t h1 fun z => n (.inl z), Reps.away xr ts h2 fun z => n (.inr z)⟩
end
mutual
theorem Occ.sub {H : Hp} {d : Addr} : ∀ (x : V) (t : T), Rep H x t → Occ H d x t → ∃ t', Rep H (.ref d) t' ∧ T.sz t' ≤ T.sz t
  | _, .non, _, h => h.elim
  | _, .bl _, _, h => h.elim
  | _, .int _, _, h => h.elim
  | _, .str _, _, h => h.elim
  | x, .lst ts, hr, h => by
    rcases h with e | ⟨a, vs, e, ha, h⟩
    · exact ⟨.lst ts, e ▸ hr, Nat.le_refl _⟩
    · obtain ⟨a', vs', e', ha', hs⟩ := hr
      rw [e] at e'; cases e'
      rw [ha] at ha'; cases ha'
      obtain ⟨t', q, l⟩ := Occs.sub vs ts hs h
      exact ⟨t', q, Nat.le_succ_of_le l⟩
  | x, .dic ks ts, hr, h => by
    rcases h with e | ⟨a, vs, e, ha, h⟩
    · exact ⟨.dic ks ts, e ▸ hr, Nat.le_refl _⟩
    · obtain ⟨a', vs', e', ha', _, hs⟩ := hr
      rw [e] at e'; cases e'
      rw [ha] at ha'; cases ha'
      obtain ⟨t', q, l⟩ := Occs.sub _ ts hs h
      exact ⟨t', q, Nat.le_succ_of_le l⟩
  | x, .tup ts, hr, h => by
    rcases h with e | ⟨a, vs, e, ha, h⟩
    · exact ⟨.tup ts, e ▸ hr, Nat.le_refl _⟩
    · obtain ⟨a', vs', e', ha', hs⟩ := hr
      rw [e] at e'; cases e'
      rw [ha] at ha'; cases ha'
      obtain ⟨t', q, l⟩ := Occs.sub vs ts hs h
      exact ⟨t', q, Nat.le_succ_of_le l⟩
theorem Occs.sub {H : Hp} {d : Addr} : ∀ (xs : List V) (ts : List T), Reps H xs ts → Occs H d xs ts → ∃ t', Rep H (.ref d) t' ∧ T.sz t' ≤ T.szs ts
  | xs, [], _, h => by cases xs <;> exact h.elim
  | _, t :: ts, ⟨x, xr, e, h1, h2⟩, h => by
    subst e
    rcases h with h | h
    · obtain ⟨t', q, l⟩ := Occ.sub x t h1 h
      exact ⟨t', q, Nat.le_trans l (Nat.le_add_right _ _)⟩
    · obtain ⟨t', q, l⟩ := Occs.sub xr ts h2 h
      exact ⟨t', q, Nat.le_trans l (Nat.le_add_left _ _)⟩
end
theorem nKs_inj : ∀ {a b : List (List Nat)}, a.map nK = b.map nK → a = b
  | [], [], _ => rfl
  | [], _ :: _, h => by simp at h
  | _ :: _, [], h => by simp at h
  | x :: a, y :: b, h => by
    rw [List.map_cons, List.map_cons] at h
    injection h with h1 h2
    rw [nK_inj h1, nKs_inj h2]
mutual
theorem Rep.one {H : Hp} : ∀ (t : T) (x : V) (t' : T), Rep H x t → Rep H x t' → t = t'
  | .non, x, t', h, h' => by
    cases (show x = .non from h)
    cases t' with
    | non => rfl
    | bl b => cases (show V.non = .bl b from h')
    | int b => cases (show V.non = .int b from h')
    | str b => cases (show V.non = .str (tx b) from h')
    | lst ts => obtain ⟨a, vs, e, _⟩ := h'; cases e
    | dic ks ts => obtain ⟨a, vs, e, _⟩ := h'; cases e
    | tup ts => obtain ⟨a, vs, e, _⟩ := h'; cases e
  | .bl c, x, t', h, h' => by
    cases (show x = .bl c from h)
    cases t' with
    | non => cases (show V.bl c = .non from h')
    | bl b => cases (show V.bl c = .bl b from h'); rfl
    | int b => cases (show V.bl c = .int b from h')
    | str b => cases (show V.bl c = .str (tx b) from h')
    | lst ts => obtain ⟨a, vs, e, _⟩ := h'; cases e
    | dic ks ts => obtain ⟨a, vs, e, _⟩ := h'; cases e
    | tup ts => obtain ⟨a, vs, e, _⟩ := h'; cases e
  | .int c, x, t', h, h' => by
    cases (show x = .int c from h)
    cases t' with
    | non => cases (show V.int c = .non from h')
    | bl b => cases (show V.int c = .bl b from h')
    | int b => cases (show V.int c = .int b from h'); rfl
    | str b => cases (show V.int c = .str (tx b) from h')
    | lst ts => obtain ⟨a, vs, e, _⟩ := h'; cases e
    | dic ks ts => obtain ⟨a, vs, e, _⟩ := h'; cases e
    | tup ts => obtain ⟨a, vs, e, _⟩ := h'; cases e
  | .str c, x, t', h, h' => by
    cases (show x = .str (tx c) from h)
    cases t' with
    | non => cases (show V.str (tx c) = .non from h')
    | bl b => cases (show V.str (tx c) = .bl b from h')
    | int b => cases (show V.str (tx c) = .int b from h')
    | str b =>
      have e : V.str (tx c) = .str (tx b) := h'
      injection e with e
      have e2 : ts (tx c) = ts (tx b) := by rw [e]
      rw [ts_tx, ts_tx] at e2
      rw [e2]
    | lst ts => obtain ⟨a, vs, e, _⟩ := h'; cases e
    | dic ks ts => obtain ⟨a, vs, e, _⟩ := h'; cases e
    | tup ts => obtain ⟨a, vs, e, _⟩ := h'; cases e
  | .lst us, x, t', ⟨a, vs, e, ha, hs⟩, h' => by
    subst e
    cases t' with
    | non => cases (show V.ref a = .non from h')
    | bl b => cases (show V.ref a = .bl b from h')
    | int b => cases (show V.ref a = .int b from h')
    | str b => cases (show V.ref a = .str (tx b) from h')
    | lst ts =>
      obtain ⟨a', vs', e', ha', hs'⟩ := h'
      cases e'
      rw [ha] at ha'; cases ha'
      rw [Reps.one us vs ts hs hs']
    | dic ks ts => obtain ⟨a', vs', e', ha', _⟩ := h'; cases e'; rw [ha] at ha'; cases ha'
    | tup ts => obtain ⟨a', vs', e', ha', _⟩ := h'; cases e'; rw [ha] at ha'; cases ha'
  | .dic js us, x, t', ⟨a, vs, e, ha, hk, hs⟩, h' => by
    subst e
    cases t' with
    | non => cases (show V.ref a = .non from h')
    | bl b => cases (show V.ref a = .bl b from h')
    | int b => cases (show V.ref a = .int b from h')
    | str b => cases (show V.ref a = .str (tx b) from h')
    | lst ts => obtain ⟨a', vs', e', ha', _⟩ := h'; cases e'; rw [ha] at ha'; cases ha'
    | dic ks ts =>
      obtain ⟨a', vs', e', ha', hk', hs'⟩ := h'
      cases e'
      rw [ha] at ha'; cases ha'
      rw [Reps.one us _ ts hs hs', nKs_inj (hk.symm.trans hk')]
    | tup ts => obtain ⟨a', vs', e', ha', _⟩ := h'; cases e'; rw [ha] at ha'; cases ha'
  | .tup us, x, t', ⟨a, vs, e, ha, hs⟩, h' => by
    subst e
    cases t' with
    | non => cases (show V.ref a = .non from h')
    | bl b => cases (show V.ref a = .bl b from h')
    | int b => cases (show V.ref a = .int b from h')
    | str b => cases (show V.ref a = .str (tx b) from h')
    | lst ts => obtain ⟨a', vs', e', ha', _⟩ := h'; cases e'; rw [ha] at ha'; cases ha'
    | dic ks ts => obtain ⟨a', vs', e', ha', _⟩ := h'; cases e'; rw [ha] at ha'; cases ha'
    | tup ts =>
      obtain ⟨a', vs', e', ha', hs'⟩ := h'
      cases e'
      rw [ha] at ha'; cases ha'
      rw [Reps.one us vs ts hs hs']
theorem Reps.one {H : Hp} : ∀ (us : List T) (xs : List V) (ts : List T), Reps H xs us → Reps H xs ts → us = ts
  | [], xs, ts, h, h' => by
    cases (show xs = [] from h)
    cases ts with
    | nil => rfl
    | cons t ts => obtain ⟨x, r, e, _⟩ := h'; cases e
  | u :: us, xs, ts, ⟨x, r, e, h1, h2⟩, h' => by
    subst e
    cases ts with
    | nil => cases (show x :: r = [] from h')
    | cons t ts =>
      obtain ⟨x', r', e', h1', h2'⟩ := h'
      cases e'
      rw [Rep.one u x t h1 h1', Reps.one us r ts h2 h2']
end
theorem valV_ix : ∀ {vs : List (Key × V)} {i : Nat} {k : Key} {y : V}, (vs.map (·.1)).Nodup → vs[i]? = some (k, y) → valV vs k = some y
  | [], i, k, y, _, h => by simp at h
  | p :: vs, 0, k, y, _, h => by
    simp only [List.getElem?_cons_zero, Option.some.injEq] at h
    subst h
    exact valV_pos rfl
  | p :: vs, i + 1, k, y, nd, h => by
    rw [List.map_cons, List.nodup_cons] at nd
    have h' : vs[i]? = some (k, y) := by simpa using h
    have ne : ¬ p.1 = k := fun e => nd.1 (List.mem_map.mpr ⟨(k, y), List.mem_of_getElem? h', e.symm⟩)
    rw [valV_neg ne]
    exact valV_ix nd.2 h'
mutual
theorem Nice.pure {d : Nat} : ∀ (t : T), Nice d t → T.pure t
  | .non, _ => True.intro
  | .bl _, _ => True.intro
  | .int _, _ => True.intro
  | .str _, _ => True.intro
  | .lst ts, h => NiceL.pure (d := d - 1) ts h.2.2
  | .dic ks ts, h => ⟨h.2.2.2.1, NiceL.pure (d := d - 1) ts h.2.2.2.2.2⟩
  | .tup _, h => h.elim
theorem NiceL.pure {d : Nat} : ∀ (ts : List T), NiceL d ts → T.pures ts
  | [], _ => True.intro
  | t :: ts, h => ⟨Nice.pure t h.1, NiceL.pure ts h.2⟩
end
mutual
theorem Nice.dep : ∀ (t : T) {d : Nat}, Nice d t → T.dep t ≤ d
  | .non, _, _ => Nat.zero_le _
  | .bl _, _, _ => Nat.zero_le _
  | .int _, _, _ => Nat.zero_le _
  | .str _, _, _ => Nat.zero_le _
  | .lst ts, d, h => by
    have := NiceL.dep ts h.2.2
    have := h.1
    show T.deps ts + 1 ≤ d
    omega
  | .dic ks ts, d, h => by
    have := NiceL.dep ts h.2.2.2.2.2
    have := h.1
    show T.deps ts + 1 ≤ d
    omega
  | .tup _, _, h => h.elim
theorem NiceL.dep : ∀ (ts : List T) {d : Nat}, NiceL d ts → T.deps ts ≤ d
  | [], _, _ => Nat.zero_le _
  | t :: ts, _, h => Nat.max_le.mpr ⟨Nice.dep t h.1, NiceL.dep ts h.2⟩
end
theorem one_pow5 (d : Nat) : 1 ≤ 5 ^ d := Nat.one_le_pow _ _ (by decide)
mutual
theorem Nice.sz : ∀ (t : T) {d : Nat}, Nice d t → T.sz t ≤ 5 ^ d
  | .non, d, _ => one_pow5 d
  | .bl _, d, _ => one_pow5 d
  | .int _, d, _ => one_pow5 d
  | .str _, d, _ => one_pow5 d
  | .lst ts, d, h => by
    obtain ⟨h1, h2, h3⟩ := h
    obtain ⟨e, rfl⟩ : ∃ e, d = e + 1 := ⟨d - 1, by omega⟩
    have := NiceL.sz ts h3
    have p := one_pow5 e
    show T.szs ts + 1 ≤ 5 ^ (e + 1)
    rw [Nat.add_sub_cancel] at this
    have q : ts.length * 5 ^ e ≤ 4 * 5 ^ e := Nat.mul_le_mul_right _ h2
    rw [Nat.pow_succ]; omega
  | .dic ks ts, d, h => by
    obtain ⟨h1, h2, _, _, _, h3⟩ := h
    obtain ⟨e, rfl⟩ : ∃ e, d = e + 1 := ⟨d - 1, by omega⟩
    have := NiceL.sz ts h3
    have p := one_pow5 e
    show T.szs ts + 1 ≤ 5 ^ (e + 1)
    rw [Nat.add_sub_cancel] at this
    have q : ts.length * 5 ^ e ≤ 4 * 5 ^ e := Nat.mul_le_mul_right _ h2
    rw [Nat.pow_succ]; omega
  | .tup _, _, h => h.elim
theorem NiceL.sz : ∀ (ts : List T) {d : Nat}, NiceL d ts → T.szs ts ≤ ts.length * 5 ^ d
  | [], _, _ => Nat.zero_le _
  | t :: ts, d, h => by
    have a := Nice.sz t h.1
    have b := NiceL.sz ts h.2
    show T.sz t + T.szs ts ≤ (ts.length + 1) * 5 ^ d
    rw [Nat.succ_mul]; omega
end
theorem tyS_tup {H : Hp} {a : Addr} {xs : List V} (h : H a = some (.tup xs)) : tyS H (.ref a) = some "tuple" := by
  show (match H a with | some (.lst _) => some "list" | some (.tup _) => some "tuple" | some (.dK _) => some "dict" | _ => none) = _; rw [h]
theorem tyS_lst {H : Hp} {a : Addr} {xs : List V} (h : H a = some (.lst xs)) : tyS H (.ref a) = some "list" := by
  show (match H a with | some (.lst _) => some "list" | some (.tup _) => some "tuple" | some (.dK _) => some "dict" | _ => none) = _; rw [h]
theorem tyS_dK {H : Hp} {a : Addr} {xs : List (Key × V)} (h : H a = some (.dK xs)) : tyS H (.ref a) = some "dict" := by
  show (match H a with | some (.lst _) => some "list" | some (.tup _) => some "tuple" | some (.dK _) => some "dict" | _ => none) = _; rw [h]
theorem Same.put {H H' : Hp} {p : Addr} (g : Same H H') (h : H p = none) (o : HO) : Same H (upd H' p o) := fun b u e => by
  rw [upd_ne (ne_of_none e h)]; exact g b u e
theorem take_succ_of {α : Type} {l : List α} {i : Nat} {a : α} (h : l[i]? = some a) : l.take (i + 1) = l.take i ++ [a] := by rw [List.take_add_one, h]; rfl
theorem T.sz_pos : ∀ t : T, 1 ≤ T.sz t
  | .non => Nat.le_refl _
  | .bl _ => Nat.le_refl _
  | .int _ => Nat.le_refl _
  | .str _ => Nat.le_refl _
  | .lst _ => Nat.le_add_left _ _
  | .dic _ _ => Nat.le_add_left _ _
  | .tup _ => Nat.le_add_left _ _
theorem T.szs_len : ∀ ts : List T, ts.length ≤ T.szs ts
  | [] => Nat.le_refl _
  | t :: ts => by
    have a := T.sz_pos t
    have b := T.szs_len ts
    show ts.length + 1 ≤ T.sz t + T.szs ts
    omega
theorem T.szs_le {t : T} : ∀ {ts : List T}, t ∈ ts → T.sz t ≤ T.szs ts
  | [], h => nomatch h
  | u :: ts, h => by
    show T.sz t ≤ T.sz u + T.szs ts
    rcases List.mem_cons.mp h with e | e
    · subst e; exact Nat.le_add_right _ _
    · exact Nat.le_trans (T.szs_le e) (Nat.le_add_left _ _)
mutual
theorem Rep.plain {H H' : Hp} (g : ∀ a u, (∀ o v, u ≠ HO.frz o v) → H a = some u → H' a = some u) : ∀ (x : V) (t : T), Rep H x t → Rep H' x t
  | _, .non, h => h
  | _, .bl _, h => h
  | _, .int _, h => h
  | _, .str _, h => h
  | _, .lst ts, ⟨a, vs, h1, h2, h3⟩ => ⟨a, vs, h1, g _ _ (by intro o v z; cases z) h2, Reps.plain g vs ts h3⟩
  | _, .dic ks ts, ⟨a, ps, h1, h2, h3, h4⟩ => ⟨a, ps, h1, g _ _ (by intro o v z; cases z) h2, h3, Reps.plain g _ ts h4⟩
  | _, .tup ts, ⟨a, vs, h1, h2, h3⟩ => ⟨a, vs, h1, g _ _ (by intro o v z; cases z) h2, Reps.plain g vs ts h3⟩
theorem Reps.plain {H H' : Hp} (g : ∀ a u, (∀ o v, u ≠ HO.frz o v) → H a = some u → H' a = some u) : ∀ (vs : List V) (ts : List T), Reps H vs ts → Reps H' vs ts
  | _, [], h => h
  | _, t :: ts, ⟨v, r, h1, h2, h3⟩ => ⟨v, r, h1, Rep.plain g v t h2, Reps.plain g r ts h3⟩
end
theorem Reps.thaw {H H' : Hp} {vs : List V} {ts : List T} (h : Reps H' vs ts) : Reps (L2.thaw H H') vs ts := Reps.plain (fun _ _ n e => thaw_of e n) vs ts h
theorem Rep.thaw {H H' : Hp} {v : V} {t : T} (h : Rep H' v t) : Rep (L2.thaw H H') v t := Rep.plain (fun _ _ n e => thaw_of e n) v t h
def T.kids : T → List T
  | .lst us => us
  | .dic _ us => us
  | _ => []
def T.next (ts : List T) : List T := (ts.map T.kids).flatten
theorem T.szs_append : ∀ (a b : List T), T.szs (a ++ b) = T.szs a + T.szs b
  | [], b => by show T.szs b = 0 + T.szs b; omega
  | t :: a, b => by
    show T.sz t + T.szs (a ++ b) = T.sz t + T.szs a + T.szs b
    rw [T.szs_append a b]; omega
theorem Reps.append {H : Hp} {ys : List V} {vs : List T} (h' : Reps H ys vs) : ∀ {xs : List V} {us : List T}, Reps H xs us → Reps H (xs ++ ys) (us ++ vs)
  | xs, [], h => by
    cases (show xs = [] from h)
    exact h'
  | _, u :: us, ⟨x, r, e, h1, h2⟩ => by
    subst e
    exact ⟨x, r ++ ys, rfl, h1, Reps.append h' h2⟩
def T.holds (t : T) : Bool := isSub (tyT t) "list" || isSub (tyT t) "dict"
def tMid (t : TS) : TS := fun D σ H => ∃ M : St → Hp → Prop, t { D with nx := M } σ H ∧ ∀ σ' H', M σ' H' → D.nx σ' H'
theorem ps_mid {X : Cx} {st : Stmt} {t : TS} (h : PS X st t) : PS X st (tMid t) := by
  intro pins s σ H D I ⟨M, q, m⟩
  refine thn (h pins s σ H _ I q) fun f s1 z => ?_
  cases f with
  | next => obtain ⟨σ', H', J, q⟩ := z; exact ⟨σ', H', J, m _ _ q⟩
  | brk => exact z
  | cont => exact z
  | ret u => exact z
end L2
namespace L2
open PySem PySem.Spec PyProof.Rows
section
variable {X : Cx}
end
end L2
namespace L2
open PySem PySem.Spec PyProof.Rows
section
variable {X : Cx}
end
end L2
namespace L2
open PySem PySem.Spec PyProof.Rows
inductive C where
  | non | bl (b : Bool) | int (i : Int) | str (x : List Nat) | row (xs : List C) | rcd (xs : List C) | odd
def C.ord : C → Nat
  | .non => 0
  | .bl _ => 1
  | .int _ => 2
  | .str _ => 3
  | .row _ => 4
  | .rcd _ => 5
  | .odd => 6
def lookT (k : List Nat) : List (List Nat) → List T → T
  | k' :: ks, c :: cs => if k' = k then c else lookT k ks cs
  | _, _ => .tup []
mutual
/-- names few enough to be sorted -/
def T.few : T → Prop
  | .dic ks ts => ks.Nodup ∧ ks.length < 64 ∧ ks.length = ts.length ∧ T.fews ts
  | .lst ts => ts.length ≤ 100000 ∧ T.fews ts
  | .tup _ => False
  | .non => True
  | .bl _ => True
  | .int _ => True
  | .str _ => True
def T.fews : List T → Prop
  | [] => True
  | t :: ts => T.few t ∧ T.fews ts
end
theorem lookT_ix {k : List Nat} : ∀ {ks : List (List Nat)} {ts : List T} {i : Nat} {t : T}, ks.Nodup → ks[i]? = some k → ts[i]? = some t → lookT k ks ts = t
  | [], _, i, _, _, h, _ => by simp at h
  | k' :: ks, [], i, _, _, _, h => by simp at h
  | k' :: ks, u :: ts, 0, t, nd, h1, h2 => by
    simp only [List.getElem?_cons_zero, Option.some.injEq] at h1 h2
    subst h1 h2
    exact if_pos rfl
  | k' :: ks, u :: ts, i + 1, t, nd, h1, h2 => by
    rw [List.nodup_cons] at nd
    have h1' : ks[i]? = some k := by simpa using h1
    have ne : ¬ k' = k := fun e => nd.1 (e ▸ List.mem_of_getElem? h1')
    show (if k' = k then u else lookT k ks ts) = t
    rw [if_neg ne]
    exact lookT_ix nd.2 h1' (by simpa using h2)
theorem fews_of {ts : List T} (h : ∀ t ∈ ts, T.few t) : T.fews ts := by
  induction ts with
  | nil => exact True.intro
  | cons t ts ih => exact ⟨h t List.mem_cons_self, ih fun u hu => h u (List.mem_cons_of_mem _ hu)⟩
/-- the name's thing, of a record laid out -/
theorem Rep.at_name {H : Hp} {ps : List (Key × V)} {ks : List (List Nat)} {us : List T} (nk : ks.Nodup) (hk : ps.map (·.1) = ks.map fun k => (Sum.inr (tx k) : Key)) (hs : Reps H (ps.map (·.2)) us) {k : List Nat} (hm : k ∈ ks) :
    ∃ v, valV ps (Sum.inr (tx k)) = some v ∧ Rep H v (lookT k ks us) := by
  obtain ⟨j, hj⟩ := List.mem_iff_getElem?.mp hm
  have hp : (ps.map (·.1))[j]? = some (Sum.inr (tx k) : Key) := by rw [hk, List.getElem?_map, hj]; rfl
  rw [List.getElem?_map] at hp
  cases hpj : ps[j]? with
  | none => rw [hpj] at hp; cases hp
  | some kv =>
    rw [hpj] at hp
    have ek : kv.1 = (Sum.inr (tx k) : Key) := Option.some.inj hp
    have hpj' : ps[j]? = some ((Sum.inr (tx k) : Key), kv.2) := by rw [hpj, ← ek]
    obtain ⟨t, ht, hr⟩ := hs.get (i := j) (v := kv.2) (by rw [List.getElem?_map, hpj]; rfl)
    refine ⟨kv.2, valV_ix (by rw [hk]; exact nodup_nK nk) hpj', ?_⟩
    rw [lookT_ix nk hj ht]
    exact hr
end L2
namespace L2
open PySem PySem.Spec PyProof.Rows
def LtM (P : Program) (w : World) (A : Around) (s : Shared) (u v : Value) (b : Bool) : Prop := ∀ (E : Value → Shared → Prop) (Q : Value → Shared → Prop), Q (.bool b) s → wpAny (model P w) A (richCompare .Lt u v) Q E s
def EqB (P : Program) (w : World) (A : Around) (s : Shared) (u v : Value) (b : Bool) : Prop := ∀ (E : Value → Shared → Prop) (Q : Bool → Shared → Prop), Q b s → wpAny (model P w) A (eqBool u v) Q E s
def RqM (P : Program) (w : World) (A : Around) (s : Shared) (u v : Value) (b : Bool) : Prop := ∀ (E : Value → Shared → Prop) (Q : Value → Shared → Prop), Q (.bool b) s → wpAny (model P w) A (richCompare .Eq u v) Q E s
/-- how two rows of values compare, pair by pair -/
inductive Zc (P : Program) (w : World) (A : Around) (s : Shared) : List Value → List Value → Int → Prop
  | nil : Zc P w A s [] [] 0
  | less {y : Value} {ys : List Value} : Zc P w A s [] (y :: ys) (-1)
  | more {x : Value} {xs : List Value} : Zc P w A s (x :: xs) [] 1
  | eq {x y : Value} {xs ys : List Value} {c : Int} : EqB P w A s x y true → Zc P w A s xs ys c → Zc P w A s (x :: xs) (y :: ys) c
  | ne {x y : Value} {xs ys : List Value} {c : Int} : EqB P w A s x y false → LtM P w A s x y (decide (c < 0)) → c ≠ 0 → Zc P w A s (x :: xs) (y :: ys) c
section
variable {P : Program} {w : World} {A : Around} {s : Shared} {E : Value → Shared → Prop}
theorem tup_lt {a b : Addr} {xs ys : Array Value} {c : Int} {R : Fin → Shared → Prop} (hx : IsTup s.heap a xs) (hy : IsTup s.heap b ys) (hz : Zc P w A s xs.toList ys.toList c) (h : R (.done (.ret (.bool (decide (c < 0))))) s) :
    wpAny (model P w) A (Builtin.«tuple.__lt__» ⟨[.ref a, .ref b], []⟩) R E s := by
  have hTb := hy.typeIs
  obtain ⟨oa, hoa, _, na, hda⟩ := hx
  obtain ⟨ob, hob, _, nb, hdb⟩ := hy
  show wpAny _ _ (isInstance (.ref b) (.type "tuple") >>= _) _ _ s
  refine wpAny_bind (wpAny_isInstance hTb isSubtype_tuple_tuple ?_)
  simp only [Bool.not_true, Bool.false_eq_true, if_false]
  refine wpAny_bind (wpAny_tupleItemsOf hoa hda ?_)
  refine wpAny_bind (wpAny_tupleItemsOf hob hdb ?_)
  refine wpAny_bind ?_
  refine wpAny_forIn_list _
    (fun rest r s' => r.1 = none ∧ s' = s ∧ ∃ xs' ys', rest = List.zip xs' ys' ∧ Zc P w A s xs' ys' c ∧ xs'.length + ys.size = ys'.length + xs.size)
    _ ?_ ?_ _ _ ⟨rfl, rfl, xs.toList, ys.toList, rfl, hz, by simp; omega⟩
  · rintro ⟨u, v⟩ rest r s' ⟨hr, rfl, xs', ys', hz', hc, hlen⟩
    cases hc with
    | nil => simp at hz'
    | less => simp at hz'
    | more => simp at hz'
    | eq he hc' =>
      simp only [List.zip_cons_cons, List.cons.injEq, Prod.mk.injEq] at hz'
      obtain ⟨⟨rfl, rfl⟩, rfl⟩ := hz'
      refine wpAny_bind (he _ _ ?_)
      simp only [Bool.not_true, Bool.false_eq_true, if_false]
      exact wpAny_pure ⟨rfl, rfl, _, _, rfl, hc', by simp only [List.length_cons] at hlen; omega⟩
    | ne he hl _ =>
      simp only [List.zip_cons_cons, List.cons.injEq, Prod.mk.injEq] at hz'
      obtain ⟨⟨rfl, rfl⟩, rfl⟩ := hz'
      refine wpAny_bind (he _ _ ?_)
      simp only [Bool.not_false, if_true]
      refine wpAny_bind (wpAny_rule (wpAny_bind (hl _ _ ?_)))
      exact wpAny_bind (wpAny_pure (wpAny_pure (wpAny_pure h)))
  · rintro ⟨r1, r2⟩ s' ⟨hr, rfl, xs', ys', hz', hc, hlen⟩
    simp only at hr
    subst hr
    refine wpAny_pure ?_
    have hfin : (decide (xs.size < ys.size)) = decide (c < 0) := by
      cases hc with
      | nil => simp only [List.length_nil] at hlen; exact decide_eq_decide.mpr ⟨fun h => by omega, fun h => by omega⟩
      | less => simp only [List.length_nil, List.length_cons] at hlen; exact decide_eq_decide.mpr ⟨fun h => by omega, fun h => by omega⟩
      | more => simp only [List.length_nil, List.length_cons] at hlen; exact decide_eq_decide.mpr ⟨fun h => by omega, fun h => by omega⟩
      | eq => simp at hz'
      | ne => simp at hz'
    show R (.done (.ret (.bool (decide (xs.size < ys.size))))) s'
    rw [hfin]; exact h
theorem tup_eq {a b : Addr} {xs ys : Array Value} {c : Int} {R : Fin → Shared → Prop} (hx : IsTup s.heap a xs) (hy : IsTup s.heap b ys) (hz : Zc P w A s xs.toList ys.toList c) (h : R (.done (.ret (.bool (decide (c = 0))))) s) :
    wpAny (model P w) A (Builtin.«tuple.__eq__» ⟨[.ref a, .ref b], []⟩) R E s := by
  have hTb := hy.typeIs
  obtain ⟨oa, hoa, _, na, hda⟩ := hx
  obtain ⟨ob, hob, _, nb, hdb⟩ := hy
  show wpAny _ _ (isInstance (.ref b) (.type "tuple") >>= _) _ _ s
  refine wpAny_bind (wpAny_isInstance hTb isSubtype_tuple_tuple ?_)
  simp only [Bool.not_true, Bool.false_eq_true, if_false]
  refine wpAny_bind (wpAny_tupleItemsOf hoa hda ?_)
  refine wpAny_bind (wpAny_tupleItemsOf hob hdb ?_)
  refine wpAny_bind ?_
  refine wpAny_forIn_list _
    (fun rest r s' => r.1 = none ∧ s' = s ∧ ∃ xs' ys', rest = List.zip xs' ys' ∧ Zc P w A s xs' ys' c ∧ xs'.length + ys.size = ys'.length + xs.size)
    _ ?_ ?_ _ _ ⟨rfl, rfl, xs.toList, ys.toList, rfl, hz, by simp; omega⟩
  · rintro ⟨u, v⟩ rest r s' ⟨hr, rfl, xs', ys', hz', hc, hlen⟩
    cases hc with
    | nil => simp at hz'
    | less => simp at hz'
    | more => simp at hz'
    | eq he hc' =>
      simp only [List.zip_cons_cons, List.cons.injEq, Prod.mk.injEq] at hz'
      obtain ⟨⟨rfl, rfl⟩, rfl⟩ := hz'
      refine wpAny_bind (he _ _ ?_)
      simp only [Bool.not_true, Bool.false_eq_true, if_false]
      exact wpAny_pure ⟨rfl, rfl, _, _, rfl, hc', by simp only [List.length_cons] at hlen; omega⟩
    | ne he hl hn =>
      simp only [List.zip_cons_cons, List.cons.injEq, Prod.mk.injEq] at hz'
      obtain ⟨⟨rfl, rfl⟩, rfl⟩ := hz'
      refine wpAny_bind (he _ _ ?_)
      simp only [Bool.not_false, if_true]
      rw [decide_eq_false hn] at h
      exact wpAny_bind (wpAny_pure (wpAny_pure (wpAny_pure h)))
  · rintro ⟨r1, r2⟩ s' ⟨hr, rfl, xs', ys', hz', hc, hlen⟩
    simp only at hr
    subst hr
    refine wpAny_pure ?_
    have hfin : (xs.size == ys.size) = decide (c = 0) := by
      rw [show (xs.size == ys.size) = decide (xs.size = ys.size) from rfl]
      cases hc with
      | nil => simp only [List.length_nil] at hlen; exact decide_eq_decide.mpr ⟨fun h => rfl, fun h => by omega⟩
      | less => simp only [List.length_nil, List.length_cons] at hlen; exact decide_eq_decide.mpr ⟨fun h => by omega, fun h => by omega⟩
      | more => simp only [List.length_nil, List.length_cons] at hlen; exact decide_eq_decide.mpr ⟨fun h => by omega, fun h => by omega⟩
      | eq => simp at hz'
      | ne => simp at hz'
    show R (.done (.ret (.bool (xs.size == ys.size)))) s'
    rw [hfin]; exact h
theorem LtM.tups {a b : Addr} {xs ys : Array Value} {c : Int} (hx : IsTup s.heap a xs) (hy : IsTup s.heap b ys) (hu : A.units < cLine) (hz : Zc P w A.in1 s xs.toList ys.toList c) : LtM P w A s (.ref a) (.ref b) (decide (c < 0)) := fun E Q q =>
  wpAny_richCompare_same_room (op := .Lt) hx.typeIs hy.typeIs F.slot_tuple_lt (wpAny_call_entry F.slot_tuple_lt hx.typeIs F.entry_tuple_lt (tup_lt hx hy hz ⟨_, rfl, (fun e => nomatch e), q⟩) (F.args_tuple_lt_2 _ _)) hu
theorem RqM.tups {a b : Addr} {xs ys : Array Value} {c : Int} (hx : IsTup s.heap a xs) (hy : IsTup s.heap b ys) (hu : A.units < cLine) (hz : Zc P w A.in1 s xs.toList ys.toList c) : RqM P w A s (.ref a) (.ref b) (decide (c = 0)) := fun E Q q =>
  wpAny_richCompare_same_room (op := .Eq) hx.typeIs hy.typeIs F.slot_tuple_eq (wpAny_call_entry F.slot_tuple_eq hx.typeIs F.entry_tuple_eq (tup_eq hx hy hz ⟨_, rfl, (fun e => nomatch e), q⟩) (F.args_tuple_eq_2 _ _)) hu
theorem EqB.refs {a b : Addr} {k : Bool} (he : a = b → k = true) (h : a ≠ b → RqM P w A s (.ref a) (.ref b) k) : EqB P w A s (.ref a) (.ref b) k := by
  by_cases e : a = b
  · rw [he e]; subst e; exact fun E Q q => SeqAt.EqAt.same _ _ _ E Q q
  · intro E Q q
    unfold eqBool
    refine wpAny_holding (wpAny_ite_split (fun z => ?_) fun _ => wpAny_bind (h e E _ (wpAny_truthy_bool q)))
    have := eq_of_beq z
    injection this with this
    exact absurd this e
end
section
variable {X : Cx} {pins : List (Addr × Obj)} {σ : St} {H : Hp} {s : Shared}
end
end L2
namespace L2
open PySem PySem.Spec PyProof.Rows
mutual
def C.ok : C → Prop
  | .odd => False
  | .row cs => C.oks cs
  | .rcd cs => C.okps cs
  | .non => True
  | .bl _ => True
  | .int _ => True
  | .str _ => True
def C.oks : List C → Prop
  | [] => True
  | c :: cs => C.ok c ∧ C.oks cs
def C.okps : List C → Prop
  | [] => True
  | c :: cs => C.okq c ∧ C.okps cs
def C.okq : C → Prop
  | .row cs => C.okl cs
  | .non => False
  | .bl _ => False
  | .int _ => False
  | .str _ => False
  | .rcd _ => False
  | .odd => False
def C.okl : List C → Prop
  | [] => False
  | c :: cs => (∃ k, c = .str k) ∧ cs.length = 1 ∧ C.oks cs
end
theorem oks_of {cs : List C} (h : ∀ c ∈ cs, C.ok c) : C.oks cs := by
  induction cs with
  | nil => rw [C.oks]; exact True.intro
  | cons c cs ih => rw [C.oks]; exact ⟨h c List.mem_cons_self, ih fun u hu => h u (List.mem_cons_of_mem _ hu)⟩
theorem oks_mem {cs : List C} (h : C.oks cs) {c : C} (hc : c ∈ cs) : C.ok c := by
  induction cs with
  | nil => cases hc
  | cons d cs ih =>
    rw [C.oks] at h
    rcases List.mem_cons.mp hc with e | e
    · subst e; exact h.1
    · exact ih h.2 e
theorem T.deps_of {n : Nat} {ts : List T} (h : ∀ t ∈ ts, T.dep t ≤ n) : T.deps ts ≤ n := by
  induction ts with
  | nil => exact Nat.zero_le _
  | cons t ts ih => exact Nat.max_le.mpr ⟨h t List.mem_cons_self, ih fun u hu => h u (List.mem_cons_of_mem _ hu)⟩
section
variable {X : Cx}
/-- a tuple of texts among the module's names -/
def TupG (K : PySem.W.Frag) (mg : Str → Option Value) (x : Str) (ss : List Str) (a : Addr) : Prop := mg x = some (.ref a) ∧ ∃ (o : Obj) (its : Array Value) (n : Nat), K.lookup a = some o ∧ o.cls = .type "tuple" ∧ o.dict = none ∧ o.data = .seq its n ∧ its.size ≤ sizeLine ∧ Vals (ss.map V.str) its.toList
theorem TupG.sq {K : PySem.W.Frag} {mg : Str → Option Value} {x : Str} {ss : List Str} {a : Addr} {H : Hp} (h : TupG K mg x ss a) : SqT K H a (ss.map V.str) := by
  obtain ⟨_, o, its, n, h1, h2, _, h4, h5, h6⟩ := h
  exact .inr ⟨o, its, n, h1, h2, h4, h5, h6⟩
theorem TupG.ty {K : PySem.W.Frag} {mg : Str → Option Value} {x : Str} {ss : List Str} {a : Addr} {H : Hp} (h : TupG K mg x ss a) : tyV K "tuple" (.ref a) H := by
  obtain ⟨_, o, its, n, h1, h2, h3, _⟩ := h
  exact .inr (.inl ⟨rfl, o, h1, h2, h3⟩)
end
end L2
namespace L2
open PySem PySem.Spec PyProof.Rows
section
variable {X : Cx} {e k : Expr} {te : TE} {tk : TO} {pos p2 : Pos}
end
end L2
namespace L2
open PySem PySem.Spec PyProof.Rows
mutual
/-- small numbers, short texts -/
def T.calm : T → Prop
  | .int i => -(10 ^ 12) ≤ i ∧ i ≤ 10 ^ 12
  | .str x => x.length ≤ 100
  | .lst ts => T.calms ts
  | .dic _ ts => T.calms ts
  | .tup ts => T.calms ts
  | .non => True
  | .bl _ => True
def T.calms : List T → Prop
  | [] => True
  | t :: ts => T.calm t ∧ T.calms ts
end
theorem T.calms_of {ts : List T} (h : ∀ t ∈ ts, T.calm t) : T.calms ts := by
  induction ts with
  | nil => exact True.intro
  | cons t ts ih => exact ⟨h t List.mem_cons_self, ih fun u hu => h u (List.mem_cons_of_mem _ hu)⟩
/-- what is drawn and varied: d deep at most, z things in all at most -/
structure Fit (d z : Nat) (t : T) : Prop where
  few : T.few t
  calm : T.calm t
  dep : T.dep t ≤ d
  sz : T.sz t ≤ z
theorem few_pure : ∀ (n : Nat) (t : T), T.dep t ≤ n → T.few t → T.pure t := by
  intro n
  induction n with
  | zero =>
    intro t hd hf
    cases t with
    | lst ts => exact absurd hd (Nat.not_succ_le_zero _)
    | dic ks ts => exact absurd hd (Nat.not_succ_le_zero _)
    | tup ts => exact hf.elim
    | _ => exact True.intro
  | succ n ih =>
    have all : ∀ ts : List T, T.deps ts ≤ n → T.fews ts → T.pures ts := by
      intro ts
      induction ts with
      | nil => intros; exact True.intro
      | cons t ts ih2 =>
        intro hd hf
        have hd' : max (T.dep t) (T.deps ts) ≤ n := hd
        exact ⟨ih t (by omega) hf.1, ih2 (by omega) hf.2⟩
    intro t hd hf
    cases t with
    | lst ts => exact all ts (Nat.le_of_succ_le_succ hd) hf.2
    | dic ks ts => exact ⟨hf.1, all ts (Nat.le_of_succ_le_succ hd) hf.2.2.2⟩
    | tup ts => exact hf.elim
    | _ => exact True.intro
theorem Fit.pure {d z : Nat} {t : T} (h : Fit d z t) : T.pure t := few_pure d t h.dep h.few
theorem Fit.mono {d z d' z' : Nat} {t : T} (h : Fit d z t) (hd : d ≤ d') (hz : z ≤ z') : Fit d' z' t := ⟨h.few, h.calm, Nat.le_trans h.dep hd, Nat.le_trans h.sz hz⟩
end L2
namespace L2
open PySem PySem.Spec PyProof.Rows
section
variable {P : Program} {w : World}
end
section
variable {X : Cx}
end
end L2
namespace L2
open PySem PySem.Spec PyProof.Rows
theorem cut_to (xs : List V) (i : Nat) : cutV xs none (some (i : Int)) = xs.take i := by
  unfold cutV
  rw [HT.sIx_nat]
  show (xs.drop 0).take (min i xs.length - 0) = _
  rw [List.drop_zero, Nat.sub_zero]
  by_cases h : i ≤ xs.length
  · rw [Nat.min_eq_left h]
  · rw [Nat.min_eq_right (by omega), List.take_length, List.take_of_length_le (by omega)]
theorem cut_from (xs : List V) (i : Nat) : cutV xs (some (i : Int)) none = xs.drop i := by
  unfold cutV
  rw [HT.sIx_nat]
  show (xs.drop (min i xs.length)).take (xs.length - min i xs.length) = _
  by_cases h : i ≤ xs.length
  · rw [Nat.min_eq_left h, List.take_of_length_le (by rw [List.length_drop]; omega)]
  · rw [Nat.min_eq_right (by omega), List.drop_length, List.drop_of_length_le (by omega), List.take_nil]
theorem Reps.take {H : Hp} : ∀ {xs : List V} {us : List T} (i : Nat), Reps H xs us → Reps H (xs.take i) (us.take i)
  | xs, us, 0, _ => by rw [List.take_zero, List.take_zero]; exact rfl
  | xs, [], i + 1, h => by cases (show xs = [] from h); exact rfl
  | xs, u :: us, i + 1, ⟨x, r, e, h1, h2⟩ => by
    subst e
    rw [List.take_succ_cons, List.take_succ_cons]
    exact ⟨x, _, rfl, h1, Reps.take i h2⟩
theorem Reps.drop {H : Hp} : ∀ {xs : List V} {us : List T} (i : Nat), Reps H xs us → Reps H (xs.drop i) (us.drop i)
  | xs, us, 0, h => by rw [List.drop_zero, List.drop_zero]; exact h
  | xs, [], i + 1, h => by cases (show xs = [] from h); exact rfl
  | xs, u :: us, i + 1, ⟨x, r, e, h1, h2⟩ => by
    subst e
    rw [List.drop_succ_cons, List.drop_succ_cons]
    exact Reps.drop i h2
theorem Reps.reverse {H : Hp} : ∀ {xs : List V} {us : List T}, Reps H xs us → Reps H xs.reverse us.reverse
  | xs, [], h => by cases (show xs = [] from h); exact rfl
  | xs, u :: us, ⟨x, r, e, h1, h2⟩ => by
    subst e
    rw [List.reverse_cons, List.reverse_cons]
    exact Reps.snoc h1 (Reps.reverse h2)
theorem szs_append : ∀ (a b : List T), T.szs (a ++ b) = T.szs a + T.szs b
  | [], b => by show T.szs b = 0 + T.szs b; omega
  | u :: a, b => by
    show T.sz u + T.szs (a ++ b) = T.sz u + T.szs a + T.szs b
    rw [szs_append a b]; omega
theorem sz_pos : ∀ (t : T), 1 ≤ T.sz t
  | .lst ts => Nat.succ_le_succ (Nat.zero_le _)
  | .dic _ ts => Nat.succ_le_succ (Nat.zero_le _)
  | .tup ts => Nat.succ_le_succ (Nat.zero_le _)
  | .non => Nat.le_refl _
  | .bl _ => Nat.le_refl _
  | .int _ => Nat.le_refl _
  | .str _ => Nat.le_refl _
theorem len_szs : ∀ (ts : List T), ts.length ≤ T.szs ts
  | [] => Nat.le_refl _
  | t :: ts => by
    have := len_szs ts
    have := sz_pos t
    show ts.length + 1 ≤ T.sz t + T.szs ts
    omega
/-- a row made of fitting things fits -/
theorem Fit.row {d z : Nat} {us : List T} (h : ∀ u ∈ us, T.few u ∧ T.calm u ∧ T.dep u + 1 ≤ d) (hd : 1 ≤ d) (hz : T.szs us + 1 ≤ z) (hl : T.szs us ≤ 100000) : Fit d z (.lst us) := by
  refine ⟨⟨Nat.le_trans (len_szs us) hl, fews_of fun u hu => (h u hu).1⟩, T.calms_of fun u hu => (h u hu).2.1, ?_, hz⟩
  have : T.deps us ≤ d - 1 := T.deps_of fun u hu => by have := (h u hu).2.2; omega
  show T.deps us + 1 ≤ d
  omega
end L2
namespace L2
open PySem PySem.Spec PyProof.Rows
section
variable {X : Cx} {pins : List (Addr × Obj)} {σ σ' : St} {H H' : Hp} {s s' : Shared}
end
end L2
namespace L2
open PySem PySem.Spec PyProof.Rows
end L2
namespace L2
open PySem PySem.Spec PyProof.Rows PySem.Builtin PySem.Builtin.Str
section
variable {prog : Program} {w : World} {A : Around} {E : Value → Shared → Prop} {s : Shared} {x y : Str} {t u : Tok} {Q : Value → Shared → Prop}
/-- parted by a text: the new list lies at the heap's end -/
theorem split_new (hy : (y.length == 0) = false) (hx : x.length ≤ 1000000)
    (q : ∀ (l : List (Str × Tok)) (k : Nat), l.map (·.1) = Txt.split x y → Q (.ref s.heap.objs.size) { s with heap := s.heap.push { cls := .type "list", data := .seq (strValues l).toArray }, toks := k }) :
    wpAny (model prog w) A (call (.builtin "str.split") [.str x t, .str y u]) Q E s := by
  have hz : x.length ≤ sizeLine := by rw [sizeLine_eq]; omega
  cases c1 : (decide (x.length < y.length) || decide (PySem.Builtin.Str.strKind x < PySem.Builtin.Str.strKind y)) with
  | true =>
    refine call_meets F.slot_str_split (typeIs_str _ _ _) F.entry_str_split (F.args_str_split_2 _ _)
      (meets_str_split_cannot_occur x y t u c1) ?_
    exact q [(x, t)] s.toks (by unfold Txt.split; rw [if_pos c1]; rfl)
  | false =>
    have n1 : ¬ ((decide (x.length < y.length) || decide (PySem.Builtin.Str.strKind x < PySem.Builtin.Str.strKind y)) = true) := by rw [c1]; exact Bool.false_ne_true
    cases c2 : (occurrences x y 0 x.length (x.length + 1)).isEmpty with
    | true =>
      refine call_meets F.slot_str_split (typeIs_str _ _ _) F.entry_str_split (F.args_str_split_2 _ _)
        (meets_str_split_not_found x y t u c1 hy c2) ?_
      exact q [(x, t)] s.toks (by unfold Txt.split; rw [if_neg n1, if_pos c2]; rfl)
    | false =>
      have n2 : ¬ ((occurrences x y 0 x.length (x.length + 1)).isEmpty = true) := by rw [c2]; exact Bool.false_ne_true
      have hn : (partsBetween x (occurrences x y 0 x.length (x.length + 1)) y.length).length ≤ sizeLine := by
        have := StrLaws.occ_length_le x y 0 x.length (x.length + 1)
        rw [length_partsBetween, sizeLine_eq]; omega
      refine call_meets F.slot_str_split (typeIs_str _ _ _) F.entry_str_split (F.args_str_split_2 _ _)
        (meets_str_split_sep x y t u c1 hy c2 hz hn) ?_
      have z := q (numbered s.toks (partsBetween x (occurrences x y 0 x.length (x.length + 1)) y.length)) (s.toks + (partsBetween x (occurrences x y 0 x.length (x.length + 1)) y.length).length)
        ((numbered_texts _ _).trans (by unfold Txt.split; rw [if_neg n1, if_neg n2]))
      rw [← strsFrom_eq] at z
      exact z
end
theorem kind_pos (x : Str) : 1 ≤ PySem.Builtin.Str.strKind x := by
  unfold PySem.Builtin.Str.strKind
  split
  · exact Nat.le_refl _
  · split <;> decide
theorem glue_one (z x : Str) : glued z [x] = x := rfl
/-- the quote's parts, glued by two quotes: each quote told twice -/
theorem join_split_is (x : Str) : Txt.join (Str.ofString "''") (Txt.split x (Str.ofString "'")) = Txt.replace x (Str.ofString "'") (Str.ofString "''") := by
  have e0 : ((Str.ofString "'").length == 0) = false := by decide +kernel
  have k1 : PySem.Builtin.Str.strKind (Str.ofString "'") = 1 := by decide +kernel
  have l1 : (Str.ofString "'").length = 1 := by decide +kernel
  unfold Txt.join Txt.split Txt.replace
  cases c1 : (decide (x.length < (Str.ofString "'").length) || decide (PySem.Builtin.Str.strKind x < PySem.Builtin.Str.strKind (Str.ofString "'"))) with
  | true =>
    have hx : x = tx [] := by
      have := kind_pos x
      simp only [Bool.or_eq_true, decide_eq_true_eq, k1, l1] at c1
      have h0 : x.length = 0 := by omega
      apply str_ext
      rw [ts_len] at h0
      exact List.eq_nil_of_length_eq_zero h0
    subst hx
    rw [if_pos rfl, glue_one]
    decide +kernel
  | false =>
    rw [if_neg Bool.false_ne_true]
    cases c2 : (occurrences x (Str.ofString "'") 0 x.length (x.length + 1)).isEmpty with
    | true => rw [if_pos rfl, Bool.true_or, if_pos rfl, glue_one]
    | false => rw [if_neg Bool.false_ne_true, e0, Bool.false_and, Bool.or_false, if_neg Bool.false_ne_true]
theorem replace_len (x y z : Str) : (Txt.replace x y z).length ≤ x.length + (x.length + 1) * z.length := by
  unfold Txt.replace
  split
  · omega
  · have h1 := StrLaws.occ_length_le x y 0 x.length (x.length + 1)
    have hy : (glued y (partsBetween x (occurrences x y 0 x.length (x.length + 1)) y.length)).length = x.length := by rw [StrLaws.glued_between_self]
    rw [size_glued, length_partsBetween, Nat.add_sub_cancel] at hy
    rw [size_glued, length_partsBetween, Nat.add_sub_cancel]
    have h2 : (occurrences x y 0 x.length (x.length + 1)).length * z.length ≤ (x.length + 1) * z.length := Nat.mul_le_mul_right _ h1
    omega
section
variable {X : Cx}
def rJoinG (K : PySem.W.Frag) : V → List V → Hp → VK → Prop := fun x vs H Q => ∃ (g : Str) (p : Addr) (ys : List Str), x = .str g ∧ vs = [.ref p] ∧ SqL K H p (ys.map V.str) ∧ (ys.map (·.length)).sum + ys.length * g.length ≤ 16777216 ∧ Q (.str (Txt.join g ys)) H
theorem mt_joinG : MtR X "str.join" (rJoinG X.K) := by
  intro pins s σ H x vs v us Q I rx rv h
  obtain ⟨g, p, ys, rfl, rfl, hq, hz, q⟩ := h
  obtain ⟨t, rfl⟩ := rx
  obtain ⟨u, rfl, ru⟩ := rv.one
  cases ru
  obtain ⟨its, r, pl, _⟩ := I.list hq
  exact join_list (ys := ys) pl.isList (by simpa using strsAre_of r) hz fun t' k => ⟨.str (Txt.join g ys), H, I.tok _, ⟨_, rfl⟩, q⟩
def rSplit : V → List V → Hp → VK → Prop := fun x vs H Q => ∃ (z y : Str), x = .str z ∧ vs = [.str y] ∧ y.length ≠ 0 ∧ z.length ≤ 1000000 ∧ ∀ l, H l = none → Q (.ref l) (upd H l (.lst ((Txt.split z y).map V.str)))
theorem strVals_of : ∀ (l : List (Str × Tok)), Vals ((l.map (·.1)).map V.str) (strValues l)
  | [] => .nil
  | p :: l => .cons ⟨p.2, rfl⟩ (strVals_of l)
theorem mt_split : MtR X "str.split" rSplit := by
  intro pins s σ H x vs v us Q I rx rv h
  obtain ⟨z, y, rfl, rfl, hy, hz, q⟩ := h
  obtain ⟨t, rfl⟩ := rx
  obtain ⟨u, rfl, t', rfl⟩ := rv.one
  refine split_new (by simp [hy]) hz fun l k e => ?_
  have hf : H s.heap.objs.size = none := I.hok.fresh (Nat.le_refl _)
  refine ⟨.ref s.heap.objs.size, upd H s.heap.objs.size (.lst ((Txt.split z y).map V.str)), I.laid (fun b u e => Heap.get?_push_of_some _ e) (Nat.le_refl _) ?_, rfl, q _ hf⟩
  refine ⟨?_, strValues l, 0, ?_, Heap.get?_push_size _ rfl⟩
  · have := split_le z y
    rw [List.length_map, sizeLine_eq]; omega
  · rw [← e]; exact strVals_of l
end
structure Bl3 (mg : Str → Option Value) : Prop extends Bl2 mg where
  abs : mg "abs" = none
end L2
namespace L2
open PySem PySem.Spec PyProof.Rows
def cellF (ns : List Int) (k : Int) : Int :=
  let m := if ns = [] then k * 7919 else (k * 7919 + k / ns.length * 104729 + ns.getD (k % ns.length).toNat 0 * 48271) % 1000003
  (m * m / 11 + 13 * m) % 1000003
theorem cellF_lo (ns : List Int) (k : Int) : 0 ≤ cellF ns k := Int.emod_nonneg _ (by decide)
theorem cellF_hi (ns : List Int) (k : Int) : cellF ns k < 1000003 := Int.emod_lt_of_pos _ (by decide)
end L2
namespace L2
open PySem PySem.Spec PyProof.Rows PySem.Builtin PySem.Builtin.Str
mutual
/-- numbers, texts and names within their bounds, records whole -/
def T.okw : T → Prop
  | .non => True
  | .bl _ => True
  | .int i => -(10 ^ 12) ≤ i ∧ i ≤ 10 ^ 12
  | .str x => x.length ≤ 30
  | .lst ts => T.okws ts
  | .dic ks ts => ks.Nodup ∧ ks.length < 64 ∧ ks.length = ts.length ∧ (∀ k ∈ ks, k.length ≤ 12) ∧ T.okws ts
  | .tup _ => False
def T.okws : List T → Prop
  | [] => True
  | t :: ts => T.okw t ∧ T.okws ts
end
theorem okName_len {k : List Nat} (h : okName k = true) : k.length ≤ 12 := by
  unfold okName at h
  simp only [Bool.and_eq_true, decide_eq_true_eq] at h
  omega
theorem okText_len {k : List Nat} (h : okText k = true) : k.length ≤ 30 := by
  unfold okText at h
  simp only [Bool.and_eq_true, decide_eq_true_eq] at h
  omega
mutual
theorem Nice.okw {d : Nat} : ∀ (t : T), Nice d t → T.okw t
  | .non, _ => True.intro
  | .bl _, _ => True.intro
  | .int _, h => h
  | .str _, h => okText_len h
  | .lst ts, h => NiceL.okw ts h.2.2
  | .dic ks ts, h => by
    obtain ⟨_, h1, h2, h3, h4, h5⟩ := h
    exact ⟨h3, by omega, h2, fun k hk => okName_len (h4 k hk), NiceL.okw ts h5⟩
  | .tup _, h => h.elim
theorem NiceL.okw {d : Nat} : ∀ (ts : List T), NiceL d ts → T.okws ts
  | [], _ => True.intro
  | t :: ts, h => ⟨Nice.okw t h.1, NiceL.okw ts h.2⟩
end
theorem app_len (x y : Str) : (x ++ y).length = x.length + y.length := by
  rw [← tx_ts x, ← tx_ts y, app_tx, tx_len, tx_len, tx_len, List.length_append]
theorem split_sum (x y : Str) : ((Txt.split x y).map (·.length)).sum ≤ x.length := by
  unfold Txt.split
  split
  · simp
  · split
    · simp
    · have hy : (glued y (partsBetween x (occurrences x y 0 x.length (x.length + 1)) y.length)).length = x.length := by rw [StrLaws.glued_between_self]
      rw [size_glued] at hy
      omega
end L2
namespace L2
open PySem PySem.Spec PyProof.Rows
section
variable {X : Cx}
end
end L2
namespace L2
open PySem PySem.Spec PyProof.Rows
def scv : T → V
  | .int i => .int i
  | .str x => .str (tx x)
  | _ => .non
def Sc (t : T) : Prop := (∃ i, t = .int i) ∨ ∃ x, t = .str x
theorem Sc.rep {H : Hp} {t : T} (h : Sc t) : Rep H (scv t) t := by
  rcases h with ⟨i, rfl⟩ | ⟨x, rfl⟩ <;> rfl
theorem Sc.reps {H : Hp} : ∀ {ts : List T}, (∀ t ∈ ts, Sc t) → Reps H (ts.map scv) ts
  | [], _ => rfl
  | t :: ts, h => ⟨scv t, ts.map scv, rfl, (h t List.mem_cons_self).rep, Sc.reps fun u hu => h u (List.mem_cons_of_mem _ hu)⟩
def Lay (H : Hp) : List Addr → List (List V) → Prop
  | [], [] => True
  | p :: ps, v :: vs => H p = some (.lst v) ∧ Lay H ps vs
  | _, _ => False
theorem Lay.same {H H' : Hp} (g : Same H H') : ∀ {ps : List Addr} {vs : List (List V)}, Lay H ps vs → Lay H' ps vs
  | [], [], _ => True.intro
  | _ :: _, _ :: _, h => ⟨g _ _ h.1, Lay.same g h.2⟩
  | [], _ :: _, h => h.elim
  | _ :: _, [], h => h.elim
theorem Lay.away {H : Hp} {a : Addr} {o : HO} : ∀ {ps : List Addr} {vs : List (List V)}, a ∉ ps → Lay H ps vs → Lay (upd H a o) ps vs
  | [], [], _, _ => True.intro
  | p :: _, _ :: _, hn, h => ⟨by rw [upd_ne fun z => hn (by rw [← z]; exact List.mem_cons_self)]; exact h.1, Lay.away (fun z => hn (List.mem_cons_of_mem _ z)) h.2⟩
  | [], _ :: _, _, h => h.elim
  | _ :: _, [], _, h => h.elim
theorem Lay.append {H : Hp} {qs : List Addr} {ws : List (List V)} (h' : Lay H qs ws) : ∀ {ps : List Addr} {vs : List (List V)}, Lay H ps vs → Lay H (ps ++ qs) (vs ++ ws)
  | [], [], _ => h'
  | _ :: _, _ :: _, h => ⟨h.1, Lay.append h' h.2⟩
  | [], _ :: _, h => h.elim
  | _ :: _, [], h => h.elim
theorem Lay.length {H : Hp} : ∀ {ps : List Addr} {vs : List (List V)}, Lay H ps vs → ps.length = vs.length
  | [], [], _ => rfl
  | _ :: _, _ :: _, h => by rw [List.length_cons, List.length_cons, Lay.length h.2]
  | [], _ :: _, h => h.elim
  | _ :: _, [], h => h.elim
theorem Lay.get {H : Hp} : ∀ {ps : List Addr} {vs : List (List V)} {i : Nat} {p : Addr}, Lay H ps vs → ps[i]? = some p → ∃ v, vs[i]? = some v ∧ H p = some (.lst v)
  | [], [], i, p, _, e => by simp at e
  | q :: ps, v :: vs, 0, p, h, e => by
    simp at e
    exact ⟨v, rfl, by rw [← e]; exact h.1⟩
  | q :: ps, v :: vs, i + 1, p, h, e => by
    obtain ⟨w, e1, e2⟩ := Lay.get (i := i) h.2 (by simpa using e)
    exact ⟨w, by simpa using e1, e2⟩
  | [], _ :: _, _, _, h, _ => h.elim
  | _ :: _, [], _, _, h, _ => h.elim
theorem Lay.there {H : Hp} {p : Addr} : ∀ {ps : List Addr} {vs : List (List V)}, Lay H ps vs → p ∈ ps → ∃ o, H p = some o
  | [], _, _, h => nomatch h
  | q :: ps, v :: vs, h, hm => by
    rcases List.mem_cons.mp hm with z | z
    · exact ⟨_, by rw [z]; exact h.1⟩
    · exact Lay.there h.2 z
  | _ :: _, [], h, _ => h.elim
/-- one of them written anew -/
theorem Lay.put {H : Hp} {w : List V} : ∀ {ps : List Addr} {vs : List (List V)} {i : Nat} {p : Addr}, ps.Nodup → Lay H ps vs → ps[i]? = some p → Lay (upd H p (.lst w)) ps (vs.set i w)
  | [], [], i, p, _, _, e => by simp at e
  | q :: ps, v :: vs, 0, p, hn, h, e => by
    simp at e
    subst e
    exact ⟨upd_same, Lay.away (List.nodup_cons.mp hn).1 h.2⟩
  | q :: ps, v :: vs, i + 1, p, hn, h, e => by
    have e' : ps[i]? = some p := by simpa using e
    have hne : q ≠ p := fun z => (List.nodup_cons.mp hn).1 (by rw [z]; exact List.mem_of_getElem? e')
    exact ⟨by rw [upd_ne hne]; exact h.1, Lay.put (List.nodup_cons.mp hn).2 h.2 e'⟩
  | [], _ :: _, _, _, _, h, _ => h.elim
  | _ :: _, [], _, _, _, h, _ => h.elim
theorem Lay.rep {H : Hp} : ∀ {ps : List Addr} {pp : List (List T)}, (∀ p ∈ pp, ∀ s ∈ p, Sc s) → Lay H ps (pp.map (·.map scv)) → Reps H (ps.map V.ref) (pp.map T.lst)
  | [], [], _, _ => rfl
  | a :: ps, p :: pp, hs, h => ⟨.ref a, ps.map V.ref, rfl, ⟨a, p.map scv, rfl, h.1, Sc.reps (hs p List.mem_cons_self)⟩, Lay.rep (fun q hq => hs q (List.mem_cons_of_mem _ hq)) h.2⟩
  | [], _ :: _, _, h => h.elim
  | _ :: _, [], _, h => h.elim
end L2
namespace L2
open PySem PySem.Spec PyProof.Rows
section
variable {X : Cx} {pins : List (Addr × Obj)} {σ : St} {H : Hp} {s : Shared} {h' : Heap}
end
section
variable {X : Cx}
end
/-- two names of a pair -/
abbrev g2 (K : PySem.W.Frag) : TG := gTup K 2 (gCons (gName 0) (gCons (gName 1) gNil))
end L2
namespace L2
open PySem PySem.Spec PyProof.Rows
def tyR (H : Hp) : V → Option String
  | .ref a => match H a with
    | some (.frz _ (.dK _)) => some "dict"
    | _ => tyS H (.ref a)
  | v => tyS H v
theorem tyR_of {H : Hp} {x : V} {t : String} (h : tyS H x = some t) : tyR H x = some t := by
  cases x with
  | ref a =>
    show (match H a with | some (.frz _ (.dK _)) => some "dict" | _ => tyS H (.ref a)) = some t
    split
    · rename_i o kvs e
      have h' : (match H a with | some (.lst _) => some "list" | some (.tup _) => some "tuple" | some (.dK _) => some "dict" | _ => none) = some t := h
      rw [e] at h'; cases h'
    · exact h
  | _ => exact h
theorem tyR_dic {H : Hp} {a : Addr} {ps : List (Key × V)} (h : Rd H a (.dK ps)) : tyR H (.ref a) = some "dict" := by
  rcases h with h | ⟨o, h⟩
  · exact tyR_of (tyS_dK h)
  · show (match H a with | some (.frz _ (.dK _)) => some "dict" | _ => tyS H (.ref a)) = some "dict"
    rw [h]
section
variable {X : Cx}
end
mutual
/-- the value can be read as the tree -/
def Rp (H : Hp) : V → T → Prop
  | v, .non => v = .non
  | v, .bl b => v = .bl b
  | v, .int i => v = .int i
  | v, .str x => v = .str (tx x)
  | v, .lst ts => ∃ a vs, v = .ref a ∧ H a = some (.lst vs) ∧ Rps H vs ts
  | v, .dic ks ts => ∃ a ps, v = .ref a ∧ Rd H a (.dK ps) ∧ ps.map (·.1) = ks.map (fun k => (Sum.inr (tx k) : Key)) ∧ Rps H (ps.map (·.2)) ts
  | v, .tup ts => ∃ a vs, v = .ref a ∧ H a = some (.tup vs) ∧ Rps H vs ts
def Rps (H : Hp) : List V → List T → Prop
  | vs, [] => vs = []
  | vs, t :: ts => ∃ v r, vs = v :: r ∧ Rp H v t ∧ Rps H r ts
end
mutual
theorem Rp.mono {H H' : Hp} (e : ∀ b xs, H b = some (.lst xs) → H' b = some (.lst xs)) (e2 : ∀ b xs, H b = some (.tup xs) → H' b = some (.tup xs)) (e3 : ∀ b ps, Rd H b (.dK ps) → Rd H' b (.dK ps)) : ∀ (v : V) (t : T), Rp H v t → Rp H' v t
  | _, .non, h => h
  | _, .bl _, h => h
  | _, .int _, h => h
  | _, .str _, h => h
  | _, .lst ts, ⟨a, vs, h1, h2, h3⟩ => ⟨a, vs, h1, e _ _ h2, Rps.mono e e2 e3 vs ts h3⟩
  | _, .dic ks ts, ⟨a, ps, h1, h2, h3, h4⟩ => ⟨a, ps, h1, e3 _ _ h2, h3, Rps.mono e e2 e3 _ ts h4⟩
  | _, .tup ts, ⟨a, vs, h1, h2, h3⟩ => ⟨a, vs, h1, e2 _ _ h2, Rps.mono e e2 e3 vs ts h3⟩
theorem Rps.mono {H H' : Hp} (e : ∀ b xs, H b = some (.lst xs) → H' b = some (.lst xs)) (e2 : ∀ b xs, H b = some (.tup xs) → H' b = some (.tup xs)) (e3 : ∀ b ps, Rd H b (.dK ps) → Rd H' b (.dK ps)) : ∀ (vs : List V) (ts : List T), Rps H vs ts → Rps H' vs ts
  | _, [], h => h
  | _, t :: ts, ⟨v, r, h1, h2, h3⟩ => ⟨v, r, h1, Rp.mono e e2 e3 v t h2, Rps.mono e e2 e3 r ts h3⟩
end
theorem Rd.same {H H' : Hp} (g : Same H H') {a : Addr} {u : HO} (h : Rd H a u) : Rd H' a u := h.imp (g _ _) fun ⟨o, e⟩ => ⟨o, g _ _ e⟩
theorem Rp.same {H H' : Hp} (g : Same H H') (v : V) (t : T) (h : Rp H v t) : Rp H' v t := Rp.mono (fun b xs => g b _) (fun b xs => g b _) (fun b ps h => h.same g) v t h
theorem Rps.same {H H' : Hp} (g : Same H H') (v : List V) (t : List T) (h : Rps H v t) : Rps H' v t := Rps.mono (fun b xs => g b _) (fun b xs => g b _) (fun b ps h => h.same g) v t h
theorem Rd.frz {H : Hp} {d : Addr} {o : Obj} {ps : List (Key × V)} (hd : H d = some (.dK ps)) {b : Addr} {qs : List (Key × V)} (h : Rd H b (.dK qs)) : Rd (upd H d (.frz o (.dK ps))) b (.dK qs) := by
  by_cases e : b = d
  · subst e
    rcases h with h | ⟨o', h⟩
    · rw [hd] at h; cases h
      exact .inr ⟨o, upd_same⟩
    · rw [hd] at h; cases h
  · exact h.imp (fun h => by rw [upd_ne e]; exact h) fun ⟨o', h⟩ => ⟨o', by rw [upd_ne e]; exact h⟩
theorem Rps.frz {H : Hp} {d : Addr} {o : Obj} {ps : List (Key × V)} (hd : H d = some (.dK ps)) (v : List V) (t : List T) (h : Rps H v t) : Rps (upd H d (.frz o (.dK ps))) v t :=
  Rps.mono (fun b xs e => by rw [upd_ne fun z => by rw [z, hd] at e; cases e]; exact e) (fun b xs e => by rw [upd_ne fun z => by rw [z, hd] at e; cases e]; exact e) (fun b qs h => Rd.frz hd h) v t h
theorem Rps.length {H : Hp} : ∀ {vs : List V} {ts : List T}, Rps H vs ts → vs.length = ts.length
  | _, [], e => by
    have e' : _ = [] := e
    subst e'; rfl
  | _, t' :: ts, ⟨v', r, h1, h2, h3⟩ => by
    subst h1
    simp [Rps.length h3]
theorem Rps.get {H : Hp} : ∀ {vs : List V} {ts : List T} {i : Nat} {v : V}, Rps H vs ts → vs[i]? = some v → ∃ t, ts[i]? = some t ∧ Rp H v t
  | _, [], i, v, e, h => by
    have e' : _ = [] := e
    subst e'; simp at h
  | _, t' :: ts, 0, v, ⟨v', r, h1, h2, h3⟩, h => by
    subst h1
    simp at h; subst h
    exact ⟨t', rfl, h2⟩
  | _, t' :: ts, i + 1, v, ⟨v', r, h1, h2, h3⟩, h => by
    subst h1
    obtain ⟨t, e, q⟩ := Rps.get (i := i) (v := v) h3 (by simpa using h)
    exact ⟨t, by simpa using e, q⟩
theorem Rp.ty {H : Hp} {v : V} : ∀ {t : T}, Rp H v t → tyR H v = some (tyT t)
  | .non, h => by cases (show v = .non from h); rfl
  | .bl b, h => by cases (show v = .bl b from h); rfl
  | .int i, h => by cases (show v = .int i from h); rfl
  | .str x, h => by cases (show v = .str (tx x) from h); rfl
  | .lst ts, h => by obtain ⟨a, vs, e, h2, _⟩ := h; subst e; exact tyR_of (tyS_lst h2)
  | .dic ks ts, h => by obtain ⟨a, vs, e, h2, _⟩ := h; subst e; exact tyR_dic h2
  | .tup ts, h => by obtain ⟨a, vs, e, h2, _⟩ := h; subst e; exact tyR_of (tyS_tup h2)
/-- what a record has by a name -/
theorem Rp.at_name {H : Hp} {ps : List (Key × V)} {ks : List (List Nat)} {us : List T} (nk : ks.Nodup) (hk : ps.map (·.1) = ks.map fun k => (Sum.inr (tx k) : Key)) (hs : Rps H (ps.map (·.2)) us) {k : List Nat} (hm : k ∈ ks) :
    ∃ v, valV ps (Sum.inr (tx k)) = some v ∧ Rp H v (lookT k ks us) := by
  obtain ⟨j, hj⟩ := List.mem_iff_getElem?.mp hm
  have hp : (ps.map (·.1))[j]? = some (Sum.inr (tx k) : Key) := by rw [hk, List.getElem?_map, hj]; rfl
  rw [List.getElem?_map] at hp
  cases hpj : ps[j]? with
  | none => rw [hpj] at hp; cases hp
  | some kv =>
    rw [hpj] at hp
    have ek : kv.1 = (Sum.inr (tx k) : Key) := Option.some.inj hp
    have hpj' : ps[j]? = some ((Sum.inr (tx k) : Key), kv.2) := by rw [hpj, ← ek]
    obtain ⟨t, ht, hr⟩ := hs.get (i := j) (v := kv.2) (by rw [List.getElem?_map, hpj]; rfl)
    refine ⟨kv.2, valV_ix (by rw [hk]; exact nodup_nK nk) hpj', ?_⟩
    rw [lookT_ix nk hj ht]
    exact hr
structure Bl4 (mg : Str → Option Value) : Prop extends Bl2 mg where
  enumerate : mg "enumerate" = none
end L2
namespace L2
open PySem PySem.Spec PyProof.Rows
mutual
/-- the value stands for the tree; its rows and records lie at D, each at one place alone -/
def Sp1 (H : Hp) : V → T → List Addr → Prop
  | v, .non, D => D = [] ∧ v = .non
  | v, .bl b, D => D = [] ∧ v = .bl b
  | v, .int i, D => D = [] ∧ v = .int i
  | v, .str x, D => D = [] ∧ v = .str (tx x)
  | v, .lst ts, D => ∃ a vs D', v = .ref a ∧ H a = some (.lst vs) ∧ D = a :: D' ∧ a ∉ D' ∧ Sps H vs ts D'
  | v, .dic ks ts, D => ∃ a ps D', v = .ref a ∧ H a = some (.dK ps) ∧ ps.map (·.1) = ks.map (fun k => (Sum.inr (tx k) : Key)) ∧ D = a :: D' ∧ a ∉ D' ∧ Sps H (ps.map (·.2)) ts D'
  | _, .tup _, _ => False
def Sps (H : Hp) : List V → List T → List Addr → Prop
  | vs, [], D => vs = [] ∧ D = []
  | vs, t :: ts, D => ∃ v r D1 D2, vs = v :: r ∧ D = D1 ++ D2 ∧ Sp1 H v t D1 ∧ Sps H r ts D2 ∧ ∀ b ∈ D1, b ∉ D2
end
mutual
theorem Sp1.rep {H : Hp} : ∀ (v : V) (t : T) (D : List Addr), Sp1 H v t D → Rep H v t
  | _, .non, _, h => h.2
  | _, .bl _, _, h => h.2
  | _, .int _, _, h => h.2
  | _, .str _, _, h => h.2
  | _, .lst ts, _, ⟨a, vs, D', h1, h2, _, _, h3⟩ => ⟨a, vs, h1, h2, Sps.rep vs ts D' h3⟩
  | _, .dic ks ts, _, ⟨a, ps, D', h1, h2, h3, _, _, h4⟩ => ⟨a, ps, h1, h2, h3, Sps.rep _ ts D' h4⟩
  | _, .tup _, _, h => h.elim
theorem Sps.rep {H : Hp} : ∀ (vs : List V) (ts : List T) (D : List Addr), Sps H vs ts D → Reps H vs ts
  | _, [], _, h => h.1
  | _, t :: ts, _, ⟨v, r, D1, D2, h1, _, h2, h3, _⟩ => ⟨v, r, h1, Sp1.rep v t D1 h2, Sps.rep r ts D2 h3⟩
end
mutual
theorem Sp1.keep {H H' : Hp} : ∀ (v : V) (t : T) (D : List Addr), (∀ b ∈ D, ∀ o, (∀ ob u, o ≠ HO.frz ob u) → H b = some o → H' b = some o) → Sp1 H v t D → Sp1 H' v t D
  | _, .non, _, _, h => h
  | _, .bl _, _, _, h => h
  | _, .int _, _, _, h => h
  | _, .str _, _, _, h => h
  | _, .lst ts, _, k, ⟨a, vs, D', h1, h2, e, n, h3⟩ => ⟨a, vs, D', h1, k a (by rw [e]; exact List.mem_cons_self) _ (by intro ob u z; cases z) h2, e, n, Sps.keep vs ts D' (fun b hb => k b (by rw [e]; exact List.mem_cons_of_mem _ hb)) h3⟩
  | _, .dic ks ts, _, k, ⟨a, ps, D', h1, h2, h3, e, n, h4⟩ => ⟨a, ps, D', h1, k a (by rw [e]; exact List.mem_cons_self) _ (by intro ob u z; cases z) h2, h3, e, n, Sps.keep _ ts D' (fun b hb => k b (by rw [e]; exact List.mem_cons_of_mem _ hb)) h4⟩
  | _, .tup _, _, _, h => h.elim
theorem Sps.keep {H H' : Hp} : ∀ (vs : List V) (ts : List T) (D : List Addr), (∀ b ∈ D, ∀ o, (∀ ob u, o ≠ HO.frz ob u) → H b = some o → H' b = some o) → Sps H vs ts D → Sps H' vs ts D
  | _, [], _, _, h => h
  | _, t :: ts, _, k, ⟨v, r, D1, D2, h1, e, h2, h3, n⟩ => ⟨v, r, D1, D2, h1, e, Sp1.keep v t D1 (fun b hb => k b (by rw [e]; exact List.mem_append_left _ hb)) h2, Sps.keep r ts D2 (fun b hb => k b (by rw [e]; exact List.mem_append_right _ hb)) h3, n⟩
end
mutual
theorem Sp1.there {H : Hp} {b : Addr} : ∀ (v : V) (t : T) (D : List Addr), Sp1 H v t D → b ∈ D → ∃ o, H b = some o
  | _, .non, _, h, hb => by rw [h.1] at hb; cases hb
  | _, .bl _, _, h, hb => by rw [h.1] at hb; cases hb
  | _, .int _, _, h, hb => by rw [h.1] at hb; cases hb
  | _, .str _, _, h, hb => by rw [h.1] at hb; cases hb
  | _, .lst ts, _, ⟨a, vs, D', h1, h2, e, n, h3⟩, hb => by
    rw [e] at hb
    rcases List.mem_cons.mp hb with z | z
    · exact ⟨_, by rw [z]; exact h2⟩
    · exact Sps.there vs ts D' h3 z
  | _, .dic ks ts, _, ⟨a, ps, D', h1, h2, h3, e, n, h4⟩, hb => by
    rw [e] at hb
    rcases List.mem_cons.mp hb with z | z
    · exact ⟨_, by rw [z]; exact h2⟩
    · exact Sps.there _ ts D' h4 z
  | _, .tup _, _, h, _ => h.elim
theorem Sps.there {H : Hp} {b : Addr} : ∀ (vs : List V) (ts : List T) (D : List Addr), Sps H vs ts D → b ∈ D → ∃ o, H b = some o
  | _, [], _, h, hb => by rw [h.2] at hb; cases hb
  | _, t :: ts, _, ⟨v, r, D1, D2, h1, e, h2, h3, n⟩, hb => by
    rw [e] at hb
    rcases List.mem_append.mp hb with z | z
    · exact Sp1.there v t D1 h2 z
    · exact Sps.there r ts D2 h3 z
end
theorem Sp1.same {H H' : Hp} (g : Same H H') {v : V} {t : T} {D : List Addr} (h : Sp1 H v t D) : Sp1 H' v t D := Sp1.keep v t D (fun b _ o _ e => g b o e) h
theorem Sps.same {H H' : Hp} (g : Same H H') {v : List V} {t : List T} {D : List Addr} (h : Sps H v t D) : Sps H' v t D := Sps.keep v t D (fun b _ o _ e => g b o e) h
theorem Sps.snoc {H : Hp} {v : V} {t : T} {D1 : List Addr} (h : Sp1 H v t D1) : ∀ {vs : List V} {ts : List T} {D : List Addr}, Sps H vs ts D → (∀ b ∈ D, b ∉ D1) → Sps H (vs ++ [v]) (ts ++ [t]) (D ++ D1)
  | _, [], D, e, _ => by
    obtain ⟨e1, e2⟩ := e
    subst e1 e2
    exact ⟨v, [], D1, [], rfl, by simp, h, ⟨rfl, rfl⟩, fun _ _ z => nomatch z⟩
  | _, t' :: ts, D, ⟨v', r, E1, E2, h1, e, h2, h3, n⟩, hd => by
    subst h1 e
    refine ⟨v', r ++ [v], E1, E2 ++ D1, rfl, by simp, h2, Sps.snoc h h3 fun b hb => hd b (List.mem_append_right _ hb), fun b hb z => ?_⟩
    rcases List.mem_append.mp z with c | c
    · exact n b hb c
    · exact hd b (List.mem_append_left _ hb) c
theorem Sps.length {H : Hp} {vs : List V} {ts : List T} {D : List Addr} (h : Sps H vs ts D) : vs.length = ts.length := (Sps.rep vs ts D h).length
/-- but at D all stays -/
def Keep (D : List Addr) (H H' : Hp) : Prop := ∀ b o, b ∉ D → H b = some o → H' b = some o
theorem Keep.refl {D : List Addr} {H : Hp} : Keep D H H := fun _ _ _ h => h
theorem Keep.trans {D : List Addr} {H H1 H2 : Hp} (a : Keep D H H1) (b : Keep D H1 H2) : Keep D H H2 := fun c o h e => b c o h (a c o h e)
theorem Keep.mono {D D' : List Addr} {H H' : Hp} (h : Keep D H H') (s : ∀ b ∈ D, b ∈ D') : Keep D' H H' := fun b o hb e => h b o (fun z => hb (s b z)) e
theorem Keep.of {D : List Addr} {H H' : Hp} (g : Same H H') : Keep D H H' := fun b o _ e => g b o e
theorem Keep.put {D : List Addr} {H H' : Hp} {a : Addr} (o : HO) (h : Keep D H H') (ha : a ∈ D) : Keep D H (upd H' a o) := fun b u hb e => by
  rw [upd_ne fun z => hb (by rw [z]; exact ha)]
  exact h b u hb e
/-- what lay there before D was laid stays -/
theorem Keep.old {D : List Addr} {H0 H H' : Hp} (h : Keep D H H') (g : Same H0 H) (hf : ∀ b ∈ D, H0 b = none) : Same H0 H' := fun b o e => h b o (fun z => by rw [hf b z] at e; cases e) (g b o e)
theorem none_back {H H' : Hp} (g : Same H H') {p : Addr} (h : H' p = none) : H p = none := by
  cases e : H p with
  | none => rfl
  | some o => rw [g _ _ e] at h; cases h
theorem Sps.thaw {H H' : Hp} {vs : List V} {ts : List T} {D : List Addr} (h : Sps H' vs ts D) : Sps (L2.thaw H H') vs ts D := Sps.keep vs ts D (fun _ _ _ n e => thaw_of e n) h
end L2
namespace L2
open PySem PySem.Spec PyProof.Rows
section
variable {prog : Program} {w : World} {A : Around} {E : Value → Shared → Prop} {s : Shared}
end
section
variable {X : Cx}
end
end L2
namespace L2
open PySem PySem.Spec PyProof.Rows
section
variable {X : Cx} {a : Expr} {ta : TE}
end
end L2
namespace L2
open PySem PySem.Spec PyProof.Rows
inductive U where
  | leaf (v : V) | lst (us : List U) | dic (ks : List Key) (us : List U)
def lfS : V → Bool
  | .non => true
  | .bl _ => true
  | .int _ => true
  | .str _ => true
  | _ => false
def Lf (H : Hp) (x : V) : Prop := lfS x = true ∨ ∃ (a : Addr) (xs : List V), x = .ref a ∧ H a = some (.tup xs)
theorem Lf.same {H H' : Hp} (g : ∀ b xs, H b = some (.tup xs) → H' b = some (.tup xs)) {x : V} (h : Lf H x) : Lf H' x := h.imp id fun ⟨a, xs, e, h⟩ => ⟨a, xs, e, g _ _ h⟩
mutual
def Ru (H : Hp) : V → U → Prop
  | v, .leaf x => v = x ∧ Lf H x
  | v, .lst us => ∃ a vs, v = .ref a ∧ H a = some (.lst vs) ∧ Rus H vs us
  | v, .dic ks us => ∃ a ps, v = .ref a ∧ Rd H a (.dK ps) ∧ ps.map (·.1) = ks ∧ Rus H (ps.map (·.2)) us
def Rus (H : Hp) : List V → List U → Prop
  | vs, [] => vs = []
  | vs, u :: us => ∃ v r, vs = v :: r ∧ Ru H v u ∧ Rus H r us
end
mutual
theorem Ru.mono {H H' : Hp} (e : ∀ b xs, H b = some (.lst xs) → H' b = some (.lst xs)) (e2 : ∀ b xs, H b = some (.tup xs) → H' b = some (.tup xs)) (e3 : ∀ b ps, Rd H b (.dK ps) → Rd H' b (.dK ps)) : ∀ (v : V) (u : U), Ru H v u → Ru H' v u
  | _, .leaf _, h => ⟨h.1, h.2.same e2⟩
  | _, .lst us, ⟨a, vs, h1, h2, h3⟩ => ⟨a, vs, h1, e _ _ h2, Rus.mono e e2 e3 vs us h3⟩
  | _, .dic ks us, ⟨a, ps, h1, h2, h3, h4⟩ => ⟨a, ps, h1, e3 _ _ h2, h3, Rus.mono e e2 e3 _ us h4⟩
theorem Rus.mono {H H' : Hp} (e : ∀ b xs, H b = some (.lst xs) → H' b = some (.lst xs)) (e2 : ∀ b xs, H b = some (.tup xs) → H' b = some (.tup xs)) (e3 : ∀ b ps, Rd H b (.dK ps) → Rd H' b (.dK ps)) : ∀ (vs : List V) (us : List U), Rus H vs us → Rus H' vs us
  | _, [], h => h
  | _, u :: us, ⟨v, r, h1, h2, h3⟩ => ⟨v, r, h1, Ru.mono e e2 e3 v u h2, Rus.mono e e2 e3 r us h3⟩
end
theorem Ru.same {H H' : Hp} (g : Same H H') {v : V} {u : U} (h : Ru H v u) : Ru H' v u := Ru.mono (fun b xs => g b _) (fun b xs => g b _) (fun b ps h => h.same g) v u h
theorem Rus.same {H H' : Hp} (g : Same H H') {v : List V} {u : List U} (h : Rus H v u) : Rus H' v u := Rus.mono (fun b xs => g b _) (fun b xs => g b _) (fun b ps h => h.same g) v u h
theorem Rus.frz {H : Hp} {d : Addr} {o : Obj} {ps : List (Key × V)} (hd : H d = some (.dK ps)) {v : List V} {u : List U} (h : Rus H v u) : Rus (upd H d (.frz o (.dK ps))) v u :=
  Rus.mono (fun b xs e => by rw [upd_ne fun z => by rw [z, hd] at e; cases e]; exact e) (fun b xs e => by rw [upd_ne fun z => by rw [z, hd] at e; cases e]; exact e) (fun b qs h => Rd.frz hd h) v u h
theorem Rus.length {H : Hp} : ∀ {vs : List V} {us : List U}, Rus H vs us → vs.length = us.length
  | _, [], e => by
    have e' : _ = [] := e
    subst e'; rfl
  | _, _ :: us, ⟨v', r, h1, h2, h3⟩ => by
    subst h1
    simp [Rus.length h3]
theorem Rus.get {H : Hp} : ∀ {vs : List V} {us : List U} {i : Nat} {v : V}, Rus H vs us → vs[i]? = some v → ∃ u, us[i]? = some u ∧ Ru H v u
  | _, [], i, v, e, h => by
    have e' : _ = [] := e
    subst e'; simp at h
  | _, u' :: us, 0, v, ⟨v', r, h1, h2, h3⟩, h => by
    subst h1
    simp at h; subst h
    exact ⟨u', rfl, h2⟩
  | _, _ :: us, i + 1, v, ⟨v', r, h1, h2, h3⟩, h => by
    subst h1
    obtain ⟨u, e, q⟩ := Rus.get (i := i) (v := v) h3 (by simpa using h)
    exact ⟨u, by simpa using e, q⟩
theorem Rus.append {H : Hp} {ws : List V} {xs : List U} (h' : Rus H ws xs) : ∀ {vs : List V} {us : List U}, Rus H vs us → Rus H (vs ++ ws) (us ++ xs)
  | _, [], e => by
    have e' : _ = [] := e
    subst e'; exact h'
  | _, u' :: us, ⟨v', r, h1, h2, h3⟩ => by
    subst h1
    exact ⟨v', r ++ ws, rfl, h2, Rus.append h' h3⟩
theorem Rus.snoc {H : Hp} {v : V} {u : U} (h : Ru H v u) {vs : List V} {us : List U} (hs : Rus H vs us) : Rus H (vs ++ [v]) (us ++ [u]) := Rus.append (show Rus H [v] [u] from ⟨v, [], rfl, h, rfl⟩) hs
theorem Rus.take {H : Hp} : ∀ {xs : List V} {us : List U} (i : Nat), Rus H xs us → Rus H (xs.take i) (us.take i)
  | _, _, 0, _ => rfl
  | _, [], i + 1, e => by
    have e' : _ = [] := e
    subst e'; rfl
  | _, u :: us, i + 1, ⟨v, r, h1, h2, h3⟩ => by
    subst h1
    exact ⟨v, r.take i, rfl, h2, Rus.take i h3⟩
theorem Rus.drop {H : Hp} : ∀ {xs : List V} {us : List U} (i : Nat), Rus H xs us → Rus H (xs.drop i) (us.drop i)
  | _, _, 0, h => h
  | _, [], i + 1, e => by
    have e' : _ = [] := e
    subst e'; rfl
  | _, u :: us, i + 1, ⟨v, r, h1, h2, h3⟩ => by
    subst h1
    exact Rus.drop i h3
theorem Rus.rep {H : Hp} {v : V} {u : U} (h : Ru H v u) : ∀ n : Nat, Rus H (List.replicate n v) (List.replicate n u)
  | 0 => rfl
  | n + 1 => ⟨v, List.replicate n v, rfl, h, Rus.rep h n⟩
mutual
def emb : T → U
  | .non => .leaf .non
  | .bl b => .leaf (.bl b)
  | .int i => .leaf (.int i)
  | .str x => .leaf (.str (tx x))
  | .lst ts => .lst (embs ts)
  | .dic ks ts => .dic (ks.map nK) (embs ts)
  | .tup _ => .leaf .non
def embs : List T → List U
  | [] => []
  | t :: ts => emb t :: embs ts
end
mutual
theorem Rep.ru {H : Hp} : ∀ (v : V) (t : T), Rep H v t → T.pure t → Ru H v (emb t)
  | _, .non, h, _ => ⟨h, .inl rfl⟩
  | _, .bl _, h, _ => ⟨h, .inl rfl⟩
  | _, .int _, h, _ => ⟨h, .inl rfl⟩
  | _, .str _, h, _ => ⟨h, .inl rfl⟩
  | _, .lst ts, ⟨a, vs, h1, h2, h3⟩, hp => ⟨a, vs, h1, h2, Reps.ru vs ts h3 hp⟩
  | _, .dic ks ts, ⟨a, ps, h1, h2, h3, h4⟩, hp => ⟨a, ps, h1, .inl h2, h3, Reps.ru _ ts h4 hp.2⟩
  | _, .tup _, _, hp => hp.elim
theorem Reps.ru {H : Hp} : ∀ (vs : List V) (ts : List T), Reps H vs ts → T.pures ts → Rus H vs (embs ts)
  | _, [], h, _ => h
  | _, t :: ts, ⟨v, r, h1, h2, h3⟩, hp => ⟨v, r, h1, Rep.ru v t h2 hp.1, Reps.ru r ts h3 hp.2⟩
end
mutual
def U.sz : U → Nat
  | .leaf _ => 1
  | .lst us => U.szs us + 1
  | .dic _ us => U.szs us + 1
def U.szs : List U → Nat
  | [] => 0
  | u :: us => U.sz u + U.szs us
end
mutual
def U.dep : U → Nat
  | .leaf _ => 0
  | .lst us => U.deps us + 1
  | .dic _ us => U.deps us + 1
def U.deps : List U → Nat
  | [] => 0
  | u :: us => max (U.dep u) (U.deps us)
end
mutual
/-- short texts, a record's keys unlike; as many as its things -/
def U.ok : U → Prop
  | .leaf v => ∀ x, v = .str x → x.length ≤ 1000
  | .lst us => U.oks us
  | .dic ks us => ks.Nodup ∧ ks.length = us.length ∧ (∀ x, Sum.inr x ∈ ks → x.length ≤ 1000) ∧ U.oks us
def U.oks : List U → Prop
  | [] => True
  | u :: us => U.ok u ∧ U.oks us
end
theorem U.oks_mem {u : U} : ∀ {us : List U}, U.oks us → u ∈ us → U.ok u
  | [], _, h => nomatch h
  | x :: us, h, hm => (List.mem_cons.mp hm).elim (fun e => e ▸ h.1) (U.oks_mem h.2)
theorem U.oks_of {us : List U} (h : ∀ u ∈ us, U.ok u) : U.oks us := by
  induction us with
  | nil => exact True.intro
  | cons t ts ih => exact ⟨h t List.mem_cons_self, ih fun u hu => h u (List.mem_cons_of_mem _ hu)⟩
theorem U.szs_append : ∀ (a b : List U), U.szs (a ++ b) = U.szs a + U.szs b
  | [], b => by simp [U.szs]
  | x :: a, b => by
    show U.sz x + U.szs (a ++ b) = U.sz x + U.szs a + U.szs b
    rw [U.szs_append a b]; omega
theorem U.szs_le {u : U} : ∀ {us : List U}, u ∈ us → U.sz u ≤ U.szs us
  | [], h => nomatch h
  | x :: us, h => by
    show U.sz u ≤ U.sz x + U.szs us
    rcases List.mem_cons.mp h with e | e
    · rw [e]; omega
    · have := U.szs_le e; omega
theorem U.deps_le {u : U} : ∀ {us : List U}, u ∈ us → U.dep u ≤ U.deps us
  | [], h => nomatch h
  | x :: us, h => by
    show U.dep u ≤ max (U.dep x) (U.deps us)
    rcases List.mem_cons.mp h with e | e
    · rw [e]; omega
    · have := U.deps_le e; omega
theorem U.sz_pos : ∀ u : U, 1 ≤ U.sz u
  | .leaf _ => Nat.le_refl _
  | .lst _ => Nat.le_add_left _ _
  | .dic _ _ => Nat.le_add_left _ _
theorem U.szs_len : ∀ us : List U, us.length ≤ U.szs us
  | [] => Nat.le_refl _
  | u :: us => by
    have := U.szs_len us
    have := U.sz_pos u
    show us.length + 1 ≤ U.sz u + U.szs us
    omega
def tyU : U → String
  | .leaf .non => "NoneType"
  | .leaf (.bl _) => "bool"
  | .leaf (.int _) => "int"
  | .leaf (.str _) => "str"
  | .leaf _ => "tuple"
  | .lst _ => "list"
  | .dic _ _ => "dict"
theorem Ru.ty {H : Hp} {v : V} : ∀ {u : U}, Ru H v u → tyR H v = some (tyU u)
  | .leaf x, h => by
    obtain ⟨rfl, h | ⟨a, xs, e, h⟩⟩ := h
    · cases v <;> first | rfl | cases h
    · subst e; exact tyR_of (tyS_tup h)
  | .lst us, h => by obtain ⟨a, vs, e, h2, _⟩ := h; subst e; exact tyR_of (tyS_lst h2)
  | .dic ks us, h => by obtain ⟨a, vs, e, h2, _⟩ := h; subst e; exact tyR_dic h2
section
variable {X : Cx} {pins : List (Addr × Obj)} {σ : St} {H : Hp} {s : Shared}
theorem op_le_str : OpR X (compareOp .LtE) (fun x y H Q => ∃ i j, x = .str i ∧ y = .str j ∧ Q (.bl (!decide (ts j < ts i))) H) := by
  intro pins s σ H x y v u Q I rx ry h
  obtain ⟨i, j, rfl, rfl, q⟩ := h
  obtain ⟨t, rfl⟩ := rx
  obtain ⟨t', rfl⟩ := ry
  exact PySem.P.le_str (fin_bl I q rfl)
end
section
variable {X : Cx} {o : Expr} {to : TE} {name : Str} {apos cpos : Pos} {id : String} {r : V → List V → Hp → VK → Prop}
end
structure Bl5 (mg : Str → Option Value) : Prop extends Bl2 mg where
  abs : mg "abs" = none
  ord : mg "ord" = none
end L2
namespace L2
open PySem PySem.Spec PyProof.Rows
section
variable {X : Cx} {pins : List (Addr × Obj)} {σ : St} {H : Hp} {s : Shared} {h' : Heap}
end
/-- the lists at l and m, place by place: each pair a new tuple -/
def Itz (K : PySem.W.Frag) (l m : Addr) : It :=
  ⟨fun i H => ∃ xs ys x y, SqL K H l xs ∧ SqL K H m ys ∧ xs[i]? = some x ∧ ys[i]? = some y,
   fun i H v H' => ∃ p x y, H p = none ∧ v = .ref p ∧ (∀ xs, SqL K H l xs → xs[i]? = some x) ∧ (∀ ys, SqL K H m ys → ys[i]? = some y) ∧ H' = upd H p (.tup [x, y]),
   fun i H => ∃ xs ys, SqL K H l xs ∧ SqL K H m ys ∧ (xs.length ≤ i ∨ ys.length ≤ i)⟩
def iZip (K : PySem.W.Frag) (ta : TA) : TI := fun σ H R => ta σ H fun vs H1 => ∃ l m xs ys, vs = [.ref l, .ref m] ∧ SqL K H1 l xs ∧ SqL K H1 m ys ∧ R (Itz K l m) H1
end L2
namespace L2
open PySem PySem.Spec PyProof.Rows
structure Bl6 (mg : Str → Option Value) : Prop extends Bl2 mg where
  zip : mg "zip" = none
section
variable {X : Cx} {a : Expr} {ta : TE}
/-- e is True, where e is a truth -/
def tIsT (ta : TE) : TE := fun σ H Q => ta σ H fun x H1 => ∃ b, x = .bl b ∧ Q (.bl b) H1
end
end L2
namespace HT
open PySem PyProof.Rows
open PySem.SeqAt
open PySem.AutoSeq1 (wpAny_loadPart')
open PySem.MeetsSeq PySem.MeetsSeq2 PySem.MeetsSeq3
section
variable {prog : Program} {w : World} {A : Around} {E : Value → Shared → Prop} {s : Shared}
end
end HT
namespace L2
open PySem PySem.Spec PyProof.Rows
end L2
namespace L2
open PySem PySem.Spec PyProof.Rows PySem.Builtin PySem.Builtin.Str
def jn (s : List Nat) : List (List Nat) → List Nat
  | [] => []
  | [x] => x
  | x :: y :: r => x ++ s ++ jn s (y :: r)
theorem ts_app (x y : Str) : ts (x ++ y) = ts x ++ ts y := by
  show (x.cps ++ y.cps).toList = _
  rw [Array.toList_append]
theorem ts_join (sep : Str) : ∀ ps : List Str, ts (sep.join ps) = jn (ts sep) (ps.map ts)
  | [] => rfl
  | [x] => rfl
  | x :: y :: r => by
    show ts (x ++ sep ++ sep.join (y :: r)) = ts x ++ ts sep ++ jn (ts sep) ((y :: r).map ts)
    rw [ts_app, ts_app, ts_join sep (y :: r)]
/-- one sign put for another text -/
def rpl (c : Nat) (z : List Nat) (d : Nat) : List Nat := if d = c then z else [d]
theorem rpl_free {c : Nat} {z : List Nat} : ∀ {x : List Nat}, c ∉ x → x.flatMap (rpl c z) = x
  | [], _ => rfl
  | d :: x, h => by
    have hd : d ≠ c := fun e => h (by rw [e]; exact List.mem_cons_self)
    rw [List.flatMap_cons, rpl_free fun e => h (List.mem_cons_of_mem _ e)]
    unfold rpl
    rw [if_neg hd]; rfl
theorem rpl_jn {c : Nat} {z : List Nat} : ∀ {ps : List (List Nat)}, (∀ p ∈ ps, c ∉ p) → (jn [c] ps).flatMap (rpl c z) = jn z ps
  | [], _ => rfl
  | [x], h => rpl_free (h x List.mem_cons_self)
  | x :: y :: r, h => by
    show (x ++ [c] ++ jn [c] (y :: r)).flatMap (rpl c z) = x ++ z ++ jn z (y :: r)
    rw [List.flatMap_append, List.flatMap_append, rpl_free (h x List.mem_cons_self), rpl_jn fun p hp => h p (List.mem_cons_of_mem _ hp)]
    have : [c].flatMap (rpl c z) = z := by simp [rpl]
    rw [this]
theorem replace_is (x z : Str) (c : Nat) : ts (Txt.replace x ⟨#[c]⟩ z) = (ts x).flatMap (rpl c (ts z)) := by
  have h := ts_join ⟨#[c]⟩ (Txt.split x ⟨#[c]⟩)
  rw [StrLaws.join_split] at h
  rw [StrLaws.replace_one, ts_join, h]
  refine (rpl_jn (c := c) fun p hp => ?_).symm
  obtain ⟨s, hs, rfl⟩ := List.mem_map.mp hp
  exact StrLaws.split_free x c s hs
section
variable {X : Cx}
end
end L2
namespace L2
open PySem PySem.Spec PyProof.Rows
end L2
namespace L2
open PySem PySem.Spec PyProof.Rows
section
variable {X : Cx}
end
end L2
namespace L2
open PySem PySem.Spec PyProof.Rows
section
variable {X : Cx}
theorem ps_nev {st : Stmt} : PS X st tNever := fun _ _ _ _ _ _ h => h.elim
/-- text.find(y, i) -/
def rFind : V → List V → Hp → VK → Prop := fun x vs H Q => ∃ (z y : Str) (i : Int), x = .str z ∧ vs = [.str y, .int i] ∧ Q (.int (Txt.find3 z y i)) H
theorem mt_find : MtR X "str.find" rFind := by
  intro pins s σ H x vs v us Q I rx rv h
  obtain ⟨z, y, i, rfl, rfl, q⟩ := h
  obtain ⟨t, rfl⟩ := rx
  obtain ⟨u1, u2, rfl, ⟨t1, rfl⟩, ⟨t2, rfl⟩⟩ := rv.two
  exact call_gives F.slot_str_find (typeIs_str _ _ _) F.entry_str_find (F.args_str_find_3 _ _ _) (gives_str_find_from z y i t t1 t2) ⟨.int _, H, I.tok _, ⟨_, rfl⟩, q⟩
theorem post_vs {s : Shared} {c : Prop} [inst : Decidable c] {y z : Str} {t : Tok} {Q : Value → Shared → Prop} (h : (if c then y else z).length ≤ sizeLine ∧ ∀ (t' : Tok) (k : Nat), s.toks ≤ k → Q (.str (if c then y else z) t') { s with toks := k }) :
    (if c then Made.val (.str y t) else Made.str z).post Q s := by
  by_cases hc : c
  · have h2 := h.2 t s.toks (Nat.le_refl _)
    rw [if_pos hc] at h2 ⊢
    exact h2
  · have h1 := h.1
    have h2 := h.2 s.toks (s.toks + 1) (Nat.le_succ _)
    rw [if_neg hc] at h1 h2 ⊢
    exact ⟨h1, h2⟩
/-- NAME[lo:-hi].replace(y, z) -/
def tReplSl (i : Nat) (lo hi : Int) (y z : Str) : TE := fun σ H Q => ∃ x, σ[i]? = some (some (.str x)) ∧ x.length ≤ 1000000 ∧ Q (.str (Txt.replace (Txt.slice x (some lo) (some (-hi))) y z)) H
theorem pe_repl_sl {x : Str} {i : Nat} {lo hi : Int} {y z : Str} {j1 j2 j3 j4 : Nat} {p0 p1 p2 p3 p4 p5 p6 p7 apos cpos : Pos} (hN : X.N[i]? = some x) (hv : Vis X.env.scope x) (hyz : (y == z) = false) (hz : z.length ≤ 14)
    (hline : (apos.endLine == cpos.line) = true := by rfl) (hd : (x == ("__debug__" : Str)) = false := by decide) (hcd : (x == ("__classdict__" : Str)) = false := by decide) :
    PE X (.Call (.Attribute (.Subscript (.Name x p0) (.Slice (some (.Constant (.int lo) j3 p3)) (some (.UnaryOp .USub (.Constant (.int hi) j4 p4) p5)) none p6) p7) "replace" apos) [.Constant (.str y) j1 p1, .Constant (.str z) j2 p2] [] cpos) (tReplSl i lo hi y z) := by
  intro pins s σ H Q I h
  obtain ⟨vx, e, hl, q⟩ := h
  refine wpAny_Call_method_late rfl rfl hline rfl ?_
  have hx : PE X (.Name x p0) (tVar i) := pe_var hN hv hd hcd
  refine Subscript_ (thn (hx pins s σ H (fun v H' => v = .str vx ∧ H' = H) I ⟨_, e, rfl, rfl⟩) fun v s1 ⟨xv, H1, I1, r1, e1, e2⟩ => ?_)
  subst e1 e2
  obtain ⟨t, rfl⟩ := r1
  refine wpAny_Slice ?_
  rw [evalPart_some]
  refine wpAny_Constant_int ?_
  rw [evalPart_some]
  refine UnaryOp_ (wpAny_Constant_int (neg_int ?_))
  rw [evalPart_none]
  refine wpAny_pure ?_
  have I4 : Inv X pins σ H1 { s1 with heap := s1.heap.push { cls := .type "slice", data := .fields #[.int lo s1.toks, .int (-hi) (s1.toks + 1 + 1), .none] }, toks := s1.toks + 1 + 1 + 1 } := I1.kept (t' := s1.toks + 1 + 1 + 1) fun b ob q => Heap.get?_push_of_some _ q
  have hg : wpAny (model X.prog X.w) X.A (getItem (.str vx t) (.ref s1.heap.objs.size)) (fun v s2 => ∃ t', v = .str (Txt.slice vx (some lo) (some (-hi))) t' ∧ Inv X pins σ H1 s2 ∧ 0 < s2.toks) X.xe { s1 with heap := s1.heap.push { cls := .type "slice", data := .fields #[.int lo s1.toks, .int (-hi) (s1.toks + 1 + 1), .none] }, toks := s1.toks + 1 + 1 + 1 } := by
    refine wpAny_getItem_str_slice (l := some (lo, s1.toks)) (u := some (-hi, s1.toks + 1 + 1)) (st := none) ?_ rfl ?_
    · obtain ⟨o, ho, hc, hd⟩ := Heap.IsSliceOf.new (h := s1.heap) (l := .int lo s1.toks) (u := .int (-hi) (s1.toks + 1 + 1)) (st := .none)
      exact ⟨o, ho, hc, hd⟩
    · have hsl := Txt.slice_le vx (some lo) (some (-hi))
      exact post_vs ⟨by rw [sizeLine_eq]; exact Nat.le_trans hsl (by omega), fun t' k hk => ⟨t', rfl, I4.tok _, Nat.lt_of_lt_of_le (Nat.succ_pos _) hk⟩⟩
  refine tail_any (ops := [.ref s1.heap.objs.size, .str vx t]) (typeIs_str _ _ _) F.slot_str_getitem.lookup (thn hg fun v s2 z => ?_) (by with_unfolding_all rfl)
  obtain ⟨t', rfl, I2, h0⟩ := z
  refine ⟨"str", "str.replace", F.plainAttrs_str, F.slot_str_replace, F.type_str_replace, typeIs_str _ _ _, (fun _ e => nomatch e), ?_⟩
  refine Calls.callWith_builtin rfl (Calls.evalArgs_plain ?_)
  refine Calls.spliced_cons (Calls.Constant_str (k := j1) (pos := p1) (Calls.spliced_cons (Calls.Constant_str (k := j2) (pos := p2) (Calls.spliced_nil ?_))))
  have hsl := Txt.slice_le vx (some lo) (some (-hi))
  refine SC.replaceW (Nat.pos_iff_ne_zero.mp h0) (Nat.succ_ne_zero _) (fun c => absurd (show s2.toks = s2.toks + 1 from c) (by omega)) hyz (by omega) hz fun t' k => ?_
  exact ⟨.str (Txt.replace (Txt.slice vx (some lo) (some (-hi))) y z), H1, I2.tok _, ⟨_, rfl⟩, q⟩
end
end L2
namespace L2
open PySem PySem.Builtin PySem.Builtin.Str
abbrev Tk := Nat × List Nat
def mkL : List Nat := [91, 93, 123, 125, 44, 58]
def dbl (x : List Nat) : List Nat := x.flatMap (rpl 39 [39, 39])
theorem dbl_nil : dbl [] = [] := rfl
theorem dbl_cons (c : Nat) (x : List Nat) : dbl (c :: x) = rpl 39 [39, 39] c ++ dbl x := List.flatMap_cons
theorem dbl_app (x y : List Nat) : dbl (x ++ y) = dbl x ++ dbl y := List.flatMap_append
theorem dbl_free {x : List Nat} (h : 39 ∉ x) : dbl x = x := rpl_free h
theorem dbl_len : ∀ x : List Nat, (dbl x).length ≤ 2 * x.length
  | [] => Nat.le_refl _
  | c :: x => by
    rw [dbl_cons, List.length_append, List.length_cons]
    have := dbl_len x
    have h : (rpl 39 [39, 39] c).length ≤ 2 := by
      unfold rpl
      split
      · exact Nat.le_refl _
      · exact Nat.le_succ _
    omega
def shw (t : Tk) : List Nat := if t.1 = 2 then 39 :: (dbl t.2 ++ [39]) else t.2
def OkTk (t : Tk) : Prop := t.2.length ≤ 100 ∧ ((t.1 = 0 ∧ ∃ s fs, t.2 = s ++ fs ∧ (s = [] ∨ s = [45]) ∧ fs ≠ [] ∧ ∀ c ∈ fs, c ∈ figL) ∨ (t.1 = 1 ∧ ∃ c r, t.2 = c :: r ∧ c ∈ letL ∧ ∀ d ∈ r, d ∈ letL ++ figL) ∨ (t.1 = 2 ∧ ∀ c ∈ t.2, c ∈ sgnL) ∨ (t.1 = 3 ∧ ∃ c, t.2 = [c] ∧ c ∈ mkL))
theorem OkTk.len {t : Tk} (h : OkTk t) : (shw t).length ≤ 202 := by
  have h1 := h.1
  unfold shw
  split
  · have := dbl_len t.2
    rw [List.length_cons, List.length_append]
    simp only [List.length_cons, List.length_nil]
    omega
  · omega
def runL (k : Nat) : List Nat := if k = 0 then figL else if k = 1 then letL ++ figL else if k = 2 then [39] else []
def Stops (k : Nat) (r : List Nat) : Prop := ∀ c r', r = c :: r' → c ∉ runL k
def headK (k c : Nat) : Prop := (k = 0 ∧ (c = 45 ∨ c ∈ figL)) ∨ (k = 1 ∧ c ∈ letL) ∨ (k = 2 ∧ c = 39) ∨ (k = 3 ∧ c ∈ mkL)
def stk (a b : Tk) : Bool := if b.2.take 1 = [45] ∧ b.1 = 0 then false else if a.1 = 1 then decide (b.1 = 1) || decide (b.1 = 0) else decide (a.1 = b.1) && !decide (a.1 = 3)
theorem sp_run : ∀ k : Nat, (32 : Nat) ∉ runL k := by
  intro k
  unfold runL
  split
  · decide +kernel
  · split
    · decide +kernel
    · split
      · decide +kernel
      · decide
theorem shw_head {t : Tk} (h : OkTk t) : ∃ c r, shw t = c :: r ∧ headK t.1 c ∧ (t.1 = 0 → c = 45 → t.2.take 1 = [45]) := by
  obtain ⟨_, h⟩ := h
  obtain ⟨k, x⟩ := t
  unfold shw headK
  rcases h with ⟨rfl, s, fs, e, hs, hn, hf⟩ | ⟨rfl, c, r, e, hc, _⟩ | ⟨rfl, _⟩ | ⟨rfl, c, e, hc⟩
  · have e : x = s ++ fs := e
    subst e
    rcases hs with rfl | rfl
    · obtain ⟨c, r, rfl⟩ := List.exists_cons_of_ne_nil hn
      exact ⟨c, r, rfl, .inl ⟨rfl, .inr (hf c List.mem_cons_self)⟩, fun _ e => by rw [e]; rfl⟩
    · exact ⟨45, fs, rfl, .inl ⟨rfl, .inl rfl⟩, fun _ _ => rfl⟩
  · have e : x = c :: r := e
    subst e
    exact ⟨c, r, rfl, .inr (.inl ⟨rfl, hc⟩), fun e => nomatch e⟩
  · exact ⟨39, _, rfl, .inr (.inr (.inl ⟨rfl, rfl⟩)), fun e => nomatch e⟩
  · have e : x = [c] := e
    subst e
    exact ⟨c, [], rfl, .inr (.inr (.inr ⟨rfl, hc⟩)), fun e => nomatch e⟩
theorem let_no : ∀ c ∈ letL, c ≠ 45 ∧ c ∉ figL ∧ c ≠ 39 := by decide +kernel
theorem fig_no : ∀ c ∈ figL, c ≠ 45 ∧ c ∉ letL ∧ c ≠ 39 := by decide +kernel
theorem mk_no : ∀ c ∈ mkL, c ≠ 45 ∧ c ∉ figL ∧ c ∉ letL ∧ c ≠ 39 := by decide +kernel
theorem q_no : (39 : Nat) ≠ 45 ∧ (39 : Nat) ∉ figL ∧ (39 : Nat) ∉ letL := by decide +kernel
theorem stops_of {t t' : Tk} (h : OkTk t) (h' : OkTk t') (hs : stk t t' = false) (z : List Nat) : Stops t.1 (shw t' ++ z) := by
  obtain ⟨c, r, e, hk, h45⟩ := shw_head h'
  intro d r' e'
  rw [e] at e'
  obtain ⟨rfl, _⟩ := List.cons.inj e'
  unfold stk at hs
  unfold runL
  have hk0 : t.1 = 0 ∨ t.1 = 1 ∨ t.1 = 2 ∨ t.1 = 3 := by
    rcases h.2 with ⟨a, _⟩ | ⟨a, _⟩ | ⟨a, _⟩ | ⟨a, _⟩
    · exact .inl a
    · exact .inr (.inl a)
    · exact .inr (.inr (.inl a))
    · exact .inr (.inr (.inr a))
  rcases hk with ⟨k0, hc⟩ | ⟨k1, hc⟩ | ⟨k2, rfl⟩ | ⟨k3, hc⟩
  · rcases hc with rfl | hc
    · rcases hk0 with a | a | a | a <;> rw [a] <;> decide +kernel
    · have hn : ¬ (t'.2.take 1 = [45] ∧ t'.1 = 0) := fun z => by
        have : (shw t').take 1 = [45] := by
          unfold shw
          rw [if_neg (by omega)]; exact z.1
        rw [e] at this
        have : c = 45 := by simpa using this
        exact (fig_no c hc).1 this
      rw [if_neg hn, k0] at hs
      have := fig_no c hc
      rcases hk0 with a | a | a | a
      · rw [a] at hs; exact absurd hs (by decide)
      · rw [a] at hs; exact absurd hs (by decide)
      · rw [a]; show c ∉ [39]; simp [this.2.2]
      · rw [a]; exact fun z => nomatch z
  · have := let_no c hc
    rw [if_neg (by omega), k1] at hs
    rcases hk0 with a | a | a | a
    · rw [a]; exact this.2.1
    · rw [a] at hs; exact absurd hs (by decide)
    · rw [a]; show c ∉ [39]; simp [this.2.2]
    · rw [a]; exact fun z => nomatch z
  · rw [if_neg (by omega), k2] at hs
    rcases hk0 with a | a | a | a
    · rw [a]; exact q_no.2.1
    · rw [a]; show 39 ∉ letL ++ figL; rw [List.mem_append]; exact fun z => z.elim q_no.2.2 q_no.2.1
    · rw [a] at hs; exact absurd hs (by decide)
    · rw [a]; exact fun z => nomatch z
  · have := mk_no c hc
    rcases hk0 with a | a | a | a
    · rw [a]; exact this.2.1
    · rw [a]; show c ∉ letL ++ figL; rw [List.mem_append]; exact fun z => z.elim this.2.2.1 this.2.1
    · rw [a]; show c ∉ [39]; simp [this.2.2.2]
    · rw [a]; exact fun z => nomatch z
theorem stops_nil (k : Nat) : Stops k [] := fun c r e => nomatch e
theorem stops_sp {k n : Nat} (h : 0 < n) (z : List Nat) : Stops k (List.replicate n 32 ++ z) := by
  obtain ⟨m, rfl⟩ := Nat.exists_eq_succ_of_ne_zero (Nat.pos_iff_ne_zero.mp h)
  intro c r e
  rw [List.replicate_succ] at e
  obtain ⟨rfl, _⟩ := List.cons.inj e
  exact sp_run k
theorem stops_sps {k n : Nat} : Stops k (List.replicate n 32) := by
  cases n with
  | zero => exact stops_nil k
  | succ n => simpa using stops_sp (k := k) (Nat.succ_pos n) []
def lay : List (Nat × Tk) → List Nat
  | [] => []
  | x :: r => List.replicate x.1 32 ++ (shw x.2 ++ lay r)
theorem lay_app : ∀ a b : List (Nat × Tk), lay (a ++ b) = lay a ++ lay b
  | [], b => rfl
  | x :: a, b => by
    show List.replicate x.1 32 ++ (shw x.2 ++ lay (a ++ b)) = _
    rw [lay_app a b]
    show _ = List.replicate x.1 32 ++ (shw x.2 ++ lay a) ++ lay b
    simp only [List.append_assoc]
def Chn (r : List (Nat × Tk)) : Prop := ∀ i x y, r[i]? = some x → r[i + 1]? = some y → stk x.2 y.2 = true → 0 < y.1
theorem Chn.snoc {r : List (Nat × Tk)} {y : Nat × Tk} (h : Chn r) (hy : ∀ x, r.getLast? = some x → stk x.2 y.2 = true → 0 < y.1) : Chn (r ++ [y]) := by
  intro i a b ha hb hs
  by_cases c : i + 1 < r.length
  · rw [List.getElem?_append_left (by omega)] at ha
    rw [List.getElem?_append_left c] at hb
    exact h i a b ha hb hs
  · have hi : i + 1 = r.length := by
      have := List.getElem?_eq_some_iff.mp hb
      obtain ⟨z, _⟩ := this
      rw [List.length_append] at z
      simp only [List.length_cons, List.length_nil] at z
      omega
    rw [List.getElem?_append_right (by omega), hi, Nat.sub_self] at hb
    have hb : y = b := by simpa using hb
    subst hb
    rw [List.getElem?_append_left (by omega)] at ha
    refine hy a ?_ hs
    rw [List.getLast?_eq_getElem?, ← ha]
    congr 1
    omega
/-- what stands behind a token -/
theorem stops_at {a c : List (Nat × Tk)} {x : Nat × Tk} {e : Nat} (hok : ∀ y ∈ a ++ x :: c, OkTk y.2) (hc : Chn (a ++ x :: c)) : Stops x.2.1 (lay c ++ List.replicate e 32) := by
  cases c with
  | nil => exact stops_sps
  | cons y c =>
    show Stops x.2.1 (List.replicate y.1 32 ++ (shw y.2 ++ lay c) ++ List.replicate e 32)
    rw [List.append_assoc]
    by_cases h0 : 0 < y.1
    · exact stops_sp h0 _
    · have h1 : y.1 = 0 := by omega
      rw [h1, List.replicate_zero, List.nil_append, List.append_assoc]
      refine stops_of (hok x (by simp)) (hok y (by simp)) ?_ _
      cases hs : stk x.2 y.2 with
      | false => rfl
      | true =>
        refine absurd (hc a.length x y ?_ ?_ hs) h0
        · rw [List.getElem?_append_right (Nat.le_refl _), Nat.sub_self]; rfl
        · rw [List.getElem?_append_right (Nat.le_succ _), show a.length + 1 - a.length = 1 by omega]; rfl
/-- signs in a run -/
def runN (S l : List Nat) : Nat := (l.takeWhile fun c => decide (c ∈ S)).length
theorem runN_app {S : List Nat} : ∀ {x r : List Nat}, (∀ c ∈ x, c ∈ S) → (∀ c r', r = c :: r' → c ∉ S) → runN S (x ++ r) = x.length
  | [], [], _, _ => rfl
  | [], c :: r, _, h => by
    unfold runN
    rw [List.nil_append, List.takeWhile_cons, decide_eq_false (h c r rfl)]; rfl
  | d :: x, r, h1, h2 => by
    have ih := runN_app (S := S) (x := x) (r := r) (fun c hc => h1 c (List.mem_cons_of_mem _ hc)) h2
    unfold runN at ih ⊢
    rw [List.cons_append, List.takeWhile_cons, decide_eq_true (h1 d List.mem_cons_self)]
    show (List.takeWhile _ (x ++ r)).length + 1 = x.length + 1
    rw [ih]
theorem runN_le (S l : List Nat) : runN S l ≤ l.length := (List.takeWhile_prefix _).length_le
theorem runN_lt {S l : List Nat} {j c : Nat} (hc : l[j]? = some c) (hj : j ≤ runN S l) : (c ∈ S ↔ j < runN S l) := by
  induction l generalizing j with
  | nil => cases hc
  | cons d l ih =>
    by_cases hd : d ∈ S
    · have e : runN S (d :: l) = runN S l + 1 := by
        unfold runN
        rw [List.takeWhile_cons, decide_eq_true hd]; rfl
      rw [e] at hj ⊢
      cases j with
      | zero =>
        have : d = c := by simpa using hc
        rw [← this]
        exact ⟨fun _ => Nat.succ_pos _, fun _ => hd⟩
      | succ j =>
        rw [List.getElem?_cons_succ] at hc
        have := ih hc (by omega)
        rw [this]
        omega
    · have e : runN S (d :: l) = 0 := by
        unfold runN
        rw [List.takeWhile_cons, decide_eq_false hd]; rfl
      rw [e] at hj ⊢
      have hj0 : j = 0 := by omega
      subst hj0
      have : d = c := by simpa using hc
      rw [← this]
      exact ⟨fun z => absurd z hd, fun z => absurd z (Nat.not_lt_zero _)⟩
def und : List Nat → List Nat
  | [] => []
  | [c] => [c]
  | c :: d :: r => if c = 39 ∧ d = 39 then 39 :: und r else c :: und (d :: r)
theorem und_dbl : ∀ x : List Nat, und (dbl x) = x
  | [] => rfl
  | c :: x => by
    have ih := und_dbl x
    rw [dbl_cons]
    unfold rpl
    by_cases h : c = 39
    · rw [if_pos h, h]
      show und (39 :: 39 :: dbl x) = 39 :: x
      rw [und, if_pos ⟨rfl, rfl⟩, ih]
    · rw [if_neg h]
      show und (c :: dbl x) = c :: x
      cases e : dbl x with
      | nil => rw [e] at ih; rw [← ih]; rfl
      | cons d r =>
        rw [und, if_neg fun z => h z.1, ← e, ih]
theorem und_skip : ∀ (n : Nat) (l : List Nat), (∀ k, k < n → ¬ (l[k]? = some 39 ∧ l[k + 1]? = some 39)) → und l = l.take n ++ und (l.drop n)
  | 0, l, _ => rfl
  | n + 1, [], _ => rfl
  | n + 1, [c], _ => by
    rw [List.take_succ_cons, List.drop_succ_cons, List.drop_nil, List.take_nil]; rfl
  | n + 1, c :: d :: r, h => by
    have h0 := h 0 (Nat.succ_pos _)
    have h0 : ¬ (c = 39 ∧ d = 39) := fun z => h0 ⟨by rw [z.1]; rfl, by rw [z.2]; rfl⟩
    rw [und, if_neg h0, und_skip n (d :: r) fun k hk => ?_]
    · rfl
    · have := h (k + 1) (by omega)
      simpa using this
theorem ts_glued (z : Str) : ∀ (ps : List Str) (p : Str), ts (glued z (p :: ps)) = ts p ++ ps.flatMap fun q => ts z ++ ts q := by
  intro ps p
  show (List.foldl (fun acc p => acc ++ z.cps ++ p.cps) p.cps ps).toList = p.cps.toList ++ _
  generalize p.cps = a
  induction ps generalizing a with
  | nil => simp
  | cons q ps ih =>
    rw [List.foldl_cons, ih]
    simp [ts, List.append_assoc]
theorem sub_ts (L : List Nat) (i j : Nat) : ts (strSub (tx L) i j) = (L.drop i).take (j - i) := by
  show (L.toArray.extract i j).toList = _
  simp [List.extract_eq_drop_take]
theorem at_iff (L : List Nat) (k : Nat) : StrLaws.At (tx L) (tx [39, 39]) L.length k ↔ L[k]? = some 39 ∧ L[k + 1]? = some 39 := by
  have e : (subAt (tx L) (tx [39, 39]) k = true) ↔ (L.drop k).take 2 = [39, 39] := by
    show ((L.toArray.extract k (k + 2)) == #[39, 39]) = true ↔ _
    rw [beq_iff_eq]
    constructor
    · intro h
      have := congrArg Array.toList h
      simpa [List.extract_eq_drop_take] using this
    · intro h
      apply Array.toList_inj.mp
      simpa [List.extract_eq_drop_take] using h
  show k + 2 ≤ L.length ∧ _ ↔ _
  rw [e]
  constructor
  · rintro ⟨h1, h2⟩
    have a0 := congrArg (fun l : List Nat => l[0]?) h2
    have a1 := congrArg (fun l : List Nat => l[1]?) h2
    simp only [List.getElem?_take, List.getElem?_drop] at a0 a1
    exact ⟨by simpa using a0, by simpa using a1⟩
  · rintro ⟨h1, h2⟩
    obtain ⟨l2, e2⟩ := List.getElem?_eq_some_iff.mp h2
    obtain ⟨l1, e1⟩ := List.getElem?_eq_some_iff.mp h1
    refine ⟨by omega, ?_⟩
    rw [List.drop_eq_getElem_cons l1, List.drop_eq_getElem_cons l2, e1, e2]; rfl
def prts (L : List Nat) (lo : Nat) (occs : List Nat) : List Str := ((lo :: occs.map (· + 2)).zip (occs ++ [L.length])).map fun x => strSub (tx L) x.1 x.2
theorem prts_cons (L : List Nat) (lo c : Nat) (r : List Nat) : prts L lo (c :: r) = strSub (tx L) lo c :: prts L (c + 2) r := rfl
theorem prts_ne (L : List Nat) (lo : Nat) : ∀ occs : List Nat, ∃ q qs, prts L lo occs = q :: qs
  | [] => ⟨_, _, rfl⟩
  | c :: r => ⟨_, _, rfl⟩
theorem prts_und (L : List Nat) {f : Nat} (hf : ∀ k, f ≤ k → ¬ StrLaws.At (tx L) (tx [39, 39]) L.length k) : ∀ (occs : List Nat) (lo : Nat), StrLaws.ChainG (tx L) (tx [39, 39]) L.length lo occs f → ts (glued (tx [39]) (prts L lo occs)) = und (L.drop lo)
  | [], lo, h => by
    rw [StrLaws.ChainG.eq_1] at h
    subst h
    have e : prts L f [] = [strSub (tx L) f L.length] := rfl
    rw [e, ts_glued, sub_ts, List.flatMap_nil, List.append_nil]
    have e2 : (L.drop f).take (L.length - f) = L.drop f := List.take_of_length_le (by rw [List.length_drop]; exact Nat.le_refl _)
    have u := und_skip (L.drop f).length (L.drop f) fun k _ z => by
      refine hf (f + k) (Nat.le_add_right _ _) ((at_iff L _).mpr ⟨?_, ?_⟩)
      · simpa [List.getElem?_drop] using z.1
      · simpa [List.getElem?_drop, Nat.add_assoc] using z.2
    rw [e2, u, List.take_length, List.drop_length]
    exact (List.append_nil _).symm
  | c :: r, lo, h => by
    rw [StrLaws.ChainG.eq_2] at h
    obtain ⟨h1, h2, h3, h4⟩ := h
    have ih := prts_und L hf r (c + 2) h4
    obtain ⟨q, qs, e⟩ := prts_ne L (c + 2) r
    rw [prts_cons, e, ts_glued, sub_ts, List.flatMap_cons, List.append_assoc]
    rw [e, ts_glued] at ih
    rw [ih]
    have u := und_skip (c - lo) (L.drop lo) fun k hk z => by
      refine h3 (lo + k) (Nat.le_add_right _ _) (by omega) ((at_iff L _).mpr ⟨?_, ?_⟩)
      · simpa [List.getElem?_drop] using z.1
      · simpa [List.getElem?_drop, Nat.add_assoc] using z.2
    rw [u, List.drop_drop, show lo + (c - lo) = c by omega]
    obtain ⟨a0, a1⟩ := (at_iff L c).mp h2
    obtain ⟨l2, e2⟩ := List.getElem?_eq_some_iff.mp a1
    obtain ⟨l1, e1⟩ := List.getElem?_eq_some_iff.mp a0
    rw [List.drop_eq_getElem_cons l1, List.drop_eq_getElem_cons l2, e1, e2, und, if_pos ⟨rfl, rfl⟩]
    rfl
/-- two quotes told as one -/
theorem repl2 (L : List Nat) : Txt.replace (tx L) (tx [39, 39]) (tx [39]) = tx (und L) := by
  obtain ⟨f, hc, hf⟩ := StrLaws.occ_tight (tx L) (tx [39, 39]) (by decide)
  rw [show (tx L).length = L.length from tx_len L] at hc hf
  have h := prts_und L hf _ 0 hc
  rw [List.drop_zero] at h
  unfold Txt.replace
  rw [show (tx L).length = L.length from tx_len L]
  split
  · rename_i c
    have c' : (occurrences (tx L) (tx [39, 39]) 0 L.length (L.length + 1)).isEmpty = true := by
      rw [show ((tx [39, 39]).length == 0 && (tx [39]).length == 0) = false from rfl, Bool.or_false] at c
      exact c
    rw [List.isEmpty_iff.mp c'] at h
    have e : prts L 0 [] = [strSub (tx L) 0 L.length] := rfl
    rw [e, ts_glued, sub_ts, List.flatMap_nil, List.append_nil, List.drop_zero, Nat.sub_zero, List.take_length] at h
    rw [← h]
  · apply str_ext
    rw [ts_tx, ← h]
    rfl
theorem repl2_dbl (x : List Nat) : Txt.replace (tx (dbl x)) (tx [39, 39]) (tx [39]) = tx x := by rw [repl2, und_dbl]
theorem find_first {L u rest : List Nat} {lo : Nat} (h : L.drop lo = u ++ 39 :: rest) (hu : 39 ∉ u) : Txt.find3 (tx L) (tx [39]) (lo : Int) = ((lo + u.length : Nat) : Int) := by
  have hl := congrArg List.length h
  rw [List.length_drop, List.length_append, List.length_cons] at hl
  have hlo : fromIndex (tx L).length (lo : Int) = lo := by
    unfold fromIndex
    rw [if_neg (by omega)]
    omega
  have hg : ∀ j, (tx L).cps.getD (lo + j) 0 = (u ++ 39 :: rest).getD j 0 := fun j => by
    rw [← h]
    show L.toArray.getD (lo + j) 0 = _
    simp [List.getD_eq_getElem?_getD]
  have hat : (tx L).cps.getD (lo + u.length) 0 = 39 := by
    rw [hg, List.getD_eq_getElem?_getD, List.getElem?_append_right (Nat.le_refl _), Nat.sub_self]; rfl
  have hbe : ∀ j, j < u.length → (tx L).cps.getD (lo + j) 0 ≠ 39 := fun j hj z => by
    rw [hg, List.getD_eq_getElem?_getD, List.getElem?_append_left hj] at z
    rw [List.getElem?_eq_getElem hj] at z
    exact hu (by rw [← show u[j] = 39 from z]; exact List.getElem_mem hj)
  have hln : (tx L).length = L.length := tx_len L
  rcases StrLaws.find3_spec (tx L) 39 (lo : Int) with ⟨_, n⟩ | ⟨k, e, k1, k2, k3, k4⟩
  · rw [hlo] at n
    exact absurd hat (n (lo + u.length) (by omega) (by omega))
  · rw [hlo] at k1 k4
    rw [show (tx [39] : Str) = ⟨#[39]⟩ from rfl, e]
    congr 1
    rcases Nat.lt_trichotomy k (lo + u.length) with c | c | c
    · obtain ⟨j, rfl⟩ := Nat.exists_eq_add_of_le k1
      exact absurd k3 (hbe j (by omega))
    · exact c
    · exact absurd hat (k4 _ (by omega) c)
end L2
namespace L2
open PySem PySem.Spec PyProof.Rows
section
variable {P : Program} {w : World} {A : Around} {s : Shared} {E : Value → Shared → Prop}
end
section
variable {X : Cx}
end
end L2
namespace L2
open PySem PySem.Spec PyProof.Rows PySem.W
/-- kept, but for the frames' slots, and what stands at xs -/
structure Kp (fs xs : List Addr) (h h' : Heap) : Prop where
  keep : ∀ b o, h.get? b = some o → b ∉ fs → b ∉ xs → h'.get? b = some o
  slot : ∀ b o, h.get? b = some o → b ∈ fs → b ∉ xs → ∃ sl, h'.get? b = some { o with slots := sl }
theorem Kp.refl {fs xs : List Addr} {h : Heap} : Kp fs xs h h := ⟨fun _ _ e _ _ => e, fun _ o e _ _ => ⟨o.slots, e⟩⟩
theorem Kp.trans {fs xs ys zs : List Addr} {h h1 h2 : Heap} (a : Kp fs xs h h1) (b : Kp fs ys h1 h2) (hz : ∀ c, c ∈ xs ∨ (c ∈ ys ∧ h.get? c ≠ none) → c ∈ zs) : Kp fs zs h h2 where
  keep c o e hf hx := b.keep c o (a.keep c o e hf fun z => hx (hz c (.inl z))) hf fun z => hx (hz c (.inr ⟨z, by rw [e]; exact fun z => nomatch z⟩))
  slot c o e hf hx := by
    obtain ⟨sl, e1⟩ := a.slot c o e hf fun z => hx (hz c (.inl z))
    obtain ⟨sl2, e2⟩ := b.slot c _ e1 hf fun z => hx (hz c (.inr ⟨z, by rw [e]; exact fun z => nomatch z⟩))
    exact ⟨sl2, e2⟩
theorem fun_kp {base h h' : Heap} {fs xs : List Addr} (k : Kp fs xs h h') : ∀ {l : List Env}, (∀ b ∈ frs l, b ∈ fs ∧ b ∉ xs) → h.FunFrames base l → h'.FunFrames base l
  | [], _, _ => by rw [Heap.FunFrames.eq_1]; exact True.intro
  | env :: l, hm, hf => by
    rw [Heap.FunFrames.eq_2] at hf ⊢
    obtain ⟨a, ⟨L, o, e1, e2, e3, e4⟩, r⟩ := hf
    have hL : L ∈ frs (env :: l) := by unfold frs; rw [List.filterMap_cons, e1]; exact List.mem_cons_self
    obtain ⟨sl, e5⟩ := k.slot L o e3 (hm L hL).1 (hm L hL).2
    exact ⟨a, ⟨L, _, e1, e2, e5, e4⟩, fun_kp k (fun b hb => hm b (by unfold frs; rw [List.filterMap_cons, e1]; exact List.mem_cons_of_mem _ hb)) r⟩
/-- an exception at x, of class C, with its dict d, traced by T -/
def Fl (h : Heap) (x T : Addr) (C : Value) (d : Option Addr) (a0 fl : Value) : Prop := ∃ (oe : Obj) (vs : Array Value) (oT : Obj) (ts : Array Value), h.get? x = some oe ∧ oe.cls = C ∧ oe.dict = d ∧ oe.data = .fields vs ∧ vs[0]? = some a0 ∧ vs[1]? = some (.ref T) ∧ T ≠ x ∧ h.get? T = some oT ∧ oT.data = .fields ts ∧ ts[3]? = some fl
theorem mf_eq {o : Obj} {vs : Array Value} (h : o.data = .fields vs) (f : Array Value → Array Value) : Obj.mapFields f o = { o with data := .fields (f vs) } := by
  obtain ⟨c, d, da, sl⟩ := o
  cases h
  rfl
section
variable {M : Model} {A : Around} {E : Value → Shared → Prop} {s : Shared} {env : Env} {outer : List Env} {x T L : Addr} {C a0 fl : Value} {d : Option Addr} {base : Heap} {Q : Unit → Shared → Prop}
theorem up_get {h : Heap} {a : Addr} {o : Obj} {vs : Array Value} (e : h.get? a = some o) (hd : o.data = .fields vs) (i : Nat) (v : Value) : (h.update a (Obj.mapFields fun xs => xs.setIfInBounds i v)).get? a = some { o with data := .fields (vs.setIfInBounds i v) } := by
  rw [← mf_eq hd (fun xs => xs.setIfInBounds i v)]
  exact Heap.get?_update_self _ e (by rw [mf_eq hd]; rfl)
/-- its trace is told to be in no frame -/
theorem flight_none (F : Fl s.heap x T C d a0 fl) (q : ∀ h', Fl h' x T C d a0 .none → Kp [] [T] s.heap h' → Q () { s with heap := h' }) : wpAny M A (setFlight (.ref x) none) Q E s := by
  obtain ⟨oe, vs, oT, ts, e1, e2, e3, e4, e5, e6, e7, e8, e9, e10⟩ := F
  unfold setFlight
  refine wpAny_bind (wpAny_field e1 e4 e6 ?_)
  rw [if_pos (by rfl)]
  have hsz : 3 < ts.size := by
    obtain ⟨z, _⟩ := Array.getElem?_eq_some_iff.mp e10
    exact z
  refine wpAny_setField e8 e9 hsz ?_
  have hT := up_get e8 e9 3 .none
  refine q _ ⟨oe, vs, _, _, (Heap.get?_update_other _ _ e7).trans e1, e2, e3, e4, e5, e6, e7, hT, rfl, ?_⟩ ⟨fun b o e _ hb => (Heap.get?_update_other _ _ fun z => hb (by rw [z]; exact List.mem_cons_self)).trans e, fun b o e hb => nomatch hb⟩
  show (ts.setIfInBounds 3 Value.none)[3]? = some Value.none
  rw [Array.getElem?_setIfInBounds_self_of_lt hsz]
theorem tail_x {oe : Obj} {vs : Array Value} {head : Value} {b : Bool} (hfr : A.frames = some (env :: outer)) (hfu : s.heap.FunFrames base (env :: outer)) (hL : env.frame = some L) (e1 : s.heap.get? x = some oe) (hx : x ∉ frs (env :: outer)) (e4 : oe.data = .fields vs) (e5 : vs[0]? = some a0) (hs : 1 < vs.size)
    (q : ∀ h' T', Fl h' x T' oe.cls oe.dict a0 (rawInt L) → Kp (frs (env :: outer)) [x] s.heap h' → s.heap.get? T' = none → Q () { s with heap := h' }) :
    wpAny M A (do
      let a ← PySem.frameOf env
      let pl ← entryPlaceOf L b
      let b ← EntryCells.newEntry head a .none (rawInt L) .none pl
      setField (.ref x) 1 b) Q E s := by
  refine wpAny_bind (wpAny_frameOf_fun hfr hfu hL fun h1 so => ?_)
  refine wpAny_bind (wpAny_entryPlaceOf fun pl hpl => ?_)
  refine wpAny_bind ?_
  unfold EntryCells.newEntry newFields
  have hpz : (([head, Value.ref L, Value.none, rawInt L, Value.none] ++ if pl.isEmpty = true then List.replicate 6 Value.none else pl).toArray).size ≤ sizeLine + 2 := by
    have : (if pl.isEmpty = true then List.replicate 6 Value.none else pl).length ≤ 6 := by
      rcases hpl with rfl | ⟨a, b, c, d, c9, b10, _, rfl⟩ <;> simp
    rw [List.size_toArray, List.length_append, sizeLine_eq]
    simp only [List.length_cons, List.length_nil]
    omega
  refine wpAny_newObj_type ?_ hpz
  obtain ⟨z1, z2, z3⟩ := so
  have x1 : h1.get? x = some oe := by rw [z2 x hx]; exact e1
  have hlt : x < h1.objs.size := Heap.lt_size x1
  refine wpAny_setField (Heap.get?_push_of_some _ x1) e4 hs ?_
  have hnew : h1.objs.size ≠ x := Nat.ne_of_gt hlt
  have hx2 := up_get (Heap.get?_push_of_some (o := { cls := .type "traceback", data := .fields ([head, Value.ref L, Value.none, rawInt L, Value.none] ++ if pl.isEmpty = true then List.replicate 6 Value.none else pl).toArray }) (h := h1) x1) e4 1 (.ref h1.objs.size)
  refine q _ h1.objs.size ⟨_, _, _, _, hx2, rfl, rfl, rfl, ?_, ?_, hnew, (Heap.get?_update_other _ _ (Ne.symm hnew)).trans (Heap.get?_push_size _ rfl), rfl, ?_⟩ ⟨fun b o e hb hb2 => ?_, fun b o e hb hb2 => ?_⟩ ?_
  · rw [Array.getElem?_setIfInBounds_ne (by decide)]; exact e5
  · rw [Array.getElem?_setIfInBounds_self_of_lt hs]
  · simp
  · refine (Heap.get?_update_other _ _ fun z => hb2 (by rw [z]; exact List.mem_cons_self)).trans (Heap.get?_push_of_some _ ?_)
    rw [z2 b hb]; exact e
  · obtain ⟨sl, e'⟩ := z3 b o e
    exact ⟨sl, (Heap.get?_update_other _ _ fun z => hb2 (by rw [z]; exact List.mem_cons_self)).trans (Heap.get?_push_of_some _ e')⟩
  · rw [z1]
    exact Heap.get?_none_of_le (Nat.le_refl _)
/-- a new exception is noted in the frame -/
theorem note_new {oe : Obj} {vs : Array Value} (hfr : A.frames = some (env :: outer)) (hfu : s.heap.FunFrames base (env :: outer)) (hL : env.frame = some L) (e1 : s.heap.get? x = some oe) (hx : x ∉ frs (env :: outer)) (e4 : oe.data = .fields vs) (e5 : vs[0]? = some a0) (e6 : vs[1]? = some .none)
    (q : ∀ h' T', Fl h' x T' oe.cls oe.dict a0 (rawInt L) → Kp (frs (env :: outer)) [x] s.heap h' → s.heap.get? T' = none → Q () { s with heap := h' }) : wpAny M A (noteFrame (.ref x) env) Q E s := by
  have hs : 1 < vs.size := by
    obtain ⟨z, _⟩ := Array.getElem?_eq_some_iff.mp e6
    exact z
  unfold noteFrame
  rw [hL]
  refine wpAny_bind (wpAny_field e1 e4 e6 ?_)
  exact tail_x hfr hfu hL e1 hx e4 e5 hs q
/-- one that flies is noted in a frame further out -/
theorem note_on (hfr : A.frames = some (env :: outer)) (hfu : s.heap.FunFrames base (env :: outer)) (hL : env.frame = some L) (hx : x ∉ frs (env :: outer)) (hT : T ∉ frs (env :: outer)) (F : Fl s.heap x T C d a0 .none)
    (q : ∀ h' T', Fl h' x T' C d a0 (rawInt L) → Kp (frs (env :: outer)) [x, T] s.heap h' → s.heap.get? T' = none → Q () { s with heap := h' }) : wpAny M A (noteFrame (.ref x) env) Q E s := by
  obtain ⟨oe, vs, oT, ts, e1, e2, e3, e4, e5, e6, e7, e8, e9, e10⟩ := F
  have hs : 1 < vs.size := by
    obtain ⟨z, _⟩ := Array.getElem?_eq_some_iff.mp e6
    exact z
  have hsz : 3 < ts.size := by
    obtain ⟨z, _⟩ := Array.getElem?_eq_some_iff.mp e10
    exact z
  unfold noteFrame
  rw [hL]
  refine wpAny_bind (wpAny_field e1 e4 e6 ?_)
  rw [if_pos (by rfl)]
  refine wpAny_bind (wpAny_field e8 e9 e10 ?_)
  rw [if_neg (by intro z; cases (eq_of_beq z))]
  refine wpAny_bind (wpAny_setField e8 e9 hsz ?_)
  have k1 : Kp (frs (env :: outer)) [T] s.heap (s.heap.update T (Obj.mapFields fun x => x.setIfInBounds 3 Value.none)) := ⟨fun b o e _ hb => (Heap.get?_update_other _ _ fun z => hb (by rw [z]; exact List.mem_cons_self)).trans e, fun b o e hb hb2 => ⟨o.slots, (Heap.get?_update_other _ _ fun z => hb2 (by rw [z]; exact List.mem_cons_self)).trans e⟩⟩
  have hfu2 : (s.heap.update T (Obj.mapFields fun x => x.setIfInBounds 3 Value.none)).FunFrames base (env :: outer) := fun_kp k1 (fun b hb => ⟨hb, fun z => hT (by rw [← List.mem_singleton.mp z]; exact hb)⟩) hfu
  have x2 : (s.heap.update T (Obj.mapFields fun x => x.setIfInBounds 3 Value.none)).get? x = some oe := (Heap.get?_update_other _ _ e7).trans e1
  have q' := tail_x (E := E) (M := M) (A := A) (head := .ref T) (b := true) (s := { s with heap := s.heap.update T (Obj.mapFields fun x => x.setIfInBounds 3 Value.none) }) (Q := Q) hfr hfu2 hL x2 hx e4 e5 hs
  rw [e2, e3] at q'
  refine q' fun h' T' f k n => q h' T' f (k1.trans k fun c hc => ?_) ?_
  · rcases hc with z | z
    · rw [List.mem_singleton.mp z]; simp
    · rw [List.mem_singleton.mp z.1]; simp
  · cases e : s.heap.get? T' with
    | none => rfl
    | some o =>
      by_cases z : T' = T
      · subst z
        rw [up_get e8 e9] at n; cases n
      · have := k1.keep
        rw [(Heap.get?_update_other s.heap _ (Ne.symm z)).trans e] at n; cases n
end
section
variable {X : Cx} {pins : List (Addr × Obj)} {σ : St} {H H' : Hp} {s s' : Shared}
theorem ObjOk.got {P : Program} {w : World} {h : Heap} {a : Addr} {o : HO} (x : ObjOk P w H h a o) : ∃ ob, h.get? a = some ob := by
  induction o with
  | lst xs => obtain ⟨_, its, n, _, e⟩ := x; exact ⟨_, e⟩
  | tup xs => obtain ⟨_, its, _, ob, e, _⟩ := x; exact ⟨_, e⟩
  | dK kvs => obtain ⟨_, _, vs, _, ob, es, ep, e, _⟩ := x; exact ⟨_, e⟩
  | dT kvs => obtain ⟨_, _, xs, _, ob, es, ep, e, _⟩ := x; exact ⟨_, e⟩
  | set S n => obtain ⟨ob, es, ep, t, e, _⟩ := x; exact ⟨_, e⟩
  | ins C dx fs => obtain ⟨_, _, _, e, _⟩ := x; exact ⟨_, e⟩
  | own y => exact x
  | xd fs => obtain ⟨mA, ⟨od, es, ep, e, _⟩, _⟩ := x; exact ⟨_, e⟩
  | rng lo hi => obtain ⟨t, u, v, e⟩ := x; exact ⟨_, e⟩
  | frz ob u ih => exact ⟨_, x.1⟩
  | tbl ps => exact ⟨_, (show h.get? a = some _ from x)⟩
  | met f y => exact ⟨_, (show h.get? a = some _ from x)⟩
  | ext φ => exact x.2.1
/-- no frame lies in what is hidden from -/
theorem fr_data {B h : Heap} : ∀ {l : List Env}, h.FunFrames B l → ∀ b ∈ frs l, ∃ o, h.get? b = some o ∧ ∀ vs : Array Value, o.data ≠ .fields vs
  | [], _, b, hb => nomatch hb
  | env :: l, hf, b, hb => by
    rw [Heap.FunFrames.eq_2] at hf
    obtain ⟨_, ⟨L, o, e1, _, e3, e4⟩, r⟩ := hf
    unfold frs at hb
    rw [List.filterMap_cons, e1] at hb
    rcases List.mem_cons.mp hb with z | z
    · rw [z]; exact ⟨o, e3, e4⟩
    · exact fr_data r b z
/-- how an exception lies behind a call: at x, of class C, with its dict at d -/
def CXE (P : Program) (w : World) : CXT := fun outer H s E e s' => ∃ (x T : Addr) (C : Value) (d : Option Addr) (a0 : Value) (H' : Hp), e = .ref x ∧ s'.os = s.os ∧ AllBare s'.gens ∧ Un (frs outer) [] H H' s.heap s'.heap ∧ HOk P w H' s'.heap ∧
  s.heap.get? x = none ∧ s.heap.get? T = none ∧ H' x = none ∧ H' T = none ∧ Fl s'.heap x T C d a0 .none ∧ E C d H'
/-- a heap that differs by the frames' slots, the exception and its traces alone -/
theorem un_kp {fs xs : List Addr} {H0 H' : Hp} {h0 h h' : Heap} (u : Un fs [] H0 H' h0 h) (k : Kp fs xs h h') (h1 : ∀ b ∈ xs, h0.get? b = none) : Un fs [] H0 H' h0 h' where
  keep b o e n hf hx := k.keep b o (u.keep b o e n hf hx) hf fun z => by rw [h1 b z] at e; cases e
  slot b o e n hf hx := by
    obtain ⟨sl, e1⟩ := u.slot b o e n hf hx
    obtain ⟨sl2, e2⟩ := k.slot b _ e1 hf fun z => by rw [h1 b z] at e; cases e
    exact ⟨sl2, e2⟩
  free b o e n hx := u.free b o e n hx
  there b o e hx := by
    obtain ⟨o', e'⟩ := u.there b o e hx
    have nx : b ∉ xs := fun z => by rw [h1 b z] at e; cases e
    by_cases hf : b ∈ fs
    · obtain ⟨sl2, e2⟩ := k.slot b _ e' hf nx
      exact ⟨_, e2⟩
    · exact ⟨o', k.keep b o' e' hf nx⟩
  tups := u.tups
  frzs := u.frzs
  tbls := u.tbls
theorem hok_kp {P : Program} {w : World} {H : Hp} {fs xs : List Addr} {h h' : Heap} (x : HOk P w H h) (k : Kp fs xs h h') (hf : ∀ b ∈ fs, H b = none) (hx : ∀ b ∈ xs, H b = none) : HOk P w H h' := fun a o e =>
  (x a o e).stay (fun b u hb q => by
    have hn : H b ≠ none := by
      rcases hb with z | z
      · rw [z, e]; exact fun z => nomatch z
      · rw [z]; exact fun z => nomatch z
    exact k.keep b u q (fun z => hn (hf b z)) fun z => hn (hx b z)) (fun _ q => q) fun _ _ q => q
theorem kp_mono {fs fs' xs : List Addr} {h h' : Heap} (k : Kp fs xs h h') (hm : ∀ b, b ∈ fs → b ∈ fs' ∨ b ∈ xs) : Kp fs' xs h h' where
  keep b o e hf hx := k.keep b o e (fun z => (hm b z).elim hf hx) hx
  slot b o e hf hx := by
    by_cases z : b ∈ fs
    · exact k.slot b o e z hx
    · exact ⟨o.slots, k.keep b o e z hx⟩
/-- an exception of a callee leaves this frame -/
theorem leave_x {E : XK} {e : Value} {EE : Value → Shared → Prop} (I : Inv X pins σ H s) (hs : X.stack = X.env :: X.outer) (hf : X.env.frame = some X.env.locals) (hex : X.ex = []) (h : CXE X.prog X.w X.stack H s E e s') :
    wpAny (model X.prog X.w) X.A (leaving X.env e) (fun _ s3 => CXE X.prog X.w X.outer X.H₀ X.s₀ E e s3) EE s' := by
  obtain ⟨x, T, C, d, a0, H', rfl, os, bare, un, hok, hx, hT, hHx, hHT, fl, q⟩ := h
  have I2 : Inv X pins σ H' s' := I.call' os un hok bare (fun b z => absurd z (by simp))
  have old : ∀ b, s.heap.get? b = none → X.s₀.heap.get? b = none := fun b hb => by
    cases e : X.s₀.heap.get? b with
    | none => rfl
    | some o =>
      obtain ⟨o', e'⟩ := I.base.there b o e (by rw [hex]; exact fun z => nomatch z)
      rw [hb] at e'; cases e'
  have hfs : frs X.stack = X.env.locals :: X.fs := by
    rw [hs]; unfold frs; rw [List.filterMap_cons, hf]; rfl
  have hloc : X.s₀.heap.get? X.env.locals = none := Heap.get?_none_of_le I.ok.above
  have hfr := I.ok.frames
  rw [hs] at hfr
  have nfr : ∀ b, s.heap.get? b = none → b ∉ frs X.stack := fun b hb z => by
    obtain ⟨o, e, _⟩ := fr_data I.stack b z
    rw [hb] at e; cases e
  have nx := nfr x hx
  have nT := nfr T hT
  have st := I2.stack
  rw [hs] at nx nT st
  unfold leaving
  refine wpAny_bind (note_on hfr st hf nx nT fl fun h1 T1 f1 k1 n1 => ?_)
  refine flight_none f1 fun h2 f2 k2 => ?_
  rw [← hs] at k1
  have hbase := I2.base
  rw [hex] at hbase
  have hT1H : H' T1 = none := by
    cases e : H' T1 with
    | none => rfl
    | some o =>
      obtain ⟨ob, hob⟩ := ObjOk.got (I2.hok T1 o e)
      rw [n1] at hob; cases hob
  have hT1o : X.s₀.heap.get? T1 = none := by
    cases e : X.s₀.heap.get? T1 with
    | none => rfl
    | some o =>
      obtain ⟨o', e'⟩ := hbase.there T1 o e (fun z => nomatch z)
      rw [n1] at e'; cases e'
  have k3 : Kp (frs X.stack) [x, T, T1] s'.heap h2 := k1.trans (kp_mono k2 fun b hb => nomatch hb) fun c hc => by
    rcases hc with z | z
    · rcases List.mem_cons.mp z with z | z
      · rw [z]; simp
      · rw [List.mem_singleton.mp z]; simp
    · rw [List.mem_singleton.mp z.1]; simp
  have k4 : Kp X.fs [x, T, T1, X.env.locals] s'.heap h2 := by
    have k5 : Kp (frs X.stack) [x, T, T1, X.env.locals] s'.heap h2 := k3.trans Kp.refl (ys := []) fun c hc => by
      rcases hc with z | z
      · rcases List.mem_cons.mp z with z | z
        · rw [z]; simp
        · rcases List.mem_cons.mp z with z | z
          · rw [z]; simp
          · rw [List.mem_singleton.mp z]; simp
      · exact nomatch z.1
    refine kp_mono k5 fun b hb => ?_
    rw [hfs] at hb
    rcases List.mem_cons.mp hb with z | z
    · rw [z]; exact .inr (by simp)
    · exact .inl z
  refine ⟨x, T1, C, d, a0, H', rfl, I2.os, I2.bare, un_kp hbase k4 fun b hb => ?_, hok_kp I2.hok k3 I2.stkFree fun b hb => ?_, old x hx, hT1o, hHx, hT1H, f2, q⟩
  · rcases List.mem_cons.mp hb with z | z
    · rw [z]; exact old x hx
    · rcases List.mem_cons.mp z with z | z
      · rw [z]; exact old T hT
      · rcases List.mem_cons.mp z with z | z
        · rw [z]; exact hT1o
        · rw [List.mem_singleton.mp z]; exact hloc
  · rcases List.mem_cons.mp hb with z | z
    · rw [z]; exact hHx
    · rcases List.mem_cons.mp z with z | z
      · rw [z]; exact hHT
      · rw [List.mem_singleton.mp z]; exact hT1H
end
end L2
namespace L2
open PySem PySem.Spec PyProof.Rows PySem.W
/-- the class of an own exception, as it lies -/
def XObj (nm : Str) (C N : Addr) (bm : List Value) (o : Obj) : Prop := ∃ (q : Str) (bs : List Value) (hdct : Bool) (sn : List Str) (sub : List Value) (ab : Bool) (col : Option Bool) (dd : Option Addr) (k0 k1 k2 k3 k5 : Option Value), o = excClassObj nm q C N bs bm hdct sn sub ab col dd k0 k1 k2 k3 k5 "ValueError.__new__"
section
variable {M : Model} {A : Around} {E : Value → Shared → Prop} {s : Shared} {env : Env}
/-- raise x, x an instance of an own exception class -/
theorem raise_inst {nm : Str} {C N : Addr} {bm : List Value} {x : Sem Value} {Q : Flow → Shared → Prop} (hb : bm.contains (.type "BaseException") = true) (hh : A.handled = none)
    (h : wpAny M A x (fun v s1 => ∃ (e : Addr) (oe oC : Obj) (vs : Array Value), v = .ref e ∧ s1.heap.get? C = some oC ∧ XObj nm C N bm oC ∧ s1.heap.get? e = some oe ∧ oe.cls = .ref C ∧ oe.data = .fields vs ∧ vs[1]? = some .none ∧ E (.ref e) s1) E s) :
    wpAny M A (raiseStmt env (some x) none) Q E s := by
  unfold raiseStmt
  refine wpAny_bind (thn h fun v s1 ⟨e, oe, oC, vs, ev, hC, hX, he, hcl, hd, h1, q⟩ => ?_)
  subst ev
  obtain ⟨q', bs, hdct, sn, sub, ab, col, dd, k0, k1, k2, k3, k5, rfl⟩ := hX
  have hnc : ∀ c : ClassData, oe.data ≠ .cls c := fun c z => by rw [hd] at z; cases z
  refine wpAny_bind (wpAny_pure ?_)
  refine wpAny_bind (wpAny_holding ?_)
  unfold excFromValue isExcClass
  refine wpAny_bind (wpAny_bind (ks_wpAny_isType_inst he hnc ?_))
  rw [if_neg Bool.false_ne_true]
  refine wpAny_pure ?_
  rw [if_neg Bool.false_ne_true]
  unfold PySem.isInstance
  refine wpAny_bind (wpAny_bind (wpAny_typeOf_ref he ?_))
  rw [hcl]
  refine wpAny_isSubtype_exc hC ?_
  rw [show (Value.ref C :: bm).contains (Value.type "BaseException") = true by
    rw [List.contains_cons, hb, Bool.or_true], if_pos rfl]
  refine wpAny_pure ?_
  refine wpAny_bind (ks_wpAny_isType_inst he hnc ?_)
  rw [if_neg Bool.false_ne_true]
  unfold raisedInstance
  refine wpAny_bind (wpAny_bind (wpAny_typeOf_ref he ?_))
  rw [hcl]
  refine wpAny_bind (wpAny_typeOf_ref hC ?_)
  rw [if_pos (by rfl)]
  refine wpAny_pure ?_
  refine wpAny_bind ?_
  unfold setFlight
  refine wpAny_bind (wpAny_field he hd h1 ?_)
  rw [if_neg (by intro z; cases z)]
  refine wpAny_pure ?_
  exact wpAny_raiseNew_none hh q
end
end L2
namespace L2
open PySem PySem.Spec PyProof.Rows PySem.W
abbrev veMro : List Value := [.type "ValueError", .type "Exception", .type "BaseException", .type "object"]
/-- the exception as it is made -/
abbrev newExc (C t : Addr) : Obj := { cls := .ref C, data := .fields #[.ref t, .none, .none, .none, .bool false, .none] }
theorem tc_quiet (a : Args) : (Code.builtin "type.__call__" a).quiet = true := by
  unfold Code.quiet
  first | rfl | kernel_rfl | decide +kernel
theorem new_quiet (a : Args) : (Code.builtin "ValueError.__new__" a).quiet = true := by
  unfold Code.quiet
  first | rfl | kernel_rfl | decide +kernel
section
variable {prog : Program} {w : World} {A : Around} {K : Frag} {C fI N : Addr} {nm : Str} {bm : List Value} {o : Obj}
/-- C(..), C an own class below ValueError with an __init__ -/
theorem make_x {R : Result → Shared → Prop} {rest : List Value} {h : Heap} {g : Array GenState} {d : Drawn} {t : Nat} {os : OsState} (hK : K.In h) (lk : K.lookup C = some o) (hX : XObj nm C N bm o) (ht : tailIn K veMro bm = true) (hi : findIn K (.ref C) "__init__" = some (some (.ref fI))) (hf : typeIn K (.ref fI) = some (.type "function")) (hz : rest.length ≤ 100)
    (hh : codeAny (model prog w) (A.under (.builtin "type.__call__" ⟨.ref C :: rest, []⟩)) (.call (.ref fI) ⟨.ref (h.objs.size + 1) :: rest, []⟩) (InitBack (h.objs.size + 1) R) ⟨(h.push { cls := .type "tuple", data := .seq rest.toArray }).push (newExc C h.objs.size), g, d, t, os⟩) :
    codeAny (model prog w) A (.call (.ref C) ⟨rest, []⟩) R ⟨h, g, d, t, os⟩ := by
  have hC : h.get? C = some o := hK _ _ lk
  obtain ⟨q', bs, hdct, sn, sub, ab, col, dd, k0, k1, k2, k3, k5, rfl⟩ := hX
  have hT := tail_of_in hK ht
  refine codeAny_of_tree ?_
  show wpAny _ _ (callAny (.ref C) ⟨rest, []⟩) _ _ _
  unfold callAny
  refine wpAny_bind (wpAny_load hC ?_)
  show wpAny _ _ (callAny.viaDunder (.ref C) ⟨rest, []⟩) _ _ _
  unfold callAny.viaDunder specialOf
  refine wpAny_bind (wpAny_bind (wpAny_typeOf_ref hC ?_))
  rw [tc_lookup]
  refine wpAny_pure ?_
  dsimp only
  rw [tc_bind]
  refine wpAny_bind (wpAny_pure ?_)
  dsimp only
  refine wpAny_bind ?_
  unfold callAny.plainCallee
  refine wpAny_pure ?_
  rw [if_pos (by rfl)]
  refine wpAny_pure ⟨rfl, ?_⟩
  refine codeAny_call_builtin_at (tc_quiet _) F.entry_type_call (wpAny_check_type_call_sub hC ?_)
  show wpAny _ _ (Builtin.«type.__call__» ⟨.ref C :: rest, []⟩) _ _ _
  unfold Builtin.«type.__call__»
  dsimp only
  rw [if_neg (by intro z; cases (eq_of_beq z))]
  refine wpAny_bind (wpAny_mroOf_exc hC ?_)
  rw [if_neg (by intro z; cases z)]
  refine wpAny_bind (wpAny_madeBy_exc hC ?_)
  dsimp only
  refine wpAny_bind (wpAny_pure ?_)
  refine wpAny_bind (wpAny_holding (wpAny_call ?_))
  refine codeAny_call_builtin_code (new_quiet _) (wpAny_check_new_subT F.excBase_ValueError hT hC ?_)
  refine codeAny_exc_new_subT F.excBase_ValueError hT hC ?_ (by rw [sizeLine_eq]; omega)
  have k1' : ∀ b ob, h.get? b = some ob → ((h.push { cls := .type "tuple", data := .seq rest.toArray }).push (newExc C h.objs.size)).get? b = some ob := fun b ob e => Heap.get?_push_of_some _ (Heap.get?_push_of_some _ e)
  have hsz : (h.push { cls := .type "tuple", data := .seq rest.toArray }).objs.size = h.objs.size + 1 := Heap.size_push ..
  have he : ((h.push { cls := .type "tuple", data := .seq rest.toArray }).push (newExc C h.objs.size)).get? (h.objs.size + 1) = some (newExc C h.objs.size) := by
    rw [← hsz]; exact Heap.get?_push_size _ rfl
  have hK2 : K.In ((h.push { cls := .type "tuple", data := .seq rest.toArray }).push (newExc C h.objs.size)) := hK.keeps k1'
  have hC2 := k1' _ _ hC
  unfold PySem.isInstance
  refine wpAny_bind (wpAny_bind (wpAny_typeOf_ref he ?_))
  refine wpAny_isSubtype_exc hC2 ?_
  rw [show (Value.ref C :: bm).contains (Value.ref C) = true by simp, if_neg (by decide)]
  refine wpAny_bind (wpAny_holding ?_)
  unfold callSpecial? specialOf
  refine wpAny_bind (wpAny_bind (wpAny_typeOf_ref he ?_))
  refine Looks.here (looks_findIn hK2 hi) ?_
  dsimp only
  refine wpAny_holding (wpAny_bind (Looks.here (bind_fn hK2 _ hf) ?_))
  dsimp only
  refine wpAny_bind (wpAny_call (codeAny_mono hh fun r s' hr => ?_))
  cases r with
  | error e => exact hr
  | ok fl =>
    cases fl with
    | ret v =>
      obtain ⟨rfl, hr⟩ := hr
      refine wpAny_pure ?_
      dsimp only
      rw [if_neg (by intro z; cases z)]
      exact wpAny_pure hr
    | next => exact hr.elim
    | brk => exact hr.elim
    | cont => exact hr.elim
end
end L2
namespace L2
open PySem PySem.Spec PyProof.Rows PySem.W PySem.Builtin PySem.Builtin.ObjectAttr
section
variable {prog : Program} {w : World} {A : Around} {K : Frag} {C B x : Addr} {cd : ClassData} {ox : Obj} {name : Str} {v : Value}
theorem osa_x {R : Result → Shared → Prop} {s : Shared} {tk : Tok} (hK : K.In s.heap) (hc : clsIn K C = some cd) (hm : cd.mro = .ref C :: .ref B :: veMro) (hd : cd.hasDict = true) (hx : s.heap.get? x = some ox) (hcl : ox.cls = .ref C) (hnc : ∀ c, ox.data ≠ .cls c) (hdi : ox.dict = none)
    (hn : findIn K (.ref C) name = some none)
    (q : ∀ h' t', h'.get? x = some { ox with dict := some s.heap.objs.size } → h'.Ns1 s.heap.objs.size (fun y => if y = name then some v else none) → (∀ b o, b ≠ x → s.heap.get? b = some o → h'.get? b = some o) → R (.ok (.ret .none)) { s with heap := h', toks := t' }) :
    codeAny (model prog w) A (.call (.builtin "object.__setattr__") ⟨[.ref x, .str name tk, v], []⟩) R s := by
  have SF := PySem.F.store_ValueError
  obtain ⟨h, g, dr, t, os⟩ := s
  dsimp only at hK hx q
  have tp : Looks (model prog w) h (typeOf (.ref x)) (.ref C) := by
    intro A Q E s k q
    refine wpAny_typeOf_ref (k _ _ hx) ?_
    rw [hcl]; exact q
  have sub : Looks (model prog w) h (isInstance (.ref x) (.type "object")) true := tp.andThen (looks_mroIn hK (by
    unfold mroIn
    rw [hc, Option.bind_some, if_neg (by rw [hm]; exact Bool.false_ne_true), hm, List.contains_cons, List.contains_cons, show veMro.contains (.type "object") = true by decide, Bool.or_true, Bool.or_true]))
  refine codeAny_call_builtin SF.slot.plain SF.entry (@check_slot (model prog w) _ _ ⟨h, g, dr, t, os⟩ "object.__setattr__" "object" "__setattr__" (.ref x) [.str name tk, v] [] _ SF.kind SF.split sub (SF.args (.ref x) (.str name tk) v) ?_)
  have hmr : Looks (model prog w) h (mroOf (.ref C)) cd.mro := (looks_clsIn hK hc).andThen .now
  rw [osa_eq, refuse_eq]
  refine wpAny_bind (wpAny_bind (Looks.here tp (wpAny_bind (Looks.here hmr ?_))))
  rw [hm, refuseLoop_ref, refuseLoop_ref, SF.passes]
  refine wpAny_pure (wpAny_bind (Looks.here tp (wpAny_bind (Looks.here (looks_findIn hK hn) (wpAny_bind ?_)))))
  refine wpAny_pure ?_
  dsimp only
  unfold storeInOwnDict
  refine wpAny_bind (wpAny_pure ?_)
  rw [if_neg (by intro z; cases (eq_of_beq z))]
  refine wpAny_bind ?_
  show wpAny _ _ (instanceDict x true) _ _ _
  unfold instanceDict
  refine wpAny_bind (wpAny_loadPart hx ?_)
  obtain ⟨oc, odi, oda, osl⟩ := ox
  dsimp only at hcl hdi hnc
  subst hcl hdi
  dsimp only
  refine wpAny_bind (Looks.here (looks_clsIn hK hc) ?_)
  rw [hd]
  rw [if_neg (show ¬ ((!true) = true) from Bool.false_ne_true), if_neg (by simp [typeHasDict])]
  have main : wpAny (model prog w) A.in1 (do
          let d ← alloc { cls := Value.type "dict", data := Data.dict #[] }
          update x fun o => { cls := o.cls, dict := some d, data := o.data, slots := o.slots }
          dictMade (Value.ref C) x d)
      (fun a s' =>
      wpAny (model prog w) A.in1
        (match a with
        | some d => storeInDict d (Value.str name tk) name v
        | none => noDictFor (Value.ref x) (Value.ref C) name (none : Option Value).isSome)
        (fun fin s' =>
          match fin with
          | Fin.done f => R (Except.ok f) s'
          | Fin.again c' => c'.quiet = true ∧ codeAny (model prog w) A c' R s')
        (fun e s' => R (Except.error e) s') s')
    (fun e s' => R (Except.error e) s') { heap := h, gens := g, drawn := dr, toks := t, os := os } := by
    have hx₁ : (h.push { cls := .type "dict", data := .dict #[] }).get? x = some _ := Heap.get?_push_of_some _ hx
    have hxs : x ≠ h.objs.size := Nat.ne_of_lt (Heap.lt_size hx)
    refine wpAny_bind (wpAny_alloc' ?_)
    refine wpAny_bind (wpAny_update' hx₁ ?_)
    refine wpAny_pure ?_
    have hgd : ((h.push { cls := .type "dict", data := .dict #[] }).update x fun o => { cls := o.cls, dict := some h.objs.size, data := o.data, slots := o.slots }).get? h.objs.size = some { cls := .type "dict", data := .dict #[] } :=
      (Heap.get?_update_ne _ _ _ _ hxs.symm).trans (Heap.get?_push_at rfl rfl)
    have hnd : ((h.push { cls := .type "dict", data := .dict #[] }).update x fun o => { cls := o.cls, dict := some h.objs.size, data := o.data, slots := o.slots }).Ns h.objs.size (fun _ => none) :=
      ⟨_, #[], _, hgd, rfl, fun e he => absurd he (by simp), fun _ => rfl⟩
    show wpAny _ _ (storeInDict h.objs.size (.str name tk) name v) _ _ _
    unfold storeInDict newKeyGuard
    refine wpAny_bind (wpAny_pure (wpAny_bind (wpAny_nsSet1 (Heap.Ns1.of_empty hnd) fun h' hn' hs => ?_)))
    obtain ⟨oD, esD, epD, hoD, hdD, hcD⟩ := hn'.count (Within.cons name v Within.nil)
    refine wpAny_bind (wpAny_lookBehind hoD (by rw [hdD]; exact pastItsLine_dict (Nat.le_trans hcD (by rw [List.length_cons, List.length_nil, sizeLine_eq]; omega))) ?_)
    refine wpAny_pure ?_
    have hfr := (Heap.get?_some_iff.mp hx).2
    refine q h' _ ((hs.2 x hxs).trans (Heap.get?_update_self _ hx₁ ?_)) hn' fun b o hb e => ?_
    · cases oda <;> first | rfl | exact hfr
    · exact (hs.2 b (Nat.ne_of_lt (Heap.lt_size e))).trans ((Heap.get?_update_ne _ _ _ _ hb).trans (Heap.get?_push_of_some _ e))
  cases oda with
  | cls c => exact absurd rfl (hnc c)
  | _ => exact main
theorem set_x {E : Value → Shared → Prop} {Q : Unit → Shared → Prop} {s : Shared} (hK : K.In s.heap) (hc : clsIn K C = some cd) (hm : cd.mro = .ref C :: .ref B :: veMro) (hd : cd.hasDict = true) (hx : s.heap.get? x = some ox) (hcl : ox.cls = .ref C) (hnc : ∀ c, ox.data ≠ .cls c) (hdi : ox.dict = none)
    (hs : findIn K (.ref C) "__setattr__" = some (some (.builtin "object.__setattr__"))) (hn : findIn K (.ref C) name = some none)
    (q : ∀ h' t', h'.get? x = some { ox with dict := some s.heap.objs.size } → h'.Ns1 s.heap.objs.size (fun y => if y = name then some v else none) → (∀ b o, b ≠ x → s.heap.get? b = some o → h'.get? b = some o) → Q () { s with heap := h', toks := t' }) :
    wpAny (model prog w) A (setAttr (.ref x) name v) Q E s := by
  have hno : notCls ox = true := by
    unfold notCls
    obtain ⟨oc, odi, oda, osl⟩ := ox
    cases oda with
    | cls c => exact absurd rfl (hnc c)
    | _ => rfl
  refine set_plain (od := none) hK ⟨hx, hcl, hno, by rw [hdi]; trivial⟩ hs ?_
  exact osa_x (s := { s with toks := s.toks + 1 }) hK hc hm hd hx hcl hnc hdi hn fun h' t' a b c => q h' t' a b c
end
end L2
namespace L2
open PySem PySem.Spec PyProof.Rows PySem.W
/-- the facts of an own class of exceptions with an __init__, below B, which is below ValueError -/
structure XCls (K : Frag) (nm : Str) (C B fI : Addr) : Prop where
  obj : ∃ (N : Addr) (o : Obj), K.lookup C = some o ∧ XObj nm C N (.ref B :: veMro) o
  cd : ∃ cd, clsIn K C = some cd ∧ cd.mro = .ref C :: .ref B :: veMro ∧ cd.hasDict = true
  tl : tailIn K veMro (.ref B :: veMro) = true
  init : findIn K (.ref C) "__init__" = some (some (.ref fI))
  fn : typeIn K (.ref fI) = some (.type "function")
  set : findIn K (.ref C) "__setattr__" = some (some (.builtin "object.__setattr__"))
  at_ : findIn K (.ref C) "at" = some none
  kp : keepIn K (.ref C) = true
structure XBase (K : Frag) (B : Addr) : Prop where
  sp : specialIn K (.ref B) "__getattribute__" = some (some (.builtin "type.__getattribute__"))
  rd : readsIn K B (.type "type") = true
  init : findCls K (.ref B) (.type "type") "__init__" = some (.val (.builtin "ValueError.__init__"))
/-- an exception that is made: its class, its dict -/
def exO (x C : Addr) (d : Option Addr) : HO := .ext fun h => ∃ vs : Array Value, h.get? x = some { cls := .ref C, dict := d, data := .fields vs } ∧ vs.size = 6 ∧ vs[1]? = some .none
theorem exO_ok {P : Program} {w : World} {H : Hp} {h : Heap} {x C : Addr} {d : Option Addr} {vs : Array Value} (e : h.get? x = some { cls := .ref C, dict := d, data := .fields vs }) (h6 : vs.size = 6) (h1 : vs[1]? = some .none) : ObjOk P w H h x (exO x C d) :=
  ⟨⟨vs, e, h6, h1⟩, ⟨_, e⟩, fun _ _ ⟨vs, e, a, b⟩ k => ⟨vs, k _ e, a, b⟩⟩
theorem upd_id {H : Hp} {a : Addr} {o : HO} (h : H a = some o) : upd H a o = H := by
  funext b
  unfold upd
  split
  · rename_i e; rw [e, h]
  · rfl
theorem Un.also {fs ex : List Addr} {H H1 : Hp} {h h' : Heap} {a : Addr} {o : HO} (u : Un fs ex H H1 h h') (hp : h.objs.size ≤ a) (hn : H a = none) : Un fs ex H (upd H1 a o) h h' where
  keep := u.keep
  slot := u.slot
  free := fun b ob q n hx => by rw [upd_ne (Nat.ne_of_lt (Nat.lt_of_lt_of_le (Heap.lt_size q) hp))]; exact u.free b ob q n hx
  there := u.there
  tups := fun b xs q => by rw [upd_ne (ne_of_none q hn)]; exact u.tups b xs q
  frzs := fun b ob xs q => by rw [upd_ne (ne_of_none q hn)]; exact u.frzs b ob xs q
  tbls := fun b ps q => by rw [upd_ne (ne_of_none q hn)]; exact u.tbls b ps q
theorem HOk.also {P : Program} {w : World} {H : Hp} {h : Heap} {a : Addr} {o : HO} (x : HOk P w H h) (hn : H a = none) (new : ObjOk P w (upd H a o) h a o) : HOk P w (upd H a o) h := fun b u e => by
  by_cases hb : b = a
  · subst hb; rw [upd_same] at e; cases e; exact new
  · rw [upd_ne hb] at e
    exact (x b u e).stay (fun c v _ q => q) (fun c q => by rw [upd_ne (ne_of_none q hn)]; exact q) fun c xs q => by rw [upd_ne (ne_of_none q hn)]; exact q
section
variable {X : Cx} {pins : List (Addr × Obj)} {σ : St} {H : Hp} {s : Shared} {x C B fI : Addr} {nm : Str} {d : Option Addr}
theorem exO_is (I : Inv X pins σ H s) (h : H x = some (exO x C d)) : ∃ vs : Array Value, s.heap.get? x = some { cls := .ref C, dict := d, data := .fields vs } ∧ vs.size = 6 ∧ vs[1]? = some .none := (I.hok x _ h).1
/-- ValueError.__init__(x, u) -/
theorem call_init {Q : Value → Shared → Prop} {E : Value → Shared → Prop} {u : Value} (c : XCls X.K nm C B fI) (I : Inv X pins σ H s) (hH : H x = some (exO x C d)) (q : ∀ s', Inv X pins σ H s' → Q .none s') :
    wpAny (model X.prog X.w) X.A (call (.builtin "ValueError.__init__") [.ref x, u]) Q E s := by
  obtain ⟨N, o, lk, q', bs, hdct, sn, sub, ab, col, dd, k0, k1, k2, k3, k5, rfl⟩ := c.obj
  obtain ⟨vs, he, h6, h1⟩ := exO_is I hH
  have hT := tail_of_in I.kIn c.tl
  have hC := I.kIn _ _ lk
  have I' := I
  obtain ⟨h, g, dr, t, os⟩ := s
  dsimp only at he hC hT
  have F := F.excBase_ValueError
  obtain ⟨a0, h0⟩ : ∃ a0, vs[0]? = some a0 := ⟨_, Array.getElem?_eq_some_iff.mpr ⟨by omega, rfl⟩⟩
  refine wpAny_call (codeAny_call_builtin F.init.plain F.initEntry (wpAny_check_init_subT F hT hC he rfl ?_))
  unfold Builtin.«BaseException.__init__»
  dsimp only
  rw [if_neg (by simp)]
  have hsz : 0 < vs.size := by omega
  have he₁ := Heap.get?_push_of_some (h := h) { cls := .type "tuple", data := .seq [u].toArray } he
  have hup := up_get he₁ rfl 0 (.ref h.objs.size)
  have fin : Inv X pins σ H ⟨(h.push { cls := .type "tuple", data := .seq [u].toArray }).update x (Obj.mapFields fun xs => xs.setIfInBounds 0 (.ref h.objs.size)), g, dr, t, os⟩ := by
    rw [← upd_id hH]
    refine Inv.write (t' := t) I' (e := x) (by rw [hH]; exact True.intro) (.inl rfl) (fun b ob hb e => (Heap.get?_update_other _ _ (Ne.symm hb)).trans (Heap.get?_push_of_some _ e)) ⟨_, hup⟩ (exO_ok hup ?_ ?_)
    · rw [Array.size_setIfInBounds]; exact h6
    · rw [Array.getElem?_setIfInBounds_ne (by decide)]; exact h1
  refine wpAny_bind (wpAny_newTuple ?_ (by rw [sizeLine_eq]; simp))
  unfold Builtin.BaseException.bexcPut
  refine wpAny_bind (wpAny_bind (wpAny_field he₁ rfl h0 (wpAny_bind (wpAny_setField he₁ rfl hsz ?_))))
  have fin2 := q _ fin
  cases a0 with
  | ref a => exact wpAny_letGo (wpAny_pure fin2)
  | _ => exact wpAny_pure (wpAny_pure fin2)
end
end L2
namespace L2
open PySem PySem.Spec PyProof.Rows PySem.W
section
variable {X : Cx} {C B fI : Addr} {nm : Str}
/-- B.__init__(self, text), B the base -/
def tXInit (C : Addr) (t : TA) : TE := fun σ H Q => t σ H fun vs H1 => ∃ x v, vs = [.ref x, v] ∧ H1 x = some (exO x C none) ∧ Q .non H1
theorem pe_xinit {bn : Str} {p apos pos : Pos} {e : Expr} {es : List Expr} {t : TA} {pl : Sem Bool} (c : XCls X.K nm C B fI) (b : XBase X.K B) (hg : Gl X bn) (hm : X.mg bn = some (.ref B)) (ha : PA X (e :: es) t) (hdb : (bn == ("__debug__" : Str)) = false := by decide)
    (he : starEach (e :: es) X.env = (false, eval e X.env) :: starEach es X.env := by rfl) (hpl : (backTo pos (starEach es X.env)).any (·.1) = false := by rfl)
    (ht : eval (.Call (.Attribute (.Name bn p) "__init__" apos) (e :: es) [] pos) X.env = (do
      let ov ← eval (.Name bn p) X.env
      standAt apos.atName
      let (f, first) ← holding [ov] (getMethod ov "__init__" pl)
      callWith pos f first (backTo pos (starEach (e :: es) X.env)) (backToKw pos (keywordEach [] X.env))) := by rfl) :
    PE X (.Call (.Attribute (.Name bn p) "__init__" apos) (e :: es) [] pos) (tXInit C t) := by
  intro pins s σ H Q I h
  refine methodCall_KW (pl := pl) (ld_glob I hg hm ?_ hdb) ht
  refine method_cls I.kIn b.sp (cls_value I.kIn b.rd b.init (by decide +kernel) ?_)
  have I1 := I.tok (s.toks + 1)
  refine PyProof.Rows.callWith_builtin1 (thn (ha pos pins _ σ H _ I1 h) fun us s2 ⟨vs, H2, I2, r, x, v, e1, e2, q⟩ => ?_) he hpl
  subst e1
  obtain ⟨u1, u2, rfl, r1⟩ : ∃ u1 u2, us = [u1, u2] ∧ RelV (.ref x) u1 := by
    cases r with
    | cons a r =>
      cases r with
      | cons b r => cases r; exact ⟨_, _, rfl, a⟩
  obtain rfl : u1 = Value.ref x := r1
  exact call_init c I2 e2 fun s' I3 => ⟨.non, H2, I3, rfl, q⟩
/-- o.at = value, o an exception that is made -/
def tXSet (C : Addr) (f : Str) (tv ta : TE) : TS := fun D σ H => tv σ H fun v H1 => ta σ H1 fun o H2 => ∃ x, o = .ref x ∧ H2 x = some (exO x C none) ∧ ∀ d, H2 d = none → D.nx σ (upd (upd H2 x (exO x C (some d))) d (.xd [(f, v)]))
theorem ps_xset {o value : Expr} {pos' pos : Pos} {tv ta : TE} (c : XCls X.K nm C B fI) (hv : PE X value tv) (ha : PE X o ta) (hs : swapsWith value (some (.Attribute o "at" pos')) pos.line X.env = pure false := by rfl) : PS X (.Assign [.Attribute o "at" pos'] value pos) (tXSet C "at" tv ta) := by
  intro pins s σ H D I h
  refine plainObj_wpAny_Assign_Attribute (thn (hv pins s σ H _ I h) fun u s1 ⟨y, H1, I1, ry, q⟩ => thn (ha pins s1 σ H1 _ I1 q) fun ov s2 ⟨z, H2, I2, rx, x, ez, hH, q2⟩ => ?_) hs
  subst ez
  obtain rfl : ov = Value.ref x := rx
  obtain ⟨vs, he, h6, h1⟩ := exO_is I2 hH
  obtain ⟨cd, hc, hm, hd⟩ := c.cd
  refine set_x I2.kIn hc hm hd he rfl (fun _ z => by cases z) rfl c.set c.at_ fun h' t' g1 g2 g3 => ?_
  have hfr : H2 s2.heap.objs.size = none := I2.fresh
  have hne : s2.heap.objs.size ≠ x := fun z => by rw [z, hH] at hfr; cases hfr
  have hmu : Mut (H2 x) := by rw [hH]; exact True.intro
  have u1 : Un X.fs [] H2 (upd H2 x (exO x C (some s2.heap.objs.size))) s2.heap h' := Un.write (e := x) hmu (.inl rfl) g3 ⟨_, g1⟩
  have k1 : HOk X.prog X.w (upd H2 x (exO x C (some s2.heap.objs.size))) h' := I2.hok.write (e := x) hmu (.inl rfl) g3 ⟨_, g1⟩ (exO_ok g1 h6 h1)
  refine ⟨σ, _, I2.un (t' := t') (u1.also (a := s2.heap.objs.size) (o := .xd [("at", y)]) (Nat.le_refl _) hfr) (k1.also (by rw [upd_ne hne]; exact hfr) ?_), q2 _ hfr⟩
  refine ⟨_, g2, fun f => ?_⟩
  show RelO (List.lookup f [("at", y)]) _
  rw [List.lookup_cons, List.lookup_nil]
  by_cases z : f = "at"
  · subst z
    rw [if_pos rfl, beq_self_eq_true]
    exact ry
  · rw [if_neg z, show (f == ("at" : Str)) = false from beq_eq_false_iff_ne.mpr z]
    trivial
/-- what BadText.__init__ promises -/
def spXInit (C : Addr) : Sp := fun vs H Q _ => ∃ x v0 v, vs = [.ref x, v0, v] ∧ H x = some (exO x C none) ∧ ∀ d, H d = none → Q .non (upd (upd H x (exO x C (some d))) d (.xd [("at", v)]))
end
section
variable {X : Cx} {pins : List (Addr × Obj)} {σ : St} {H : Hp} {s : Shared} {x C : Addr} {d : Option Addr}
def drp (H : Hp) (x : Addr) : Hp := fun b => if b = x then none else H b
theorem drp_ne {b : Addr} (h : b ≠ x) : drp H x b = H b := if_neg h
theorem drp_at : drp H x x = none := if_pos rfl
/-- the frame is left by a new exception -/
theorem leave_new {E : XK} {EE : Value → Shared → Prop} (I : Inv X pins σ H s) (hs : X.stack = X.env :: X.outer) (hf : X.env.frame = some X.env.locals) (hex : X.ex = []) (hH : H x = some (exO x C d)) (hx0 : X.s₀.heap.get? x = none) (q : E (.ref C) d (drp H x)) :
    wpAny (model X.prog X.w) X.A (leaving X.env (.ref x)) (fun _ s3 => CXE X.prog X.w X.outer X.H₀ X.s₀ E (.ref x) s3) EE s := by
  obtain ⟨vs, he, h6, h1⟩ := exO_is I hH
  obtain ⟨a0, h0⟩ : ∃ a0, vs[0]? = some a0 := ⟨_, Array.getElem?_eq_some_iff.mpr ⟨by omega, rfl⟩⟩
  have hfs : frs X.stack = X.env.locals :: X.fs := by
    rw [hs]; unfold frs; rw [List.filterMap_cons, hf]; rfl
  have hloc : X.s₀.heap.get? X.env.locals = none := Heap.get?_none_of_le I.ok.above
  have hfr := I.ok.frames
  rw [hs] at hfr
  have nx : x ∉ frs X.stack := fun z => by
    have := I.stkFree x z
    rw [hH] at this; cases this
  have st := I.stack
  have nx' := nx
  rw [hs] at nx' st
  unfold leaving
  refine wpAny_bind (note_new hfr st hf he nx' rfl h0 h1 fun h1 T1 f1 k1 n1 => ?_)
  refine flight_none f1 fun h2 f2 k2 => ?_
  rw [← hs] at k1
  have hbase := I.base
  rw [hex] at hbase
  have hT1H : H T1 = none := by
    cases e : H T1 with
    | none => rfl
    | some o =>
      obtain ⟨ob, hob⟩ := ObjOk.got (I.hok T1 o e)
      rw [n1] at hob; cases hob
  have hT1o : X.s₀.heap.get? T1 = none := by
    cases e : X.s₀.heap.get? T1 with
    | none => rfl
    | some o =>
      obtain ⟨o', e'⟩ := hbase.there T1 o e (fun z => nomatch z)
      rw [n1] at e'; cases e'
  have k3 : Kp (frs X.stack) [x, T1] s.heap h2 := k1.trans (kp_mono k2 fun b hb => nomatch hb) fun c hc => by
    rcases hc with z | z
    · rw [List.mem_singleton.mp z]; simp
    · rw [List.mem_singleton.mp z.1]; simp
  have k4 : Kp X.fs [x, T1, X.env.locals] s.heap h2 := by
    have k5 : Kp (frs X.stack) [x, T1, X.env.locals] s.heap h2 := k3.trans Kp.refl (ys := []) fun c hc => by
      rcases hc with z | z
      · rcases List.mem_cons.mp z with z | z
        · rw [z]; simp
        · rw [List.mem_singleton.mp z]; simp
      · exact nomatch z.1
    refine kp_mono k5 fun b hb => ?_
    rw [hfs] at hb
    rcases List.mem_cons.mp hb with z | z
    · rw [z]; exact .inr (by simp)
    · exact .inl z
  have u1 : Un X.fs [] X.H₀ H X.s₀.heap h2 := un_kp hbase k4 fun b hb => by
    rcases List.mem_cons.mp hb with z | z
    · rw [z]; exact hx0
    · rcases List.mem_cons.mp z with z | z
      · rw [z]; exact hT1o
      · rw [List.mem_singleton.mp z]; exact hloc
  have ne : ∀ b o, H b = some o → (∀ φ, o ≠ .ext φ) → b ≠ x := fun b o e n z => by
    subst z
    rw [hH] at e
    exact n _ (Option.some.inj e).symm
  have u2 : Un X.fs [] X.H₀ (drp H x) X.s₀.heap h2 := ⟨u1.keep, u1.slot, fun b ob e n hx => by
      rw [drp_ne (fun z => by subst z; rw [hx0] at e; cases e)]; exact u1.free b ob e n hx, u1.there,
    fun b xs e => by have z := u1.tups b xs e; rw [drp_ne (ne b _ z fun _ y => nomatch y)]; exact z,
    fun b ob xs e => by have z := u1.frzs b ob xs e; rw [drp_ne (ne b _ z fun _ y => nomatch y)]; exact z,
    fun b ps e => by obtain ⟨m, z⟩ := u1.tbls b ps e; exact ⟨m, by rw [drp_ne (ne b _ z fun _ y => nomatch y)]; exact z⟩⟩
  have ok1 : HOk X.prog X.w (drp H x) s.heap := fun b o e => by
    by_cases z : b = x
    · subst z; rw [drp_at] at e; cases e
    · rw [drp_ne z] at e
      exact (I.hok b o e).stay (fun _ _ _ q => q) (fun c q => by rw [drp_ne (ne c _ q fun _ y => nomatch y)]; exact q) fun c xs q => by rw [drp_ne (ne c _ q fun _ y => nomatch y)]; exact q
  have dn : ∀ b, H b = none → drp H x b = none := fun b e => by
    unfold drp
    split
    · rfl
    · exact e
  refine ⟨x, T1, .ref C, d, a0, drp H x, rfl, I.os, I.bare, u2, hok_kp ok1 k3 (fun b hb => dn b (I.stkFree b hb)) fun b hb => ?_, hx0, hT1o, drp_at, dn _ hT1H, f2, q⟩
  rcases List.mem_cons.mp hb with z | z
  · rw [z]; exact drp_at
  · rw [List.mem_singleton.mp z]; exact dn _ hT1H
end
end L2
namespace L2
open PySem PySem.Spec PyProof.Rows PySem.W
theorem drp_made {H : Hp} {x d : Addr} {o u : HO} (hx : H x = none) (hd : d ≠ x) : drp (upd (upd H x o) d u) x = upd H d u := by
  funext b
  by_cases z : b = x
  · subst z
    rw [drp_at, upd_ne (Ne.symm hd), hx]
  · rw [drp_ne z]
    by_cases y : b = d
    · subst y; rw [upd_same, upd_same]
    · rw [upd_ne y, upd_ne z, upd_ne y]
section
variable {X : Cx} {C B fI : Addr} {nm : Str} {k : Nat} {fd : FuncData} {ps : List Str}
theorem run_makeX {pins : List (Addr × Obj)} {σ : St} {H : Hp} {s : Shared} {Qx : Value → Shared → Prop} {us : List Value} {v0 v : V} (c : XCls X.K nm C B fI) (F : FnOk X.prog X.w X.K X.mg X.base CX0 k fI fd ps (spXInit C)) (hr : Room (k + 1) X.A) (hb : Binds X.K fd ps []) (I : Inv X pins σ H s) (r : Vals [v0, v] us)
    (q : ∀ x d s', X.s₀.heap.get? x = none → H x = none → H d = none → d ≠ x → Inv X pins σ (upd (upd H x (exO x C (some d))) d (.xd [("at", v)])) s' → Qx (.ref x) s') : wpAny (model X.prog X.w) X.A (call (.ref C) us) Qx X.xe s := by
  obtain ⟨N, o, lk, hX⟩ := c.obj
  have hus : us.length ≤ 100 := by rw [← r.length]; show (2 : Nat) ≤ 100; decide
  have hx0 : X.s₀.heap.get? (s.heap.objs.size + 1) = none := Heap.get?_none_of_le (Nat.le_trans I.sz (Nat.le_succ _))
  have hHx : H (s.heap.objs.size + 1) = none := I.hok.fresh (Nat.le_succ _)
  have he : ((s.heap.push { cls := .type "tuple", data := .seq us.toArray }).push (newExc C s.heap.objs.size)).get? (s.heap.objs.size + 1) = some (newExc C s.heap.objs.size) := by
    rw [← (Heap.size_push .. : (s.heap.push { cls := .type "tuple", data := .seq us.toArray }).objs.size = s.heap.objs.size + 1)]; exact Heap.get?_push_size _ rfl
  have I2 := I.laid (t' := s.toks) (a := s.heap.objs.size + 1) (o := exO (s.heap.objs.size + 1) C none) (h' := (s.heap.push { cls := .type "tuple", data := .seq us.toArray }).push (newExc C s.heap.objs.size)) (fun b ob e => Heap.get?_push_of_some _ (Heap.get?_push_of_some _ e)) (Nat.le_succ _) (exO_ok he rfl rfl)
  have r2 : Vals [V.ref (s.heap.objs.size + 1), v0, v] (Value.ref (s.heap.objs.size + 1) :: us) := .cons rfl r
  have hsp : spXInit C [V.ref (s.heap.objs.size + 1), v0, v] (upd H (s.heap.objs.size + 1) (exO (s.heap.objs.size + 1) C none)) (fun u H2 => u = .non ∧ ∃ d, H d = none ∧ d ≠ s.heap.objs.size + 1 ∧ H2 = upd (upd H (s.heap.objs.size + 1) (exO (s.heap.objs.size + 1) C (some d))) d (.xd [("at", v)])) E0 := by
    refine ⟨_, v0, v, rfl, upd_same, fun d hd => ⟨rfl, d, ?_⟩⟩
    have hne : d ≠ s.heap.objs.size + 1 := fun z => by rw [z, upd_same] at hd; cases hd
    rw [upd_ne hne] at hd
    exact ⟨hd, hne, by rw [upd_upd]⟩
  have hl : ((Value.ref (s.heap.objs.size + 1) :: us) ++ []).length = ps.length := by
    rw [List.append_nil, ← r2.length]
    exact F.len _ _ _ _ hsp
  have hbt := hb _ (Value.ref (s.heap.objs.size + 1) :: us) I2.kIn hl
  rw [List.append_nil] at hbt
  have run := F.run _ X.stack _ _ ⟨Value.ref (s.heap.objs.size + 1) :: us, []⟩ (Value.ref (s.heap.objs.size + 1) :: us) _ _ E0 (hr.make C us []) (I2.env0.make C us []) hbt r2 hsp
  have I1 := I
  obtain ⟨h, g, dr, t, os⟩ := s
  refine wpAny_call (make_x I1.kIn lk hX c.tl c.init c.fn hus (codeAny_mono run fun r s' hq' => ?_))
  cases r with
  | error e => exact False.elim hq'
  | ok fl =>
    cases fl with
    | ret u =>
      obtain ⟨v', H', I3, rv, ev, d, hd, hne, rfl⟩ := I2.after hq'
      subst ev
      exact ⟨rv, q _ d s' hx0 hHx hd hne I3⟩
    | next => exact False.elim hq'
    | brk => exact False.elim hq'
    | cont => exact False.elim hq'
/-- raise C(text, at) -/
def tXRaise (C : Addr) (E : XK) (t : TA) : TS := fun _ σ H => t σ H fun vs H1 => ∃ v0 v, vs = [v0, v] ∧ ∀ d, H1 d = none → E (.ref C) (some d) (upd H1 d (.xd [("at", v)]))
/-- the class and its __init__, as a bundle -/
structure Xr (P : Program) (w : World) (K : Frag) (mg : Str → Option Value) (base : Heap) (k : Nat) (cn : Str) (C : Addr) : Prop where
  ex : ∃ (nm : Str) (B fI : Addr) (fd : FuncData) (ps : List Str), XCls K nm C B fI ∧ FnOk P w K mg base CX0 k fI fd ps (spXInit C) ∧ Binds K fd ps [] ∧ mg cn = some (.ref C)
/-- what the context of a def wants of an exception -/
def Lvs (X : Cx) (E : XK) : Prop := X.stack = X.env :: X.outer ∧ X.env.frame = some X.env.locals ∧ X.ex = [] ∧ ∀ e s', wpAny (model X.prog X.w) X.A (leaving X.env e) (fun _ s3 => CXE X.prog X.w X.outer X.H₀ X.s₀ E e s3) (fun e' s3 => CXE X.prog X.w X.outer X.H₀ X.s₀ E e' s3) s' → X.xe e s'
theorem passE {E : XK} (l : Lvs X E) : Passes (CXE X.prog X.w) X E := fun _ _ _ _ e s' I h => l.2.2.2 e s' (leave_x I l.1 l.2.1 l.2.2.1 h)
theorem ps_raiseX {E : XK} {cn : Str} {p pos rpos : Pos} {e : Expr} {es : List Expr} {t : TA} {j : Nat} (R : Xr X.prog X.w X.K X.mg X.base k cn C) (hr : Room j X.A) (hj : k + 1 ≤ j) (hg : Gl X cn) (hcalm : X.calm = true) (l : Lvs X E) (ha : PA X (e :: es) t) (hdb : (cn == ("__debug__" : Str)) = false := by decide)
    (he : starEach (e :: es) X.env = (false, eval e X.env) :: starEach es X.env := by rfl) (hpl : (backTo pos (starEach es X.env)).any (·.1) = false := by rfl) : PS X (.Raise (some (.Call (.Name cn p) (e :: es) [] pos)) none rpos) (tXRaise C E t) := by
  intro pins s σ H D I h
  obtain ⟨nm, B, fI, fd, ps, c, F, hb, hm⟩ := R.ex
  obtain ⟨hs, hf, hex, hxe⟩ := l
  rw [arm_exec_Raise]
  refine wpAny_bind (wpAny_standAt ?_)
  show wpAny _ _ (raiseStmt X.env (some (do let v ← eval (.Call (.Name cn p) (e :: es) [] pos) X.env; standAt rpos; pure v)) none) _ _ _
  obtain ⟨N, o, lk, hX⟩ := c.obj
  refine raise_inst (nm := nm) (C := C) (N := N) (bm := .ref B :: veMro) (by rw [List.contains_cons, show veMro.contains (.type "BaseException") = true by decide, Bool.or_true]) (I.ok.hd hcalm) (wpAny_bind ?_)
  refine wpAny_Call_Name_kw (ld_glob I hg hm ?_ hdb)
  refine callWith_K (h₀ := X.base) I.ok.mod.kin c.kp (thn (ha pos pins s σ H _ I h) fun us s1 ⟨vs, H1, I1, r, v0, v, ev, q⟩ => ⟨I1.kIn, ?_⟩) he hpl
  subst ev
  refine run_makeX c F (hr.mono hj) hb I1 r fun x d s2 hx0 hx hd hne I2 => ?_
  refine wpAny_bind (wpAny_standAt (wpAny_pure ?_))
  have hH : upd (upd H1 x (exO x C (some d))) d (.xd [("at", v)]) x = some (exO x C (some d)) := by rw [upd_ne (Ne.symm hne), upd_same]
  obtain ⟨vs, e1, h6, h1⟩ := exO_is I2 hH
  refine ⟨x, _, _, vs, rfl, I2.kIn _ _ lk, hX, e1, rfl, rfl, h1, hxe _ _ (leave_new I2 hs hf hex hH hx0 ?_)⟩
  rw [drp_made hx hne]
  exact q d hd
end
structure Dx (P : Program) (w : World) (K : PySem.W.Frag) (mg : Str → Option Value) (base : Heap) (k : Nat) (x : Str) (ps : List Str) (sp : Sp) : Prop where
  ex : ∃ (f : Addr) (fd : FuncData), FnOk P w K mg base (CXE P w) k f fd ps sp ∧ Binds K fd ps [] ∧ PySem.W.keepIn K (.ref f) = true ∧ mg x = some (.ref f)
section
variable {X : Cx} {k j : Nat} {x : Str} {ps : List Str} {sp : Sp} {e : Expr} {es : List Expr} {t : TA} {p pos : Pos} {E : XK}
theorem pe_cx (D : Dx X.prog X.w X.K X.mg X.base k x ps sp) (hr : Room j X.A) (hj : k ≤ j) (hg : Gl X x) (l : Lvs X E) (ha : PA X (e :: es) t) (hdb : (x == ("__debug__" : Str)) = false := by decide)
    (he : starEach (e :: es) X.env = (false, eval e X.env) :: starEach es X.env := by rfl) (hpl : (backTo pos (starEach es X.env)).any (·.1) = false := by rfl) : PE X (.Call (.Name x p) (e :: es) [] pos) (tCall sp [] E t) := by
  obtain ⟨f, fd, h1, h2, h3, h4⟩ := D.ex
  exact pe_call h1 (hr.mono hj) hg h4 h3 h2 .nil (passE l) ha hdb he hpl
end
section
variable {P : Program} {w : World} {K : PySem.W.Frag} {mg : Str → Option Value} {base : Heap} {k : Nat} {f : Addr} {fd : FuncData} {ps : List Str} {sp sp' : Sp} {CX : CXT}
theorem FnOk.lift (F : FnOk P w K mg base CX0 k f fd ps sp) : FnOk P w K mg base CX k f fd ps sp :=
  ⟨F.len, fun A outer s H args us vs Q E hr he hb hv hs => codeAny_mono (F.run A outer s H args us vs Q E hr he hb hv hs) fun r s' h => by
    cases r with
    | error e => exact False.elim h
    | ok fl => cases fl <;> exact h⟩
theorem FnOk.or (F : FnOk P w K mg base CX k f fd ps sp) (G : FnOk P w K mg base CX k f fd ps sp') : FnOk P w K mg base CX k f fd ps fun vs H Q E => sp vs H Q E ∨ sp' vs H Q E :=
  ⟨fun vs H Q E h => h.elim (F.len vs H Q E) (G.len vs H Q E), fun A outer s H args us vs Q E hr he hb hv hs => hs.elim (F.run A outer s H args us vs Q E hr he hb hv) (G.run A outer s H args us vs Q E hr he hb hv)⟩
/-- THE RULE for a def that raises -/
theorem Fun.okx {x qual : Str} {st : Stmt} {N : List Str} (F : Fun K x qual st f fd) (S : FnScope N ps (defScope st)) (len : ∀ vs H Q E, sp vs H Q E → vs.length = ps.length)
    (hbody : ∀ (cdv : Value) (A : Around) (outer : List Env) (s : Shared) (H : Hp) (vs : List V) (Q : VK) (E : XK), Room k (A.deeper (envOfC qual (defScope st) s.heap.objs.size f cdv)) → sp vs H Q E →
      ∃ t, PSs (cxOf (CXE P w) P w K mg base N qual (defScope st) f cdv A outer s H E) (defBody st) t ∧ t { nx := fun _ H' => Q .non H', rt := Q } (start N vs) H) : FnOk P w K mg base (CXE P w) (k + 1) f fd ps sp := by
  obtain ⟨oc, od, kV, doc, pm, an, cdv, ct, osl, rfl, lk, hcd⟩ := F.ex
  exact fn_of lk hcd S len fun A outer s H vs Q E hr hsp => hbody cdv A outer s H vs Q E hr hsp
theorem lvs {N : List Str} {qual : Str} {scope : Scope} {cd : Value} {A : Around} {outer : List Env} {s : Shared} {H : Hp} {E : XK} : Lvs (cxOf (CXE P w) P w K mg base N qual scope f cd A outer s H E) E := ⟨rfl, rfl, rfl, fun _ _ h => h⟩
end
end L2
namespace L2
open PySem PySem.Spec PyProof.Rows PySem.W PySem.Builtin PySem.Builtin.ObjectAttr
/-- what reading of an own exception asks of its class -/
structure XGet (K : Frag) (C : Addr) : Prop where
  ga : findIn K (.ref C) "__getattribute__" = some (some (.builtin "BaseException.__getattribute__"))
  gt : findIn K (.ref C) "__getattr__" = some none
  bx : mroIn K C (.type "BaseException") = some true
  ob : mroIn K C (.type "object") = some true
  hd : hasDictIn K C = true
  cl : findIn K (.ref C) "__class__" = some (some (.builtin "object.__class__"))
  cg : specialIn K (.builtin "object.__class__") "__get__" = some (some (.builtin "getset_descriptor.__get__"))
  ct : takesIn K (.builtin "object.__class__") = some true
section
variable {prog : Program} {w : World} {A : Around} {K : Frag} {C x : Addr} {ox od : Obj} {name : Str} {E : Value → Shared → Prop} {s : Shared}
theorem gax_by {tk : Tok} {fill expr : Bool} {Q : Value → Shared → Prop} (G : XGet K C) (hK : K.In s.heap) (I : InstAt s.heap x ox C (some od))
    (h : wpAny (model prog w) A.in1 (Builtin.«object.__getattribute__» ⟨[.ref x, .str name tk], []⟩) (fun fin s' => match fin with | .done (.ret v) => wpAny (model prog w) A (handedOut v) Q E s' | _ => False) (fun _ _ => False) s) :
    wpAny (model prog w) A (getAttrBy (.ref x) (.str name tk) fill expr) Q E s := by
  have hb : Looks (model prog w) s.heap (hookBefore (.ref C)) none := looks_hook hK (by rw [if_pos (by rfl)]; exact G.gt)
  have ht := I.type (M := model prog w)
  unfold getAttrBy
  refine wpAny_holding (wpAny_bind (ht _ _ _ _ (fun _ _ e => e) (wpAny_bind (looks_findIn hK G.ga _ _ _ _ (fun _ _ e => e) ?_))))
  dsimp only
  rw [show (onTheHeap (Value.ref C) && Value.builtin "BaseException.__getattribute__" == Value.builtin "object.__getattribute__") = false from by rw [show (Value.builtin "BaseException.__getattribute__" == Value.builtin "object.__getattribute__") = false from by decide +kernel, Bool.and_false], if_neg (by decide)]
  unfold getAttrByItsOwn
  refine wpAny_bind (hb _ _ _ _ (fun _ _ e => e) (wpAny_bind (wpAny_attempt (wpAny_holding ?_))))
  unfold callGetattribute
  rw [show (expr && onTheHeap (Value.builtin "BaseException.__getattribute__")) = false from Bool.and_false _, if_neg (by decide)]
  unfold boundAndCalled
  have FB := PySem.F.attr_ValueError
  rw [FB.ga.bind]
  refine wpAny_bind (wpAny_pure ?_)
  show wpAny _ _ (call (.builtin "BaseException.__getattribute__") [.ref x, .str name tk]) _ _ _
  refine wpAny_call ?_
  refine codeAny_call_builtin FB.ga.plain PySem.F.entry_bexc_ga ?_
  refine @check_slot (model prog w) _ _ s "BaseException.__getattribute__" "BaseException" "__getattribute__" (.ref x) [.str name tk] [] _ (by decide +kernel) (by decide +kernel) (ht.andThen (looks_mroIn hK G.bx)) (PySem.F.args_bexc_ga (.ref x) (.str name tk)) ?_
  refine wpAny_mono h (fun fin s' z => ?_) fun _ _ z => z.elim
  rcases fin with (_ | _ | _ | _) | _ <;> first | exact z | exact z.elim
theorem gax_value {v : Value} {expr : Bool} {Q : Value → Shared → Prop} (G : XGet K C) (hK : K.In s.heap) (I : InstAt s.heap x ox C (some od)) (hf : findObj K C (some od) name = some (.value v)) (hh : handedIn v = true) (h : Q v { s with toks := s.toks + 1 }) :
    wpAny (model prog w) A (getAttr (.ref x) name expr) Q E s := by
  unfold getAttr
  refine wpAny_bind (wpAny_mkText (gax_by (s := { s with toks := s.toks + 1 }) G hK I ?_))
  obtain ⟨hh', g, d, t, os⟩ := s
  have L0 := I.type (M := model prog w)
  have L1 := looks_find (M := model prog w) hK I hf
  unfold Builtin.«object.__getattribute__»
  refine wpAny_bind (wpAny_pure (wpAny_bind (wpAny_pure (wpAny_bind (L0.at (wpAny_bind (L1.at ?_)))))))
  refine wpAny_pure ?_
  show wpAny _ _ (handedOut v) _ _ _
  rw [handedOut_of hh]; exact wpAny_pure h
theorem gax_class {Q : Option Value → Shared → Prop} (G : XGet K C) (hK : K.In s.heap) (I : InstAt s.heap x ox C (some od)) (h : Q (some (.ref C)) { s with toks := s.toks + 1 }) :
    wpAny (model prog w) A (getAttr? (.ref x) "__class__") Q E s := by
  have hf : findObj K C (some od) "__class__" = some (.bind (.builtin "getset_descriptor.__get__") (.builtin "object.__class__")) := findObj_data (by obtain ⟨cd, hc, _⟩ := any_some G.hd; rw [hc]; rfl) G.cl G.cg G.ct
  unfold getAttr? getAttrBy?
  refine wpAny_bind (wpAny_mkText (wpAny_bind (wpAny_attempt (gax_by (s := { s with toks := s.toks + 1 }) G hK I ?_))))
  obtain ⟨hh', g, d, t, os⟩ := s
  have L0 := I.type (M := model prog w)
  have L1 := looks_find (M := model prog w) hK I hf
  unfold Builtin.«object.__getattribute__»
  refine wpAny_bind (wpAny_pure (wpAny_bind (wpAny_pure (wpAny_bind (L0.at (wpAny_bind (L1.at ?_)))))))
  show wpAny _ _ (holding [Value.builtin "object.__class__"] (call (.builtin "getset_descriptor.__get__") [.builtin "object.__class__", .ref x, .ref C]) >>= ret) _ _ _
  refine wpAny_bind (wpAny_holding (wpAny_call (class_get (s := ⟨hh', g, d, t + 1, os⟩) hK I G.ob ?_)))
  refine wpAny_pure ?_
  show wpAny _ _ (handedOut (.ref C)) _ _ _
  rw [handedOut_of rfl]
  exact wpAny_pure (wpAny_pure h)
theorem kitx_exc (G : XGet K C) : KitX K (.ref x) (.ref C) (fun h => ∃ ox od, InstAt h x ox C (some od)) where
  ty := fun _ _ _ ⟨_, _, I⟩ => I.type
  it := fun _ _ X _ => by
    obtain ⟨cdD, hcD, _⟩ := any_some G.hd
    unfold clsIn at hcD
    split at hcD
    · rename_i c' d' cd' sl' ho
      intro A' Q' E' s' k q
      unfold isType loadHead
      exact wpAny_bind (wpAny_loadPart (k _ _ (X _ _ ho)) (wpAny_pure q))
    · cases hcD
  ne := fun h tp dd its n sl X htp => by
    obtain ⟨cdD, hcD, _⟩ := any_some G.hd
    refine Bool.eq_false_iff.mpr fun q => ?_
    have e : C = tp := Value.ref.inj (beq_iff_eq.mp q)
    subst e
    unfold clsIn at hcD
    split at hcD
    · rename_i c' d' cd' sl' ho
      have z := (X _ _ ho).symm.trans htp
      cases z
    · cases hcD
  ca := fun X ⟨_, _, I⟩ k => gax_class G X I k
end
end L2
namespace L2
open PySem PySem.Spec PyProof.Rows PySem.W
def exF (x C : Addr) (d : Option Addr) : HO := .ext fun h => ∃ (ob : Obj) (vs : Array Value), h.get? x = some ob ∧ ob.cls = .ref C ∧ ob.dict = d ∧ ob.data = .fields vs
theorem exF_ok {P : Program} {w : World} {H : Hp} {h : Heap} {x C : Addr} {d : Option Addr} {ob : Obj} {vs : Array Value} (e : h.get? x = some ob) (h1 : ob.cls = .ref C) (h2 : ob.dict = d) (h3 : ob.data = .fields vs) : ObjOk P w H h x (exF x C d) :=
  ⟨⟨ob, vs, e, h1, h2, h3⟩, ⟨_, e⟩, fun _ _ ⟨ob, vs, e, a⟩ k => ⟨ob, vs, k _ e, a⟩⟩
abbrev Cx.mark (X : Cx) (v : Value) : Cx := { X with A := X.A.mark (some v), calm := false, xe := fun _ _ => False }
abbrev Cx.pend (X : Cx) (pins : List (Addr × Obj)) (W : Value → Shared → Prop) : Cx := { X with pn := X.pn ++ pins, xe := W }
section
variable {X : Cx} {pins pins' : List (Addr × Obj)} {σ : St} {H : Hp} {s : Shared} {v : Value} {W : Value → Shared → Prop}
theorem Cx.Ok.mark (ok : X.Ok) : (X.mark v).Ok :=
  ⟨ok.mod, ok.kind, ok.glob, ok.blt, ok.above, ok.inj, ok.has, ok.cab, (fun z => nomatch z), ok.frames, ok.stk, ok.exf, ok.bs, ok.bsz, ok.noex, ok.exfs, ok.funs, ok.frf⟩
theorem Inv.mark (I : Inv X pins σ H s) : Inv (X.mark v) pins σ H s := ⟨I.ok.mark, I.os, I.bare, I.base, I.loc, I.cell, I.free, I.freeC, I.pin, I.hok, I.len⟩
theorem Inv.unmark (ok : X.Ok) (I : Inv (X.mark v) pins σ H s) : Inv X pins σ H s := ⟨ok, I.os, I.bare, I.base, I.loc, I.cell, I.free, I.freeC, I.pin, I.hok, I.len⟩
theorem Cx.Ok.pend (ok : X.Ok) : (X.pend pins W).Ok :=
  ⟨ok.mod, ok.kind, ok.glob, ok.blt, ok.above, ok.inj, ok.has, ok.cab, ok.hd, ok.frames, ok.stk, ok.exf, ok.bs, ok.bsz, ok.noex, ok.exfs, ok.funs, ok.frf⟩
theorem Inv.pend (I : Inv X pins σ H s) : Inv (X.pend pins W) [] σ H s := ⟨I.ok.pend, I.os, I.bare, I.base, I.loc, I.cell, I.free, I.freeC, fun p hp => I.pin p (by rw [List.append_nil] at hp; exact hp), I.hok, I.len⟩
theorem Inv.unpend (ok : X.Ok) (I : Inv (X.pend pins W) pins' σ H s) : Inv X pins σ H s := ⟨ok, I.os, I.bare, I.base, I.loc, I.cell, I.free, I.freeC, fun p hp => I.pin p (List.mem_append_left _ hp), I.hok, I.len⟩
theorem Inv.track {x : Addr} {o : HO} (I : Inv X pins σ H s) (hx : H x = none) (h0 : X.s₀.heap.get? x = none) (hl : x ≠ X.env.locals) (hc : ∀ y c, X.env.cells.lookup y = some c → c ≠ x) (hp : ∀ p ∈ X.pn ++ pins, p.1 ≠ x)
    (new : ObjOk X.prog X.w (upd H x o) s.heap x o) : Inv X pins σ (upd H x o) s where
  ok := I.ok
  os := I.os
  bare := I.bare
  base := ⟨I.base.keep, I.base.slot, fun b ob e n hx' => by rw [upd_ne (fun z => by subst z; rw [h0] at e; cases e)]; exact I.base.free b ob e n hx', I.base.there,
    fun b xs e => by have z := I.base.tups b xs e; rw [upd_ne (ne_of_none z hx)]; exact z, fun b ob xs e => by have z := I.base.frzs b ob xs e; rw [upd_ne (ne_of_none z hx)]; exact z,
    fun b ps e => by obtain ⟨m, z⟩ := I.base.tbls b ps e; exact ⟨m, by rw [upd_ne (ne_of_none z hx)]; exact z⟩⟩
  loc := I.loc
  cell := I.cell
  free := by rw [upd_ne (Ne.symm hl)]; exact I.free
  freeC := fun y c e => by rw [upd_ne (hc y c e)]; exact I.freeC y c e
  pin := fun p q => let ⟨a, b, c⟩ := I.pin p q; ⟨a, by rw [upd_ne (hp p q)]; exact b, c⟩
  hok := I.hok.also hx new
  len := I.len
/-- the names are forgotten -/
theorem Inv.wiped {h' : Heap} {m' : Str → Option Value} {t' : Nat} (I : Inv X pins σ H s) (hn' : h'.Ns X.env.locals m') (hs : Heap.SameBut X.env.locals s.heap h') : Inv X pins (List.replicate X.N.length none) H { s with heap := h', toks := t' } := by
  have neL : ∀ b o, X.s₀.heap.get? b = some o → b ≠ X.env.locals := fun b o e => Nat.ne_of_lt (Nat.lt_of_lt_of_le (Heap.lt_size e) I.ok.above)
  refine ⟨I.ok, I.os, I.bare, ⟨fun b o e n hb hx => ?_, fun b o e n hb hx => ?_, I.base.free, fun b o e hx => ?_, I.base.tups, I.base.frzs, I.base.tbls⟩, ⟨_, hn', fun j y v' e1 e2 e3 => ?_⟩, fun y c e => ?_, I.free, I.freeC, fun p hp => ?_, fun b ob e => ?_, List.length_replicate⟩
  · exact (hs.2 b (neL b o e)).trans (I.base.keep b o e n hb hx)
  · obtain ⟨sl, e1⟩ := I.base.slot b o e n hb hx
    exact ⟨sl, (hs.2 b (neL b o e)).trans e1⟩
  · obtain ⟨o', e1⟩ := I.base.there b o e hx
    exact ⟨o', (hs.2 b (neL b o e)).trans e1⟩
  · rw [List.getElem?_replicate] at e2
    split at e2 <;> cases e2
  · obtain ⟨v', o, ho, hd⟩ := I.cell y c e
    exact ⟨v', o, (hs.2 c (I.cne y c e)).trans ho, hd⟩
  · obtain ⟨a, b, c, d⟩ := I.pin p hp
    exact ⟨(hs.2 _ c).trans a, b, c, d⟩
  · refine (I.hok b ob e).stay (fun c w' hc q => (hs.2 c ?_).trans q) (fun _ q => q) fun _ _ q => q
    rintro rfl
    rcases hc with z | z
    · rw [← z, I.free] at e; cases e
    · rw [I.free] at z; cases z
end
section
variable {X : Cx} {B : Addr} {bn n : Str} {i : Nat} {body suite : List Stmt} {b₀ : Stmt} {bp hp pos : Pos} {tb : XK → TS} {ts : TS}
/-- what is wanted of an exception that body raises -/
def xTry (K : Frag) (B : Addr) (i len : Nat) (ts : TS) (D : Ends) : XK := fun C d H2 => ∃ Ca, C = .ref Ca ∧ exmOne K (.ref Ca) (.ref B) = some true ∧
  ∀ x, H2 x = none → ts { D with nx := fun _ H' => D.nx (List.replicate len none) H', bk := fun _ H' => D.bk (List.replicate len none) H', ct := fun _ H' => D.ct (List.replicate len none) H' } ((List.replicate len none).set i (some (.ref x))) (upd H2 x (exF x Ca d))
/-- try: body except B as n: suite, of a body that hands on what a callee raises -/
def tTry (K : Frag) (B : Addr) (i len : Nat) (tb : XK → TS) (ts : TS) : TS := fun D σ H => tb (xTry K B i len ts D) D σ H
theorem ps_try (hcalm : X.calm = true) (hgB : Gl X bn) (hmB : X.mg bn = some (.ref B)) (hN : X.N.Nodup) (hi : X.N[i]? = some n) (hl : X.env.scope.names.lookup n = some .local) (hstk : X.stack = X.env :: X.outer) (hf : X.env.frame = some X.env.locals) (hex : X.ex = [])
    (hb : ∀ pins W E, Passes (CXE X.prog X.w) (X.pend pins W) E → PSs (X.pend pins W) body (tb E)) (hsu : ∀ v, PSs (X.mark v) (b₀ :: suite) ts) (hdb : (bn == ("__debug__" : Str)) = false := by decide) :
    PS X (.Try body [.ExceptHandler (some (.Name bn bp)) (some n) (b₀ :: suite) hp] [] [] pos) (tTry X.K B i X.N.length tb ts) := by
  intro pins s σ H D I h
  refine wpAny_Try_except ?_
  have J := hb pins (fun e s' => ∃ σ' H1 s1, Inv X pins σ' H1 s1 ∧ CXE X.prog X.w X.stack H1 s1 (xTry X.K B i X.N.length ts D) e s') (xTry X.K B i X.N.length ts D)
    (fun pins' σ' H' s1 e s' I1 hx => ⟨σ', H', s1, I1.unpend I.ok, hx⟩) [] s σ H D I.pend h
  refine wpAny_mono J (fun f s1 q => ?_) fun e s1 ⟨σ', H0, s0, I0, hx⟩ => ?_
  · cases f with
    | next => obtain ⟨σ', H', I', q⟩ := q; exact wpAny_execs_nil ⟨σ', H', I'.unpend I.ok, q⟩
    | brk => obtain ⟨σ', H', I', q⟩ := q; exact ⟨σ', H', I'.unpend I.ok, q⟩
    | cont => obtain ⟨σ', H', I', q⟩ := q; exact ⟨σ', H', I'.unpend I.ok, q⟩
    | ret u => obtain ⟨v, σ', H', I', r, q⟩ := q; exact ⟨v, σ', H', I'.unpend I.ok, r, q⟩
  obtain ⟨x, T, C, d, a0, H', rfl, os, bare, un, hok, hx0, hT0, hHx, hHT, fl, Ca, rfl, hexm, q⟩ := hx
  have I2 : Inv X pins σ' H' s1 := I0.call' os un hok bare (fun b z => absurd z (by simp))
  have nfr : ∀ b, s0.heap.get? b = none → b ∉ frs X.stack := fun b hb z => by
    obtain ⟨o, e, _⟩ := fr_data I0.stack b z
    rw [hb] at e; cases e
  have hfr := I0.ok.frames
  have nx := nfr x hx0
  have nT := nfr T hT0
  have st := I2.stack
  rw [hstk] at hfr
  have nx' := nx
  have nT' := nT
  rw [hstk] at nx' nT' st
  refine note_on hfr st hf nx' nT' fl fun h1 T1 f1 k1 n1 => ?_
  refine flight_none f1 fun h2 f2 k2 => ?_
  rw [← hstk] at k1
  have hT1H : H' T1 = none := by
    cases e : H' T1 with
    | none => rfl
    | some o =>
      obtain ⟨ob, hob⟩ := ObjOk.got (I2.hok T1 o e)
      rw [n1] at hob; cases hob
  have hT10 : s0.heap.get? T1 = none := by
    cases e : s0.heap.get? T1 with
    | none => rfl
    | some o =>
      obtain ⟨o', e'⟩ := un.there T1 o e (fun z => nomatch z)
      rw [n1] at e'; cases e'
  have k3 : Kp (frs X.stack) [x, T, T1] s1.heap h2 := k1.trans (kp_mono k2 fun b hb => nomatch hb) fun c hc => by
    rcases hc with z | z
    · rcases List.mem_cons.mp z with z | z
      · rw [z]; simp
      · rw [List.mem_singleton.mp z]; simp
    · rw [List.mem_singleton.mp z.1]; simp
  have all0 : ∀ b ∈ [x, T, T1], s0.heap.get? b = none ∧ H' b = none := fun b hb => by
    rcases List.mem_cons.mp hb with z | z
    · rw [z]; exact ⟨hx0, hHx⟩
    · rcases List.mem_cons.mp z with z | z
      · rw [z]; exact ⟨hT0, hHT⟩
      · rw [List.mem_singleton.mp z]; exact ⟨hT10, hT1H⟩
  have I3 : Inv X pins σ' H' { s1 with heap := h2 } := I0.call' (s' := { s1 with heap := h2 }) os (un_kp un k3 fun b hb => (all0 b hb).1) (hok_kp hok k3 I2.stkFree fun b hb => (all0 b hb).2) bare (fun b z => absurd z (by simp))
  have LT : Looks (model X.prog X.w) h2 (typeOf (.ref x)) (.ref Ca) := by
    obtain ⟨oe, vs, oT, ts', e1, e2, _⟩ := f2
    exact e2 ▸ (Looks.ld e1).andThen .now
  refine wpAny_handleBy_cons (codeAny_handlers_test ?_) (by intro z; cases z)
  refine ld_glob (X := X.mark (.ref x)) (I3.mark) hgB hmB ?_ hdb
  refine exm_one (M := model X.prog X.w) I3.kIn LT hexm _ _ _ { s1 with heap := h2 } (fun _ _ e => e) ?_
  refine codeAny_handlers_suite_as ?_
  refine flight_none f2 fun h3 f3 k4 => ?_
  have k5 : Kp (frs X.stack) [x, T, T1] s1.heap h3 := k3.trans (kp_mono k4 fun b hb => nomatch hb) fun c hc => by
    rcases hc with z | z
    · exact z
    · rw [List.mem_singleton.mp z.1]; simp
  have I4 : Inv X pins σ' H' { s1 with heap := h3 } := I0.call' (s' := { s1 with heap := h3 }) os (un_kp un k5 fun b hb => (all0 b hb).1) (hok_kp hok k5 I2.stkFree fun b hb => (all0 b hb).2) bare (fun b z => absurd z (by simp))
  have hxs : X.s₀.heap.get? x = none := by
    cases e : X.s₀.heap.get? x with
    | none => rfl
    | some o =>
      obtain ⟨o', e'⟩ := I0.base.there x o e (by rw [hex]; exact fun z => nomatch z)
      rw [hx0] at e'; cases e'
  obtain ⟨oe, vs, oT, ts', e1, e2, e3, e4, _⟩ := f3
  have I5 : Inv X pins σ' (upd H' x (exF x Ca d)) { s1 with heap := h3 } := by
    refine I4.track hHx hxs (fun z => ?_) (fun y c e z => ?_) (fun p hp z => ?_) (exF_ok e1 e2 e3 e4)
    · obtain ⟨m, ⟨o, _, _, ho, _⟩, _⟩ := I0.loc
      rw [← z, hx0] at ho; cases ho
    · obtain ⟨v, o, ho, _⟩ := I0.cell y c e
      rw [z, hx0] at ho; cases ho
    · have ho := (I0.pin p hp).1
      rw [z, hx0] at ho; cases ho
  have I6 : Inv X pins (List.replicate X.N.length none) (upd H' x (exF x Ca d)) { s1 with heap := h3 } := I5.weak (by rw [List.length_replicate, I5.len]) fun j v' e => by
    rw [List.getElem?_replicate] at e
    split at e <;> cases e
  refine store_ok (v := .ref x) I6 hN hi (.inl hl) rfl (fun s4 I7 => ?_) (.inr hl)
  refine wpAny_mono (hsu (.ref x) pins s4 _ _ _ I7.mark (q x hHx)) (fun f s5 z => ?_) fun _ _ z => False.elim z
  have hcls : (X.env.scope.kind == .class || (X.env.scope.kind == .module && X.env.locals != X.env.globals)) = false := by rw [I.ok.kind]; rfl
  cases f with
  | next =>
    obtain ⟨σ5, H5, I8, q5⟩ := z
    obtain ⟨m, hn, _⟩ := I8.loc
    exact wpAny_nameGoes hl hn hcls fun h' m' hn' hs' => ⟨_, H5, (I8.unmark I.ok).wiped hn' hs', q5⟩
  | brk =>
    obtain ⟨σ5, H5, I8, q5⟩ := z
    obtain ⟨m, hn, _⟩ := I8.loc
    exact wpAny_nameGoes hl hn hcls fun h' m' hn' hs' => ⟨_, H5, (I8.unmark I.ok).wiped hn' hs', q5⟩
  | cont =>
    obtain ⟨σ5, H5, I8, q5⟩ := z
    obtain ⟨m, hn, _⟩ := I8.loc
    exact wpAny_nameGoes hl hn hcls fun h' m' hn' hs' => ⟨_, H5, (I8.unmark I.ok).wiped hn' hs', q5⟩
  | ret u =>
    obtain ⟨v, σ5, H5, I8, r5, q5⟩ := z
    obtain ⟨m, hn, _⟩ := I8.loc
    exact wpAny_nameGoes hl hn hcls fun h' m' hn' hs' => ⟨v, _, H5, (I8.unmark I.ok).wiped hn' hs', r5, q5⟩
end
end L2
namespace L2
open PySem PySem.Spec PyProof.Rows PySem.W
section
variable {X : Cx} {C D : Addr} {b : Bool}
/-- the exception that a suite has caught, as it lies -/
theorem exF_at {pins : List (Addr × Obj)} {σ : St} {H : Hp} {s : Shared} {x d : Addr} {fs : List (Str × V)} (I : Inv X pins σ H s) (hx : H x = some (exF x C (some d))) (hd : H d = some (.xd fs)) :
    ∃ ob od, InstAt s.heap x ob C (some od) ∧ ∀ name, ∃ u, lookIn name od = some u ∧ RelO (fs.lookup name) u := by
  obtain ⟨ob, vs, e1, e2, e3, e4⟩ := (I.hok x _ hx).1
  obtain ⟨mA, n, r⟩ := I.hok d _ hd
  obtain ⟨od, ho, hl⟩ := lookIn_ns n
  refine ⟨ob, od, ⟨e1, e2, ?_, by rw [e3]; exact ho⟩, fun name => ⟨_, hl name, r name⟩⟩
  unfold notCls
  rw [e4]
/-- isinstance(e, D) of a caught exception -/
theorem call_xisi (G : XGet X.K C) (hk : kitOne X.K (.ref C) (.ref D) = some b) : CallR X (.builtin "isinstance") (fun vs H Q => ∃ x d fs, vs = [.ref x, .ref D] ∧ H x = some (exF x C (some d)) ∧ H d = some (.xd fs) ∧ Q (.bl b) H) := by
  intro pins s σ H xs us Q I r h
  obtain ⟨x, d, fs, rfl, hx, hd, q⟩ := h
  obtain ⟨u, w', rfl, ru, rw'⟩ := vals2 r
  cases (show u = Value.ref x from ru)
  cases (show w' = Value.ref D from rw')
  obtain ⟨ob, od, J, _⟩ := exF_at I hx hd
  exact kia_one (kitx_exc G) I.kIn ⟨ob, od, J⟩ hk (by intro z; cases z) fun tk => ⟨.bl b, H, I.tok _, rfl, q⟩
/-- e.f of a caught exception -/
def tXAt (C : Addr) (f : Str) (ta : TE) : TE := fun σ H Q => ta σ H fun v H1 => ∃ x d fs n, v = .ref x ∧ H1 x = some (exF x C (some d)) ∧ H1 d = some (.xd fs) ∧ fs.lookup f = some (.int n) ∧ Q (.int n) H1
theorem pe_xat {e : Expr} {f : Str} {ta : TE} {pos : Pos} (G : XGet X.K C) (hf : findIn X.K (.ref C) f = some none) (he : PE X e ta) (hb : attributeBase e f X.env (eval e X.env) = eval e X.env := by rfl) : PE X (.Attribute e f pos) (tXAt C f ta) := by
  intro pins s σ H Q I h
  refine attr_of hb (thn (he pins s σ H _ I h) fun u s1 ⟨v, H1, I1, rx, x, d, fs, n, ev, hx, hd, hl, q⟩ => ?_)
  subst ev
  obtain rfl : u = Value.ref x := rx
  obtain ⟨ob, od, J, lk⟩ := exF_at I1 hx hd
  obtain ⟨u, e1, e2⟩ := lk f
  rw [hl] at e2
  cases u with
  | none => exact e2.elim
  | some u =>
    obtain ⟨tk, rfl⟩ : ∃ tk, u = Value.int n tk := e2
    refine gax_value G I1.kIn J (findObj_own G.hd hf rfl e1) rfl ⟨.int n, H1, I1.tok _, ⟨_, rfl⟩, q⟩
end
section
variable {X : Cx} {k j : Nat} {x : Str} {ps : List Str} {sp : Sp} {e : Expr} {es : List Expr} {t : TA} {p pos : Pos} {E : XK}
theorem pe_cp (D : Dx X.prog X.w X.K X.mg X.base k x ps sp) (hr : Room j X.A) (hj : k ≤ j) (hg : Gl X x) (l : Passes (CXE X.prog X.w) X E) (ha : PA X (e :: es) t) (hdb : (x == ("__debug__" : Str)) = false := by decide)
    (he : starEach (e :: es) X.env = (false, eval e X.env) :: starEach es X.env := by rfl) (hpl : (backTo pos (starEach es X.env)).any (·.1) = false := by rfl) : PE X (.Call (.Name x p) (e :: es) [] pos) (tCall sp [] E t) := by
  obtain ⟨f, fd, h1, h2, h3, h4⟩ := D.ex
  exact pe_call h1 (hr.mono hj) hg h4 h3 h2 .nil l ha hdb he hpl
end
end L2
namespace K22
open PySem L2
local macro_rules | `(tactic| walk_at "rd") => `(tactic| simp only [cxOf_K, nox_K, compCx_K, tSeq, tNext, tAsg, gName, tRet, tRetN, tIfS, tDrop, tOp, tUn, tVar, tC, tCall, tCons, tNil, tTest, tB, tAnd, tOr, tNot, tAndV, tOrV, tNotV, tIf, tCB, tBM, tComp, tTrue, tPart, tNoPart, tSl, tChain, tIsN, tNotN, tLst, tTup, tFor_eq, sDPut, tDNewK, tNever, rI0, rI, rU, rEq, rNe, rMulS, rInC, iRng1, iStr, CDiv, CMul, CPow, scal, List.append_nil, List.getElem?_cons_zero, List.getElem?_cons_succ, List.set_cons_zero, List.set_cons_succ, List.map_cons, List.map_nil, List.length_cons, List.length_nil, sizeLine_eq, Nat.reduceAdd, Nat.reduceLeDiff, Option.join_some, Option.join_none, Option.some.injEq, V.int.injEq, V.str.injEq, V.bl.injEq, V.ref.injEq, V.ty.injEq, List.cons.injEq, and_true, true_and, and_self, exists_eq_left', exists_eq_left, exists_and_left, exists_and_right, decide_eq_true_eq, Bool.not_eq_eq_eq_not, Bool.not_true, Bool.not_false, decide_eq_false_iff_not, Int.reduceLT, Int.reduceLE, Int.reduceNeg, Int.reducePow, Int.reduceAdd, Int.reduceSub, Int.reduceMul, Int.reduceToNat, natAbs10, Nat.reduceLT, Nat.reducePow, or_true, true_or, if_true, if_false, Bool.false_eq_true, ite_true, ite_false, reduceCtorEq])
seal L2.PSs L2.PS L2.PE L2.PT L2.PW L2.PA L2.PI L2.PG L2.PGs L2.PPs L2.PTs
def top (i : Nat) : Stmt := PySem.Challenge.pw_cabinet_k22_no_token.main.body.getD i (.Pass ⟨0, 0, 0, 0⟩)
abbrev sCell : Stmt := top 20
def cellF (ns : List Int) (k : Int) : Int :=
  let m := if ns = [] then k * 7919 else (k * 7919 + k / ns.length * 104729 + ns.getD (k % ns.length).toNat 0 * 48271) % 1000003
  (m * m / 11 + 13 * m) % 1000003
theorem cellF_lo (ns : List Int) (k : Int) : 0 ≤ cellF ns k := Int.emod_nonneg _ (by decide)
theorem cellF_hi (ns : List Int) (k : Int) : cellF ns k < 1000003 := Int.emod_lt_of_pos _ (by decide)
def spCell (K : PySem.W.Frag) : Sp := fun vs H Q _ => ∃ (a : Addr) (ns : List Int) (k : Int), vs = [.ref a, .int k] ∧ SqL K H a (ns.map V.int) ∧ ns.length ≤ 63 ∧ 0 ≤ k ∧ k < 1000000 ∧ ∀ H', Same H H' → Q (.int (cellF ns k)) H'
theorem spCell_i {K : PySem.W.Frag} {H : Hp} {Q : VK} {E : XK} {a : Addr} {ns : List Int} {k : Int} (hS : SqL K H a (ns.map V.int)) (h63 : ns.length ≤ 63) (h0 : 0 ≤ k) (h1 : k < 1000000) (q : ∀ H', Same H H' → Q (.int (cellF ns k)) H') :
    spCell K [.ref a, .int k] H Q E := ⟨a, ns, k, rfl, hS, h63, h0, h1, q⟩
section
variable {P : Program} {w : World} {K : PySem.W.Frag} {mg : Str → Option Value} {base : Heap} {f : Addr} {fd : FuncData}
theorem scCell : FnScope ["_law_script", "_law_k", "_law_more"] ["_law_script", "_law_k"] (defScope sCell) := ⟨rfl, rfl, rfl, by decide +kernel, rfl, by decide +kernel, by decide +kernel⟩
theorem ok_cell (F : Fun K "_law_cell" "_law_cell" sCell f fd) (B : Bl mg) : FnOk P w K mg base CX0 1 f fd ["_law_script", "_law_k"] (spCell K) := by
  refine F.ok scCell (fun vs H Q E h => ?_) (fun cdv A outer s H vs Q E hr h => ?_)
  · obtain ⟨a, ns, k, rfl, _⟩ := h
    rfl
  obtain ⟨a, ns, k, rfl, hS, h63, h0, h1, q⟩ := h
  have nd := scCell.nd
  have hu0 := hr.units0
  refine ⟨_, (pss_cons (ps_set (i := 2) nd rfl (Or.inl rfl) (pe_op op_mul (pv 1) pe_int))
    (pss_cons (ps_if (pt_cmpR (op_ne_l hu0) (pv 0) (pe_lst pa_nil) (nomark _)) (pss_cons (ps_set (i := 2) nd rfl (Or.inl rfl) (pe_op op_add (pv 2) (pe_op op_mul (pe_op op_fdiv (pv 1) (pe_callB call_len_l rfl B.len bt_len (pa_cons (pv 0) pa_nil))) pe_int)))
    (pss_one (ps_set (i := 2) nd rfl (Or.inl rfl) (pe_op op_mod (pe_op op_add (pv 2) (pe_op op_mul (pe_ix ix_list (pv 0) (pe_op op_mod (pv 1) (pe_callB call_len_l rfl B.len bt_len (pa_cons (pv 0) pa_nil))) (fun _ _ => rfl)) pe_int)) pe_int)))) pss_nil)
    (pss_one (ps_ret (pe_op op_mod (pe_op op_add (pe_op op_fdiv (pe_op op_mul (pv 2) (pv 2)) pe_int) (pe_op op_mul pe_int (pv 2))) pe_int))))), ?_⟩
  rw [show start ["_law_script", "_law_k", "_law_more"] [.ref a, .int k] = [some (.ref a), some (.int k), none] from rfl]
  walk_at "rd"
  intro p hp
  have hS' := (same_new hp (.lst [])).seq hS
  refine rEqL_i hS' (SqL.of upd_same) (flat_ints ns) rfl ⟨_, rfl, ?_⟩
  rw [eqLs_nil]
  by_cases hn : ns = []
  · subst hn
    refine iteF ⟨.inl (by omega), ?_⟩
    exact q _ (same_new hp _)
  · have hpos : 0 < ns.length := List.length_pos_iff.mpr hn
    have e1 : (ns.map V.int).isEmpty = false := by cases ns with | nil => exact absurd rfl hn | cons _ _ => rfl
    rw [if_pos rfl, e1]
    have hl : (ns.map V.int).length = ns.length := List.length_map _
    have hm0 : 0 ≤ k % (ns.length : Int) := Int.emod_nonneg _ (by omega)
    have hm1 : k % (ns.length : Int) < ns.length := Int.emod_lt_of_pos _ (by omega)
    refine iteT ⟨ns.map V.int, hS', by rw [hl]; omega, ns.map V.int, hS', by rw [hl]; omega, ?_⟩
    rw [hl]
    refine rIxL_i hS' (atI_getD (d := .int 0) hm0 (by rw [hl]; exact hm1)) ⟨ns.getD (k % ns.length).toNat 0, ?_, .inl ?_, ?_⟩
    · simp [List.getD, List.getElem?_map]
    · generalize (k * 7919 + k / ns.length * 104729 + ns.getD (k % ns.length).toNat 0 * 48271) = z
      omega
    · have e : cellF ns k = _ := rfl
      have e2 : cellF ns k = (((k * 7919 + k / ns.length * 104729 + ns.getD (k % ns.length).toNat 0 * 48271) % 1000003 * ((k * 7919 + k / ns.length * 104729 + ns.getD (k % ns.length).toNat 0 * 48271) % 1000003) / 11 + 13 * ((k * 7919 + k / ns.length * 104729 + ns.getD (k % ns.length).toNat 0 * 48271) % 1000003)) % 1000003) := by
        unfold cellF; rw [if_neg hn]
      rw [← e2]
      exact q _ (same_new hp _)
end
end K22
namespace K22
open PySem L2
local macro_rules | `(tactic| walk_at "rd") => `(tactic| simp only [cxOf_K, nox_K, compCx_K, tSeq, tNext, tAsg, gName, tRet, tRetN, tIfS, tDrop, tOp, tUn, tVar, tC, tCall, tCons, tNil, tTest, tB, tAnd, tOr, tNot, tAndV, tOrV, tNotV, tIf, tCB, tBM, tComp, tTrue, tPart, tNoPart, tSl, tChain, tIsN, tNotN, tLst, tTup, tFor_eq, sDPut, tDNewK, tNever, rI0, rI, rU, rEq, rNe, rMulS, rInC, iRng1, iStr, CDiv, CMul, CPow, scal, List.append_nil, List.getElem?_cons_zero, List.getElem?_cons_succ, List.set_cons_zero, List.set_cons_succ, List.map_cons, List.map_nil, List.length_cons, List.length_nil, sizeLine_eq, Nat.reduceAdd, Nat.reduceLeDiff, Option.join_some, Option.join_none, Option.some.injEq, V.int.injEq, V.str.injEq, V.bl.injEq, V.ref.injEq, V.ty.injEq, List.cons.injEq, and_true, true_and, and_self, exists_eq_left', exists_eq_left, exists_and_left, exists_and_right, decide_eq_true_eq, Bool.not_eq_eq_eq_not, Bool.not_true, Bool.not_false, decide_eq_false_iff_not, Int.reduceLT, Int.reduceLE, Int.reduceNeg, Int.reducePow, Int.reduceAdd, Int.reduceSub, Int.reduceMul, Int.reduceToNat, natAbs10, Nat.reduceLT, Nat.reducePow, or_true, true_or, if_true, if_false, Bool.false_eq_true, ite_true, ite_false, reduceCtorEq])
seal L2.PSs L2.PS L2.PE L2.PT L2.PW L2.PA L2.PI L2.PG L2.PGs L2.PPs L2.PTs
abbrev sSigns : Stmt := top 21
abbrev sText : Stmt := top 22
abbrev sWord : Stmt := top 23
section
variable {P : Program} {w : World} {K : PySem.W.Frag} {mg : Str → Option Value} {base : Heap} {f : Addr} {fd : FuncData}
def spSigns : Sp := fun vs H Q _ => vs = [] ∧ Q (.str (tx sgnL)) H
theorem scSigns : FnScope ["_law_some"] [] (defScope sSigns) := ⟨rfl, rfl, rfl, by decide +kernel, rfl, by decide +kernel, by decide +kernel⟩
theorem ok_signs (F : Fun K "_law_signs" "_law_signs" sSigns f fd) : FnOk P w K mg base CX0 1 f fd [] spSigns := by
  refine F.ok scSigns (fun vs H Q E h => ?_) (fun cdv A outer s H vs Q E hr h => ?_)
  · obtain ⟨rfl, _⟩ := h
    rfl
  obtain ⟨rfl, q⟩ := h
  have nd := scSigns.nd
  refine ⟨_, (pss_cons (ps_set (i := 0) nd rfl (Or.inl rfl) pe_str)
    (pss_one (ps_ret (pe_op op_add_str (pv 0) pe_str)))), ?_⟩
  rw [show start ["_law_some"] [] = [none] from rfl]
  walk_at "rd"
  refine ⟨by decide, ?_⟩
  rw [ts_sgn]; exact q
def spText : Sp := fun vs H Q _ => ∃ (m : Int), vs = [.int m] ∧ 0 ≤ m ∧ m < 2000000 ∧ ∀ (x : List Nat), okText x = true → ∀ H', Same H H' → Q (.str (tx x)) H'
theorem scText : FnScope ["_law_more", "_law_signs_here", "_law_rest", "_law_size", "_law_half", "_law_step"] ["_law_more"] (defScope sText) := ⟨rfl, rfl, rfl, by decide +kernel, rfl, by decide +kernel, by decide +kernel⟩
theorem ok_text (F : Fun K "_law_text_by" "_law_text_by" sText f fd) (B : Bl mg) (G_law_signs : Dn P w K mg base 1 "_law_signs" [] spSigns) : FnOk P w K mg base CX0 2 f fd ["_law_more"] spText := by
  refine F.ok scText (fun vs H Q E h => ?_) (fun cdv A outer s H vs Q E hr h => ?_)
  · obtain ⟨m, rfl, _⟩ := h
    rfl
  obtain ⟨m, rfl, h0, h1, q⟩ := h
  have nd := scText.nd
  refine ⟨_, (pss_cons (ps_set (i := 1) nd rfl (Or.inr rfl) (pe_cd0 G_law_signs hr (by omega) rfl))
    (pss_cons (ps_set (i := 2) nd rfl (Or.inl rfl) (pe_op op_fdiv (pv 0) pe_int))
    (pss_cons (ps_set (i := 3) nd rfl (Or.inl rfl) (pe_ix ix_list (pe_lst (pa_cons (pe_op op_mod (pv 2) pe_int) (pa_cons (pe_op op_mod (pv 2) pe_int) (pa_cons (pe_op op_mod (pv 2) pe_int) pa_nil)))) (pe_op op_mod (pv 0) pe_int) (fun _ _ => rfl)))
    (pss_cons (ps_if (pt_cmpR op_eq (pe_op op_mod (pe_op op_fdiv (pv 0) pe_int) pe_int) pe_int (nomark _)) (pss_cons (ps_set (i := 4) nd rfl (Or.inl rfl) (pe_op op_fdiv (pv 3) pe_int))
    (pss_one (ps_ret (pe_op op_add_str (pe_op op_mul_str pe_str (pv 4)) (pe_op op_mul_str (pe_ix ix_str (pv 1) (pe_op op_mod (pe_op op_fdiv (pv 0) pe_int) pe_int) (fun _ _ => rfl)) (pe_op op_sub (pv 3) (pv 4))))))) pss_nil)
    (pss_cons (ps_set (i := 5) nd rfl (Or.inr rfl) (pe_op op_add pe_int (pe_op op_mod (pe_op op_fdiv (pv 0) pe_int) pe_int)))
    (pss_one (ps_ret (pe_bm PySem.F.plainAttrs_str PySem.F.slot_str_join PySem.F.type_str_join mt_join pe_str (pa_cons (pe_comp (own := ["_law_j"]) (F := [("_law_signs_here", 1), ("_law_more", 0), ("_law_step", 5)]) ⟨rfl, by with_unfolding_all rfl, by with_unfolding_all rfl, by with_unfolding_all rfl, (.cons rfl rfl rfl (.cons rfl rfl rfl (.cons rfl rfl rfl .nil)))⟩ rfl (pi_range1 rfl B.range (pa_cons (pv 3) pa_nil)) (fun _ _ _ _ => pg_name (i := 0) (by show (compN ["_law_j"] [("_law_signs_here", 1), ("_law_more", 0), ("_law_step", 5)]).Nodup; decide +kernel) rfl (Or.inl rfl)) (fun _ _ _ _ => pts_nil) (fun _ _ _ _ => (pe_ix ix_str (pv 1) (pe_op op_mod (pe_op op_add (pe_op op_fdiv (pv 2) pe_int) (pe_op op_mul (pv 0) (pv 3))) pe_int) (fun _ _ => rfl)))) pa_nil))))))))), ?_⟩
  rw [show start ["_law_more", "_law_signs_here", "_law_rest", "_law_size", "_law_half", "_law_step"] [.int m] = [some (.int m), none, none, none, none, none] from rfl]
  walk_at "rd"
  refine ⟨rfl, fun p hp => ?_⟩
  obtain ⟨v, hv, hm⟩ := atI_of (xs := [V.int (m / 5 % 4), V.int (m / 5 % 9), V.int (m / 5 % 31)]) (i := m % 3) (by omega) (by simp only [List.length_cons, List.length_nil]; omega)
  obtain ⟨n, rfl, n0, n30⟩ : ∃ n : Int, v = .int n ∧ 0 ≤ n ∧ n ≤ 30 := by
    simp only [List.mem_cons, List.not_mem_nil, or_false] at hm
    rcases hm with rfl | rfl | rfl <;> exact ⟨_, rfl, by omega, by omega⟩
  refine rIxL_i (SqL.of upd_same) hv ?_
  simp only [ts_q, rep_one, of_nil]
  split
  · obtain ⟨c, hc, hcl⟩ := at_sgn (i := m / 465 % 94) (by omega) (by omega)
    refine ⟨n, rfl, by decide, by omega, by omega, rIxS_i (by decide) hc ⟨n, rfl, _, rfl, (show (1 : Nat) ≤ 1000 by decide), by omega, by omega, ?_, ?_⟩⟩
    · rw [ts_tx, rep_one, tx_len, tx_len]; simp only [List.length_replicate]; omega
    · rw [ts_tx, rep_one, app_tx]
      refine q _ (okText_of ?_ ?_) _ (same_new hp _)
      · simp only [List.length_append, List.length_replicate]; omega
      · intro d hd
        simp only [List.mem_append, List.mem_replicate] at hd
        rcases hd with ⟨_, rfl⟩ | ⟨_, rfl⟩
        · exact q_sgnL
        · exact hcl
  · refine ⟨rfl, n, rfl, by omega, by omega, comp_rng (fun i ys H' => Same (upd H p (.lst [V.int (m / 5 % 4), V.int (m / 5 % 9), V.int (m / 5 % 31)])) H' ∧ ∃ cs : List Nat, ys = (cs.map fun c => tx [c]).map V.str ∧ cs.length = i ∧ ∀ c ∈ cs, c ∈ sgnL) (by rw [sizeLine_eq]; omega) ⟨Same.refl _, [], rfl, rfl, fun _ h => nomatch h⟩ ?_ ?_⟩
    · rintro i ys H' hi _ ⟨hs, cs, rfl, hl, hcs⟩
      walk_at "rd"
      obtain ⟨c, hc, hcl⟩ := at_sgn (i := (m / 7 + (0 + (i : Int)) * (1 + m / 13 % 93)) % 94) (by omega) (by omega)
      refine ⟨.inl (by omega), rIxS_i (by decide) hc ⟨hs, cs ++ [c], by simp, by simp [hl], ?_⟩⟩
      intro d hd
      rcases List.mem_append.mp hd with z | z
      · exact hcs d z
      · rw [List.mem_singleton.mp z]; exact hcl
    · rintro ys H' hl ⟨hs, cs, rfl, hlen, hcs⟩ p' hp'
      refine ⟨p', cs.map fun c => tx [c], rfl, rfl, SqL.of upd_same, by rw [flat_one]; omega, ?_⟩
      rw [flat_one]
      exact q _ (okText_of (by omega) hcs) _ ((same_new hp _).trans (hs.trans (same_new hp' _)))
def WordOk (x : List Nat) : Prop := ∃ c r, x = c :: r ∧ c ∈ letL ∧ (∀ d ∈ r, d ∈ letL ++ figL) ∧ r.length ≤ 19
def spWord : Sp := fun vs H Q _ => ∃ (m : Int), vs = [.int m] ∧ 0 ≤ m ∧ m < 2000000 ∧ ∀ (x : List Nat), WordOk x → ∀ H', Same H H' → Q (.str (tx x)) H'
theorem scWord : FnScope ["_law_more", "_law_letters", "_law_size", "_law_rest"] ["_law_more"] (defScope sWord) := ⟨rfl, rfl, rfl, by decide +kernel, rfl, by decide +kernel, by decide +kernel⟩
theorem ok_word (F : Fun K "_law_word_by" "_law_word_by" sWord f fd) (B : Bl mg) : FnOk P w K mg base CX0 1 f fd ["_law_more"] spWord := by
  refine F.ok scWord (fun vs H Q E h => ?_) (fun cdv A outer s H vs Q E hr h => ?_)
  · obtain ⟨m, rfl, _⟩ := h
    rfl
  obtain ⟨m, rfl, h0, h1, q⟩ := h
  have nd := scWord.nd
  refine ⟨_, (pss_cons (ps_set (i := 1) nd rfl (Or.inr rfl) pe_str)
    (pss_cons (ps_set (i := 2) nd rfl (Or.inl rfl) (pe_ix ix_list (pe_lst (pa_cons pe_int (pa_cons (pe_op op_add pe_int (pe_op op_mod (pe_op op_fdiv (pv 0) pe_int) pe_int)) (pa_cons (pe_op op_add pe_int (pe_op op_mod (pe_op op_fdiv (pv 0) pe_int) pe_int)) pa_nil)))) (pe_op op_mod (pv 0) pe_int) (fun _ _ => rfl)))
    (pss_cons (ps_comp (i := 3) nd rfl (Or.inl rfl) (own := ["_law_j"]) (F := [("_law_letters", 1), ("_law_more", 0)]) ⟨rfl, by with_unfolding_all rfl, by with_unfolding_all rfl, by with_unfolding_all rfl, (.cons rfl rfl rfl (.cons rfl rfl rfl .nil))⟩ rfl (pi_range1 rfl B.range (pa_cons (pe_op op_sub (pv 2) pe_int) pa_nil)) (fun _ _ _ _ => pg_name (i := 0) (by show (compN ["_law_j"] [("_law_letters", 1), ("_law_more", 0)]).Nodup; decide +kernel) rfl (Or.inl rfl)) (fun _ _ _ _ => pts_nil) (fun _ _ _ _ => (pe_ix ix_str (pv 1) (pe_op op_mod (pe_op op_add (pe_op op_fdiv (pv 2) pe_int) (pe_op op_mul (pe_op op_mul (pv 0) (pv 0)) (pe_op op_add pe_int (pe_op op_mod (pe_op op_fdiv (pv 2) pe_int) pe_int)))) pe_int) (fun _ _ => rfl))))
    (pss_one (ps_ret (pe_op op_add_str (pe_ix ix_str (pv 1) (pe_op op_mod (pe_op op_fdiv (pv 0) pe_int) pe_int) (fun _ _ => rfl)) (pe_bm PySem.F.plainAttrs_str PySem.F.slot_str_join PySem.F.type_str_join mt_join pe_str (pa_cons (pv 3) pa_nil)))))))), ?_⟩
  rw [show start ["_law_more", "_law_letters", "_law_size", "_law_rest"] [.int m] = [some (.int m), none, none, none] from rfl]
  walk_at "rd"
  intro p hp
  obtain ⟨v, hv, hm⟩ := atI_of (xs := [V.int 1, V.int (1 + m / 3 % 5), V.int (1 + m / 3 % 20)]) (i := m % 3) (by omega) (by simp only [List.length_cons, List.length_nil]; omega)
  obtain ⟨n, rfl, n1, n12⟩ : ∃ n : Int, v = .int n ∧ 1 ≤ n ∧ n ≤ 20 := by
    simp only [List.mem_cons, List.not_mem_nil, or_false] at hm
    rcases hm with rfl | rfl | rfl <;> exact ⟨_, rfl, by omega, by omega⟩
  refine rIxL_i (SqL.of upd_same) hv ?_
  refine ⟨n, rfl, by omega, by omega, comp_rng (fun i ys H' => Same (upd H p (.lst [V.int 1, V.int (1 + m / 3 % 5), V.int (1 + m / 3 % 20)])) H' ∧ ∃ cs : List Nat, ys = (cs.map fun c => tx [c]).map V.str ∧ cs.length = i ∧ ∀ c ∈ cs, c ∈ letL ++ figL) (by rw [sizeLine_eq]; omega) ⟨Same.refl _, [], rfl, rfl, fun _ h => nomatch h⟩ ?_ ?_⟩
  · rintro i ys H' hi _ ⟨hs, cs, rfl, hl, hcs⟩
    walk_at "rd"
    obtain ⟨c, hc, hcl⟩ := at_l36 (i := (m / 7 + (0 + (i : Int)) * (0 + (i : Int)) * (1 + m / 11 % 35)) % 36) (by omega) (by omega)
    refine ⟨.inl (by omega), .inr (by omega), rIxS_i (by decide) (by rw [ts_l36]; exact hc) ⟨hs, cs ++ [c], by simp, by simp [hl], ?_⟩⟩
    intro d hd
    rcases List.mem_append.mp hd with z | z
    · exact hcs d z
    · rw [List.mem_singleton.mp z]; exact hcl
  · rintro ys H' hl ⟨hs, cs, rfl, hlen, hcs⟩ p' hp'
    obtain ⟨c, hc, hcl⟩ := at_l26 (i := m / 60 % 26) (by omega) (by omega)
    refine rIxS_i (by decide) (by rw [ts_l36]; exact hc) ⟨rfl, p', cs.map fun c => tx [c], rfl, rfl, SqL.of upd_same, by rw [flat_one]; omega, ?_⟩
    rw [flat_one]
    refine ⟨_, rfl, _, rfl, by rw [tx_len, tx_len, List.length_singleton]; omega, ?_⟩
    rw [app_tx]
    exact q _ ⟨c, cs, rfl, hcl, hcs, by omega⟩ _ ((same_new hp _).trans (hs.trans (same_new hp' _)))
end
end K22
namespace K22
open PySem L2
local macro_rules | `(tactic| walk_at "rd") => `(tactic| simp only [cxOf_K, nox_K, compCx_K, tSeq, tNext, tAsg, gName, tRet, tRetN, tIfS, tDrop, tOp, tUn, tVar, tC, tCall, tCons, tNil, tTest, tB, tAnd, tOr, tNot, tAndV, tOrV, tNotV, tIf, tCB, tBM, tComp, tTrue, tPart, tNoPart, tSl, tChain, tIsN, tNotN, tLst, tTup, tFor_eq, sDPut, tDNewK, tNever, rI0, rI, rU, rEq, rNe, rMulS, rInC, iRng1, iStr, CDiv, CMul, CPow, scal, List.append_nil, List.getElem?_cons_zero, List.getElem?_cons_succ, List.set_cons_zero, List.set_cons_succ, List.map_cons, List.map_nil, List.length_cons, List.length_nil, sizeLine_eq, Nat.reduceAdd, Nat.reduceLeDiff, Option.join_some, Option.join_none, Option.some.injEq, V.int.injEq, V.str.injEq, V.bl.injEq, V.ref.injEq, V.ty.injEq, List.cons.injEq, and_true, true_and, and_self, exists_eq_left', exists_eq_left, exists_and_left, exists_and_right, decide_eq_true_eq, Bool.not_eq_eq_eq_not, Bool.not_true, Bool.not_false, decide_eq_false_iff_not, Int.reduceLT, Int.reduceLE, Int.reduceNeg, Int.reducePow, Int.reduceAdd, Int.reduceSub, Int.reduceMul, Int.reduceToNat, natAbs10, Nat.reduceLT, Nat.reducePow, or_true, true_or, if_true, if_false, Bool.false_eq_true, ite_true, ite_false, reduceCtorEq])
local macro_rules | `(tactic| walk_at "rd3") => `(tactic| simp only [gTup, gCons, gNil, iZip, tIsT, tDisp, tPairs, tBM0, iList, iDict, tThaw, tMaxD, rMaxD, tDGet, rVals, tComp, cxOf_K, nox_K, compCx_K, tSeq, tNext, tAsg, gName, tRet, tRetN, tIfS, tDrop, tOp, tUn, tVar, tC, tCall, tCons, tNil, tTest, tB, tAnd, tOr, tNot, tAndV, tOrV, tNotV, tIf, tCB, tBM, tComp, tTrue, tPart, tNoPart, tSl, tChain, tIsN, tNotN, tLst, tTup, tFor_eq, sDPut, tDNewK, tNever, rI0, rI, rU, rEq, rNe, rMulS, rInC, iRng1, iStr, CDiv, CMul, CPow, scal, List.append_nil, List.getElem?_cons_zero, List.getElem?_cons_succ, List.set_cons_zero, List.set_cons_succ, List.map_cons, List.map_nil, List.length_cons, List.length_nil, sizeLine_eq, Nat.reduceAdd, Nat.reduceLeDiff, Option.join_some, Option.join_none, Option.some.injEq, V.int.injEq, V.str.injEq, V.bl.injEq, V.ref.injEq, V.ty.injEq, List.cons.injEq, and_true, true_and, and_self, exists_eq_left', exists_eq_left, exists_and_left, exists_and_right, decide_eq_true_eq, Bool.not_eq_eq_eq_not, Bool.not_true, Bool.not_false, decide_eq_false_iff_not, Int.reduceLT, Int.reduceLE, Int.reduceNeg, Int.reducePow, Int.reduceAdd, Int.reduceSub, Int.reduceMul, Int.reduceToNat, natAbs10, Nat.reduceLT, Nat.reducePow, or_true, true_or, if_true, if_false, Bool.false_eq_true, ite_true, ite_false, reduceCtorEq])
seal L2.PSs L2.PS L2.PE L2.PT L2.PW L2.PA L2.PI L2.PG L2.PGs L2.PPs L2.PTs
abbrev sSgn : Stmt := top 4
abbrev sRun : Stmt := top 15
abbrev sKAt : Stmt := top 13
abbrev sNEnd : Stmt := top 16
structure Ms (mg : Str → Option Value) : Prop where
  LETTERS : ∃ t, mg "LETTERS" = some (.str (Str.ofString "abcdefghijklmnopqrstuvwxyz") t)
  FIGURES : ∃ t, mg "FIGURES" = some (.str (Str.ofString "0123456789") t)
  NAME_SIGNS : ∃ t, mg "NAME_SIGNS" = some (.str (Str.ofString "abcdefghijklmnopqrstuvwxyz0123456789") t)
  MARKS : ∃ t, mg "MARKS" = some (.str (Str.ofString "[]{},:") t)
theorem of_let : Str.ofString "abcdefghijklmnopqrstuvwxyz" = tx letL := by decide +kernel
theorem of_fig : Str.ofString "0123456789" = tx figL := by decide +kernel
theorem of_nsg : Str.ofString "abcdefghijklmnopqrstuvwxyz0123456789" = tx (letL ++ figL) := by decide +kernel
theorem of_mks : Str.ofString "[]{},:" = tx mkL := by decide +kernel
theorem of_q : Str.ofString "'" = tx [39] := by decide +kernel
theorem of_qq : Str.ofString "''" = tx [39, 39] := by decide +kernel
theorem of_mi : Str.ofString "-" = tx [45] := by decide +kernel
theorem of_sp : Str.ofString " " = tx [32] := by decide +kernel
theorem iP {c : Prop} [Decidable c] {a b : Prop} (h : c) (x : a) : if c then a else b := by rw [if_pos h]; exact x
theorem iN {c : Prop} [Decidable c] {a b : Prop} (h : ¬ c) (x : b) : if c then a else b := by rw [if_neg h]; exact x
def kS : Nat → Str
  | 0 => Str.ofString "number"
  | 1 => Str.ofString "word"
  | 2 => Str.ofString "text"
  | _ => Str.ofString "mark"
section
variable {P : Program} {w : World} {K : PySem.W.Frag} {mg : Str → Option Value} {base : Heap} {f : Addr} {fd : FuncData}
def spSgn : Sp := fun vs H Q _ => ∃ c : Nat, vs = [.str (tx [c])] ∧ ∀ H', Same H H' → Q (.bl (decide (c ∈ sgnL))) H'
theorem mem_sgn (c : Nat) : c ∈ sgnL ↔ 32 ≤ c ∧ c ≤ 126 ∧ c ≠ 37 := by
  unfold sgnL
  rw [List.mem_filter, List.mem_map]
  constructor
  · rintro ⟨⟨i, hi, rfl⟩, h⟩
    have := List.mem_range.mp hi
    simp at h
    omega
  · rintro ⟨h1, h2, h3⟩
    exact ⟨⟨c - 32, List.mem_range.mpr (by omega), by omega⟩, by simp [h3]⟩
theorem scSgn : FnScope ["sign"] ["sign"] (defScope sSgn) := ⟨rfl, rfl, rfl, by decide +kernel, rfl, by decide +kernel, by decide +kernel⟩
theorem ok_sgn (F : Fun K "is_text_sign" "is_text_sign" sSgn f fd) (B : Bl5 mg) : FnOk P w K mg base CX0 1 f fd ["sign"] spSgn := by
  refine F.ok scSgn (fun vs H Q E h => ?_) (fun cdv A outer s H vs Q E hr h => ?_)
  · obtain ⟨c, rfl, _⟩ := h
    rfl
  obtain ⟨c, rfl, q⟩ := h
  have nd := scSgn.nd
  refine ⟨_, (pss_one (ps_ret (pe_and (pe_chain op_le_str op_le_str pe_str (pv 0) pe_str) (pe_one (pe_cmpR op_ne (pe_callB call_ord rfl B.ord bt_ord (pa_cons (pv 0) pa_nil)) pe_int (nomark _)))))), ?_⟩
  rw [show start ["sign"] [.str (tx [c])] = [some (.str (tx [c]))] from rfl]
  walk_at "rd3"
  have e1 : ts (Str.ofString " ") = [32] := by decide +kernel
  have e2 : ts (Str.ofString "~") = [126] := by decide +kernel
  have e3 : ts (tx [c]) = [c] := rfl
  have e4 : (↑((#[c] : Array Nat).getD 0 0) : Int) = (c : Int) := rfl
  have l1 : ∀ a b : Nat, ([a] : List Nat) < [b] ↔ a < b := fun a b => by
    constructor
    · intro h
      cases h with
      | rel h => exact h
      | cons h => cases h
    · exact fun h => .rel h
  have z := q H (Same.refl H)
  rw [e1, e2, e3, e4]
  by_cases c1 : c < 32
  · refine ⟨false, by rw [decide_eq_true ((l1 _ _).mpr c1)]; rfl, iteF ?_⟩
    rw [decide_eq_false (fun h => by have := (mem_sgn c).mp h; omega)] at z
    exact z
  · refine ⟨true, by rw [decide_eq_false (fun h => c1 ((l1 _ _).mp h))]; rfl, iteT ?_⟩
    by_cases c2 : 126 < c
    · refine ⟨false, by rw [decide_eq_true ((l1 _ _).mpr c2)]; rfl, iteF ?_⟩
      rw [decide_eq_false (fun h => by have := (mem_sgn c).mp h; omega)] at z
      exact z
    · refine ⟨true, by rw [decide_eq_false (fun h => c2 ((l1 _ _).mp h))]; rfl, iteT ⟨rfl, ?_⟩⟩
      have e : decide (c ∈ sgnL) = !decide ((c : Int) = 37) := by
        rw [Bool.eq_iff_iff, decide_eq_true_iff, mem_sgn]
        simp
        omega
      rw [e] at z
      exact z
def spRun : Sp := fun vs H Q _ => ∃ (L S : List Nat) (n : Nat), vs = [.str (tx L), .int n, .str (tx S)] ∧ n ≤ L.length ∧ L.length ≤ 100000 ∧ Q (.int ((n + runN S (L.drop n) : Nat) : Int)) H
theorem scRun : FnScope ["text", "at", "signs", "end"] ["text", "at", "signs"] (defScope sRun) := ⟨rfl, rfl, rfl, by decide +kernel, rfl, by decide +kernel, by decide +kernel⟩
theorem ok_run (F : Fun K "run_end" "run_end" sRun f fd) (B : Bl mg) : FnOk P w K mg base CX0 1 f fd ["text", "at", "signs"] spRun := by
  refine F.ok scRun (fun vs H Q E h => ?_) (fun cdv A outer s H vs Q E hr h => ?_)
  · obtain ⟨L, S, n, rfl, _⟩ := h
    rfl
  obtain ⟨L, S, n, rfl, hn, hL, q⟩ := h
  have nd := scRun.nd
  refine ⟨_, (pss_cons (ps_set (i := 3) nd rfl (Or.inl rfl) (pv 1))
    (pss_cons (ps_while PassesOwn.never (PW.pt (pw_and (pt_cmpR op_lt (pv 3) (pe_callB call_len_str rfl B.len bt_len (pa_cons (pv 0) pa_nil)) (nomark _)) (pw_and1 (pt_cmpR op_in_c (pe_ix ix_str (pv 0) (pv 3) (fun _ _ => rfl)) (pv 2) (by with_unfolding_all rfl))))) (pss_one (ps_aug (i := 3) nd rfl (Or.inl rfl) pe_int ip_add)))
    (pss_one (ps_ret (pv 3))))), ?_⟩
  rw [show start ["text", "at", "signs", "end"] [.str (tx L), .int n, .str (tx S)] = [some (.str (tx L)), some (.int n), some (.str (tx S)), none] from rfl]
  walk_at "rd3"
  refine ⟨fun m σ H' => ∃ j : Nat, j ≤ runN S (L.drop n) ∧ σ = [some (.str (tx L)), some (.int n), some (.str (tx S)), some (.int ((n + j : Nat) : Int))] ∧ H' = H ∧ m = L.length - (n + j), ⟨_, 0, Nat.zero_le _, rfl, rfl, rfl⟩, ?_⟩
  rintro m σ H' ⟨j, hj, rfl, rfl, rfl⟩
  have hr1 := runN_le S (L.drop n)
  rw [List.length_drop] at hr1
  walk_at "rd3"
  have hlen : (tx L).length = L.length := tx_len L
  rw [hlen]
  refine ⟨by omega, ?_⟩
  by_cases c : ((n + j : Nat) : Int) < (L.length : Int)
  · obtain ⟨d, hd⟩ : ∃ d, L[n + j]? = some d := ⟨_, List.getElem?_eq_getElem (by omega)⟩
    have hd2 : (L.drop n)[j]? = some d := by rw [List.getElem?_drop]; exact hd
    have hlt := runN_lt hd2 hj
    refine iP c (rIxS_i (by rw [hlen, sizeLine_eq]; omega) (atI_nat (j := n + j) hd) ⟨d, rfl, ?_⟩)
    rw [ts_tx]
    by_cases hm : d ∈ S
    · refine iP hm ⟨fun σ' H'' => σ' = [some (.str (tx L)), some (.int n), some (.str (tx S)), some (.int ((n + (j + 1) : Nat) : Int))] ∧ H'' = H', ?_, ?_⟩
      · rintro σ' H'' ⟨rfl, rfl⟩
        exact ⟨_, by have := hlt.mp hm; omega, j + 1, hlt.mp hm, rfl, rfl, rfl⟩
      · simp only [tAug, ipI]
        walk_at "rd3"
        omega
    · have e : j = runN S (L.drop n) := by
        have : ¬ j < runN S (L.drop n) := fun z => hm (hlt.mpr z)
        omega
      refine iN hm ?_
      rw [e]; exact q
  · have e : j = runN S (L.drop n) := by omega
    refine iN c ?_
    rw [e]; exact q
def spKAt : Sp := fun vs H Q _ => ∃ (L r : List Nat) (n c k : Nat), vs = [.str (tx L), .int n] ∧ L.drop n = c :: r ∧ headK k c ∧ L.length ≤ 100000 ∧ Q (.str (kS k)) H
theorem scKAt : FnScope ["text", "at", "sign"] ["text", "at"] (defScope sKAt) := ⟨rfl, rfl, rfl, by decide +kernel, rfl, by decide +kernel, by decide +kernel⟩
theorem tx1 {c d : Nat} : V.str (tx [c]) = V.str (tx [d]) ↔ c = d := by
  constructor
  · intro h
    have := congrArg ts (V.str.inj h)
    rw [ts_tx, ts_tx] at this
    exact (List.cons.inj this).1
  · rintro rfl; rfl
theorem at_drop {L r : List Nat} {n c : Nat} (h : L.drop n = c :: r) : L[n]? = some c := by
  have := congrArg (fun l : List Nat => l[0]?) h
  simpa [List.getElem?_drop] using this
theorem ok_kat (F : Fun K "kind_at" "kind_at" sKAt f fd) (B : Bl mg) (M : Ms mg) : FnOk P w K mg base CX0 1 f fd ["text", "at"] spKAt := by
  refine F.ok scKAt (fun vs H Q E h => ?_) (fun cdv A outer s H vs Q E hr h => ?_)
  · obtain ⟨L, r, n, c, k, rfl, _⟩ := h
    rfl
  obtain ⟨L, r, n, c, k, rfl, hd, hk, hL, q⟩ := h
  have nd := scKAt.nd
  refine ⟨_, (pss_cons (ps_set (i := 2) nd rfl (Or.inl rfl) (pe_ix ix_str (pv 0) (pv 1) (fun _ _ => rfl)))
    (pss_cons (ps_if (PW.pt (pw_or (pt_cmpR op_eq (pv 2) pe_str (nomark _)) (pw_or1 (pt_cmpR op_in_c (pv 2) (pe_gs rfl M.FIGURES) (by with_unfolding_all rfl))))) (pss_one (ps_ret pe_str)) pss_nil)
    (pss_cons (ps_if (pt_cmpR op_in_c (pv 2) (pe_gs rfl M.LETTERS) (by with_unfolding_all rfl)) (pss_one (ps_ret pe_str)) pss_nil)
    (pss_cons (ps_if (pt_cmpR op_eq (pv 2) pe_str (nomark _)) (pss_one (ps_ret pe_str)) pss_nil)
    (pss_cons (ps_if (pt_cmpR op_in_c (pv 2) (pe_gs rfl M.MARKS) (by with_unfolding_all rfl)) (pss_one (ps_ret pe_str)) pss_nil)
    (pss_one ps_nev)))))), ?_⟩
  rw [show start ["text", "at", "sign"] [.str (tx L), .int n] = [some (.str (tx L)), some (.int n), none] from rfl]
  walk_at "rd3"
  refine rIxS_i (by rw [tx_len, sizeLine_eq]; omega) (atI_nat (j := n) (at_drop hd)) ?_
  rw [of_let, of_fig, of_mks, of_q, of_mi]
  simp only [tx1, ts_tx]
  refine ⟨True.intro, ?_⟩
  rcases hk with ⟨rfl, hc⟩ | ⟨rfl, hc⟩ | ⟨rfl, rfl⟩ | ⟨rfl, hc⟩
  · by_cases h45 : c = 45
    · exact iP h45 q
    · exact iN h45 ⟨c, rfl, iP (hc.resolve_left h45) q⟩
  · have := let_no c hc
    exact iN this.1 ⟨c, rfl, iN this.2.1 ⟨c, rfl, iP hc q⟩⟩
  · exact iN q_no.1 ⟨_, rfl, iN q_no.2.1 ⟨_, rfl, iN q_no.2.2 ⟨True.intro, iP rfl q⟩⟩⟩
  · have := mk_no c hc
    exact iN this.1 ⟨c, rfl, iN this.2.1 ⟨c, rfl, iN this.2.2.1 ⟨True.intro, iN this.2.2.2 ⟨c, rfl, iP hc q⟩⟩⟩⟩
def spNEnd : Sp := fun vs H Q _ => ∃ (L s fs r : List Nat) (n : Nat), vs = [.str (tx L), .int n] ∧ L.drop n = s ++ fs ++ r ∧ (s = [] ∨ s = [45]) ∧ fs ≠ [] ∧ (∀ c ∈ fs, c ∈ figL) ∧ Stops 0 r ∧ L.length ≤ 100000 ∧ ∀ H', Same H H' → Q (.int ((n + (s ++ fs).length : Nat) : Int)) H'
theorem scNEnd : FnScope ["text", "at", "first", "end"] ["text", "at"] (defScope sNEnd) := ⟨rfl, rfl, rfl, by decide +kernel, rfl, by decide +kernel, by decide +kernel⟩
theorem ok_nend (F : Fun K "number_end" "number_end" sNEnd f fd) (B : Bl mg) (M : Ms mg) (Grun_end : Dn P w K mg base 1 "run_end" ["text", "at", "signs"] spRun) : FnOk P w K mg base CX0 2 f fd ["text", "at"] spNEnd := by
  refine F.ok scNEnd (fun vs H Q E h => ?_) (fun cdv A outer s H vs Q E hr h => ?_)
  · obtain ⟨L, s, fs, r, n, rfl, _⟩ := h
    rfl
  obtain ⟨L, s, fs, r, n, rfl, hd, hs, hn, hf, hst, hL, q⟩ := h
  have nd := scNEnd.nd
  refine ⟨_, (pss_cons (ps_set (i := 2) nd rfl (Or.inl rfl) (pe_ifExp (pt_cmpR op_eq (pe_ix ix_str (pv 0) (pv 1) (fun _ _ => rfl)) pe_str (nomark _)) (pe_op op_add (pv 1) pe_int) (pv 1)))
    (pss_cons (ps_set (i := 3) nd rfl (Or.inl rfl) (pe_cd Grun_end hr (by omega) rfl (pa_cons (pv 0) (pa_cons (pv 2) (pa_cons (pe_gs rfl M.FIGURES) pa_nil)))))
    (pss_cons (ps_if (pt_cmpR op_eq (pv 3) (pv 2) (nomark _)) pss_never pss_nil)
    (pss_one (ps_ret (pv 3)))))), ?_⟩
  rw [show start ["text", "at", "first", "end"] [.str (tx L), .int n] = [some (.str (tx L)), some (.int n), none, none] from rfl]
  walk_at "rd3"
  rw [of_mi, of_fig]
  have hst' : ∀ c r', r = c :: r' → c ∉ figL := fun c r' e => hst c r' e
  have hfl : 0 < fs.length := List.length_pos_iff.mpr hn
  have hdl := congrArg List.length hd
  rw [List.length_drop, List.length_append, List.length_append] at hdl
  have q := q _ (Same.refl _)
  rcases hs with rfl | rfl
  · obtain ⟨d, fs', rfl⟩ := List.exists_cons_of_ne_nil hn
    have hd' : L.drop n = d :: (fs' ++ r) := hd
    refine rIxS_i (by rw [tx_len, sizeLine_eq]; omega) (atI_nat (j := n) (at_drop hd')) ⟨rfl, ?_⟩
    simp only [tx1]
    refine iN (fig_no d (hf d List.mem_cons_self)).1 ⟨L, figL, n, rfl, by omega, hL, rfl, ?_⟩
    rw [hd, List.nil_append, runN_app hf hst']
    exact iN (fun z => by have := V.int.inj z; simp only [List.length_cons] at this; omega) q
  · have hd' : L.drop n = 45 :: (fs ++ r) := hd
    simp only [List.length_cons, List.length_nil] at hdl
    refine rIxS_i (by rw [tx_len, sizeLine_eq]; omega) (atI_nat (j := n) (at_drop hd')) ⟨rfl, ?_⟩
    simp only [tx1]
    refine iP True.intro ⟨L, figL, n + 1, by rw [Int.natCast_add]; rfl, by omega, hL, rfl, ?_⟩
    have e : L.drop (n + 1) = fs ++ r := by
      rw [← List.drop_drop, hd']; rfl
    rw [e, runN_app hf hst']
    have e2 : n + 1 + fs.length = n + ([45] ++ fs).length := by rw [List.length_append]; simp only [List.length_cons, List.length_nil]; omega
    rw [e2]
    exact iN (fun z => by have := V.int.inj z; rw [List.length_append] at this; simp only [List.length_cons, List.length_nil] at this; omega) q
end
end K22
namespace K22
open PySem L2
local macro_rules | `(tactic| walk_at "rd") => `(tactic| simp only [cxOf_K, nox_K, compCx_K, tSeq, tNext, tAsg, gName, tRet, tRetN, tIfS, tDrop, tOp, tUn, tVar, tC, tCall, tCons, tNil, tTest, tB, tAnd, tOr, tNot, tAndV, tOrV, tNotV, tIf, tCB, tBM, tComp, tTrue, tPart, tNoPart, tSl, tChain, tIsN, tNotN, tLst, tTup, tFor_eq, sDPut, tDNewK, tNever, rI0, rI, rU, rEq, rNe, rMulS, rInC, iRng1, iStr, CDiv, CMul, CPow, scal, List.append_nil, List.getElem?_cons_zero, List.getElem?_cons_succ, List.set_cons_zero, List.set_cons_succ, List.map_cons, List.map_nil, List.length_cons, List.length_nil, sizeLine_eq, Nat.reduceAdd, Nat.reduceLeDiff, Option.join_some, Option.join_none, Option.some.injEq, V.int.injEq, V.str.injEq, V.bl.injEq, V.ref.injEq, V.ty.injEq, List.cons.injEq, and_true, true_and, and_self, exists_eq_left', exists_eq_left, exists_and_left, exists_and_right, decide_eq_true_eq, Bool.not_eq_eq_eq_not, Bool.not_true, Bool.not_false, decide_eq_false_iff_not, Int.reduceLT, Int.reduceLE, Int.reduceNeg, Int.reducePow, Int.reduceAdd, Int.reduceSub, Int.reduceMul, Int.reduceToNat, natAbs10, Nat.reduceLT, Nat.reducePow, or_true, true_or, if_true, if_false, Bool.false_eq_true, ite_true, ite_false, reduceCtorEq])
local macro_rules | `(tactic| walk_at "rd3") => `(tactic| simp only [gTup, gCons, gNil, iZip, tIsT, tDisp, tPairs, tBM0, iList, iDict, tThaw, tMaxD, rMaxD, tDGet, rVals, tComp, cxOf_K, nox_K, compCx_K, tSeq, tNext, tAsg, gName, tRet, tRetN, tIfS, tDrop, tOp, tUn, tVar, tC, tCall, tCons, tNil, tTest, tB, tAnd, tOr, tNot, tAndV, tOrV, tNotV, tIf, tCB, tBM, tComp, tTrue, tPart, tNoPart, tSl, tChain, tIsN, tNotN, tLst, tTup, tFor_eq, sDPut, tDNewK, tNever, rI0, rI, rU, rEq, rNe, rMulS, rInC, iRng1, iStr, CDiv, CMul, CPow, scal, List.append_nil, List.getElem?_cons_zero, List.getElem?_cons_succ, List.set_cons_zero, List.set_cons_succ, List.map_cons, List.map_nil, List.length_cons, List.length_nil, sizeLine_eq, Nat.reduceAdd, Nat.reduceLeDiff, Option.join_some, Option.join_none, Option.some.injEq, V.int.injEq, V.str.injEq, V.bl.injEq, V.ref.injEq, V.ty.injEq, List.cons.injEq, and_true, true_and, and_self, exists_eq_left', exists_eq_left, exists_and_left, exists_and_right, decide_eq_true_eq, Bool.not_eq_eq_eq_not, Bool.not_true, Bool.not_false, decide_eq_false_iff_not, Int.reduceLT, Int.reduceLE, Int.reduceNeg, Int.reducePow, Int.reduceAdd, Int.reduceSub, Int.reduceMul, Int.reduceToNat, natAbs10, Nat.reduceLT, Nat.reducePow, or_true, true_or, if_true, if_false, Bool.false_eq_true, ite_true, ite_false, reduceCtorEq])
seal L2.PSs L2.PS L2.PE L2.PT L2.PW L2.PA L2.PI L2.PG L2.PGs L2.PPs L2.PTs
abbrev sTEnd : Stmt := top 17
abbrev sTkEnd : Stmt := top 14
abbrev sStrOf : Stmt := top 18
abbrev sToks : Stmt := top 12
theorem first_q : ∀ y : List Nat, ∃ u x2, y = u ++ x2 ∧ 39 ∉ u ∧ (x2 = [] ∨ ∃ y', x2 = 39 :: y')
  | [] => ⟨[], [], rfl, (fun h => nomatch h), .inl rfl⟩
  | c :: y => by
    by_cases h : c = 39
    · exact ⟨[], c :: y, rfl, (fun h => nomatch h), .inr ⟨y, by rw [h]⟩⟩
    · obtain ⟨u, x2, e, hu, hx⟩ := first_q y
      exact ⟨c :: u, x2, by rw [e]; rfl, fun z => (List.mem_cons.mp z).elim (fun z => h z.symm) hu, hx⟩
theorem dbl_q (y : List Nat) : dbl (39 :: y) = 39 :: 39 :: dbl y := by rw [dbl_cons]; rfl
theorem dq {u x2 : List Nat} (hu : 39 ∉ u) (hx : x2 = [] ∨ ∃ y', x2 = 39 :: y') (r : List Nat) : ∃ rest, dbl (u ++ x2) ++ 39 :: r = u ++ 39 :: rest := by
  rw [dbl_app, dbl_free hu]
  rcases hx with rfl | ⟨y, rfl⟩
  · exact ⟨r, by rw [dbl_nil, List.append_nil]⟩
  · exact ⟨39 :: dbl y ++ 39 :: r, by rw [dbl_q, List.append_assoc]; rfl⟩
section
variable {P : Program} {w : World} {K : PySem.W.Frag} {mg : Str → Option Value} {base : Heap} {f : Addr} {fd : FuncData}
def spTEnd : Sp := fun vs H Q _ => ∃ (L x r : List Nat) (n : Nat), vs = [.str (tx L), .int n] ∧ L.drop n = 39 :: (dbl x ++ 39 :: r) ∧ (∀ c ∈ x, c ∈ sgnL) ∧ Stops 2 r ∧ L.length ≤ 100000 ∧ ∀ H', Same H H' → Q (.int ((n + 2 + (dbl x).length : Nat) : Int)) H'
theorem scTEnd : FnScope ["text", "at", "close"] ["text", "at"] (defScope sTEnd) := ⟨rfl, rfl, rfl, by decide +kernel, rfl, by decide +kernel, by decide +kernel⟩
theorem ok_tend (F : Fun K "text_end" "text_end" sTEnd f fd) (B : Bl mg) (Gis_text_sign : Dn P w K mg base 1 "is_text_sign" ["sign"] spSgn) : FnOk P w K mg base CX0 2 f fd ["text", "at"] spTEnd := by
  refine F.ok scTEnd (fun vs H Q E h => ?_) (fun cdv A outer s H vs Q E hr h => ?_)
  · obtain ⟨L, x, r, n, rfl, _⟩ := h
    rfl
  obtain ⟨L, x, r, n, rfl, hd, hx, hst, hL, q⟩ := h
  have nd := scTEnd.nd
  refine ⟨_, (pss_cons (ps_set (i := 2) nd rfl (Or.inl rfl) (pe_bm PySem.F.plainAttrs_str PySem.F.slot_str_find PySem.F.type_str_find mt_find (pv 0) (pa_cons pe_str (pa_cons (pe_op op_add (pv 1) pe_int) pa_nil))))
    (pss_cons (ps_while PassesOwn.never (PW.pt (pw_and (pt_cmpR op_ge (pv 2) pe_int (nomark _)) (pw_and1 (pt_cmpR op_eq (pe_slice sl_str (pv 0) (po_some (pe_op op_add (pv 2) pe_int)) (po_some (pe_op op_add (pv 2) pe_int))) pe_str (nomark _))))) (pss_one (ps_set (i := 2) nd rfl (Or.inl rfl) (pe_bm PySem.F.plainAttrs_str PySem.F.slot_str_find PySem.F.type_str_find mt_find (pv 0) (pa_cons pe_str (pa_cons (pe_op op_add (pv 2) pe_int) pa_nil))))))
    (pss_cons (ps_if (pt_cmpR op_lt (pv 2) pe_int (nomark _)) pss_never pss_nil)
    (pss_cons (ps_if (pt_not (pt_val (pe_callB (call_all rfl) rfl B.all bt_all (pa_cons (pe_comp (own := ["sign"]) (F := []) ⟨rfl, by with_unfolding_all rfl, by with_unfolding_all rfl, by with_unfolding_all rfl, .nil⟩ rfl (pi_str (pe_slice sl_str (pv 0) (po_some (pe_op op_add (pv 1) pe_int)) (po_some (pv 2)))) (fun _ _ _ _ => pg_name (i := 0) (by show (compN ["sign"] []).Nodup; decide +kernel) rfl (Or.inl rfl)) (fun _ _ _ _ => pts_nil) (fun _ _ _ _ => (pe_cd Gis_text_sign hr (by omega) rfl (pa_cons (pv 0) pa_nil)))) pa_nil)))) pss_never pss_nil)
    (pss_one (ps_ret (pe_op op_add (pv 2) pe_int))))))), ?_⟩
  rw [show start ["text", "at", "close"] [.str (tx L), .int n] = [some (.str (tx L)), some (.int n), none] from rfl]
  walk_at "rd3"
  have hd1 : L.drop (n + 1) = dbl x ++ 39 :: r := by rw [← List.drop_drop, hd]; rfl
  have hln : (tx L).length = L.length := tx_len L
  have hdl := congrArg List.length hd1
  rw [List.length_drop, List.length_append, List.length_cons] at hdl
  have hsz : (tx L).length ≤ sizeLine := by rw [hln, sizeLine_eq]; omega
  obtain ⟨u0, x20, e0, hu0, hx0⟩ := first_q x
  obtain ⟨rest0, hr0⟩ := dq hu0 hx0 r
  refine ⟨rfl, tx L, tx [39], n + 1, rfl, by rw [of_q], ?_⟩
  rw [show ((n : Int) + 1) = ((n + 1 : Nat) : Int) by omega, find_first (hd1.trans (by rw [e0]; exact hr0)) hu0]
  refine ⟨fun m σ H' => ∃ x1 u x2, x = x1 ++ (u ++ x2) ∧ 39 ∉ u ∧ (x2 = [] ∨ ∃ y, x2 = 39 :: y) ∧ σ = [some (.str (tx L)), some (.int n), some (.int ((n + 1 + (dbl x1).length + u.length : Nat) : Int))] ∧ H' = H ∧ m = x2.length, ⟨_, [], u0, x20, e0, hu0, hx0, rfl, rfl, rfl⟩, ?_⟩
  rintro m σ H' ⟨x1, u, x2, ex, hu, hx2, rfl, rfl, rfl⟩
  walk_at "rd3"
  generalize hk : n + 1 + (dbl x1).length + u.length = k
  have hdk : L.drop k = dbl x2 ++ 39 :: r := by
    rw [← hk, ← List.drop_drop, ← List.drop_drop, hd1, ex, dbl_app, dbl_app, dbl_free hu]
    simp only [List.append_assoc, List.drop_left]
  refine iP (by omega) ⟨_, rfl, hsz, rfl, ?_⟩
  rw [show ((k : Int) + 1) = ((k + 1 : Nat) : Int) by omega, show ((k : Int) + 2) = ((k + 2 : Nat) : Int) by omega, slice_nat, ts_tx, of_q]
  have hsl : (L.take (k + 2)).drop (k + 1) = (L.drop (k + 1)).take 1 := by
    rw [List.drop_take]; congr 1; omega
  have hd2 : L.drop (k + 1) = (dbl x2 ++ 39 :: r).drop 1 := by rw [← List.drop_drop, hdk]
  rw [hsl, hd2]
  rcases hx2 with rfl | ⟨y, rfl⟩
  · refine iN ?_ ?_
    · intro z
      have z := congrArg ts (V.str.inj z)
      rw [ts_tx, ts_tx] at z
      have z : r.take 1 = [39] := z
      cases r with
      | nil => cases z
      | cons c r' =>
        have : c = 39 := by simpa using z
        exact hst c r' rfl (by rw [this]; decide)
    rw [List.append_nil] at ex
    have hdx : dbl x = dbl x1 ++ u := by rw [ex, dbl_app, dbl_free hu]
    refine iN (by omega) ⟨_, rfl, hsz, ?_⟩
    rw [show ((n : Int) + 1) = ((n + 1 : Nat) : Int) by omega, slice_nat, ts_tx]
    have hsl2 : (L.take k).drop (n + 1) = dbl x := by
      rw [List.drop_take, hd1, ← hk, hdx, show n + 1 + (dbl x1).length + u.length - (n + 1) = (dbl x1 ++ u).length by rw [List.length_append]; omega, List.take_left]
    rw [hsl2]
    have hds : ∀ c ∈ dbl x, c ∈ sgnL := fun c hc => by
      obtain ⟨d, hd', hc⟩ := List.mem_flatMap.mp hc
      unfold rpl at hc
      split at hc
      · have : c = 39 := by simpa using hc
        rw [this]; exact q_sgnL
      · rw [List.mem_singleton.mp hc]; exact hx d hd'
    have hdl2 : (ts (tx (dbl x))).length ≤ 100000 := by rw [ts_tx]; omega
    refine ⟨_, rfl, comp_str (fun i ys H'' => Same H' H'' ∧ ys = (((ts (tx (dbl x))).take i).map fun c => decide (c ∈ sgnL)).map V.bl) (by rw [sizeLine_eq]; omega) ⟨Same.refl _, rfl⟩ ?_ ?_⟩
    · rintro i d ys H'' hd' _ ⟨hS, rfl⟩
      walk_at "rd3"
      refine ⟨d, rfl, fun H3 g3 => ⟨hS.trans g3, ?_⟩⟩
      rw [take_succ_of hd']
      simp only [List.map_append, List.map_cons, List.map_nil]
    · rintro ys H'' hl' ⟨hS, rfl⟩ p hp
      rw [List.take_length]
      refine ⟨p, rfl, _, SqL.of upd_same, iN ?_ ?_⟩
      · rw [ts_tx]
        intro z
        rw [List.all_map] at z
        have : (dbl x).all (_root_.id ∘ fun c => decide (c ∈ sgnL)) = true := List.all_eq_true.mpr fun c hc => decide_eq_true (hds c hc)
        rw [this] at z
        cases z
      · have z := q _ (hS.trans (same_new hp (.lst (((ts (tx (dbl x))).map fun c => decide (c ∈ sgnL)).map V.bl))))
        have e : n + 2 + (dbl x).length = k + 1 := by rw [hdx, List.length_append, ← hk]; omega
        rw [e] at z
        exact z
  · obtain ⟨u', x2', e', hu', hx'⟩ := first_q y
    obtain ⟨rest', hr'⟩ := dq hu' hx' r
    have hd3 : L.drop (k + 2) = u' ++ 39 :: rest' := by
      rw [← List.drop_drop, hdk, dbl_q, ← hr', ← e']; rfl
    refine iP (by rfl) ⟨fun σ' H'' => σ' = [some (.str (tx L)), some (.int n), some (.int ((k + 2 + u'.length : Nat) : Int))] ∧ H'' = H', ?_, rfl, tx L, tx [39], _, rfl, rfl, ?_⟩
    · rintro σ' H'' ⟨rfl, rfl⟩
      have hl := congrArg List.length e'
      rw [List.length_append] at hl
      refine ⟨x2'.length, by rw [List.length_cons]; omega, x1 ++ (u ++ [39]), u', x2', ?_, hu', hx', ?_, rfl, rfl⟩
      · rw [ex, e']; simp only [List.append_assoc, List.cons_append, List.nil_append]
      · congr 5
        rw [dbl_app, dbl_app, dbl_free hu, ← hk, List.length_append, List.length_append]
        rw [show (dbl [39]).length = 2 from rfl]
        omega
    · rw [find_first hd3 hu']
      exact ⟨rfl, rfl⟩
theorem kS_ne : (kS 1 ≠ kS 0) ∧ (kS 2 ≠ kS 0) ∧ (kS 3 ≠ kS 0) ∧ (kS 0 ≠ kS 1) ∧ (kS 2 ≠ kS 1) ∧ (kS 3 ≠ kS 1) ∧ (kS 0 ≠ kS 2) ∧ (kS 1 ≠ kS 2) ∧ (kS 3 ≠ kS 2) := by decide +kernel
def spTkEnd : Sp := fun vs H Q _ => ∃ (L r : List Nat) (t : Tk) (n : Nat), vs = [.str (kS t.1), .str (tx L), .int n] ∧ L.drop n = shw t ++ r ∧ OkTk t ∧ Stops t.1 r ∧ L.length ≤ 100000 ∧ ∀ H', Same H H' → Q (.int ((n + (shw t).length : Nat) : Int)) H'
theorem scTkEnd : FnScope ["kind", "text", "at"] ["kind", "text", "at"] (defScope sTkEnd) := ⟨rfl, rfl, rfl, by decide +kernel, rfl, by decide +kernel, by decide +kernel⟩
theorem ok_tkend (F : Fun K "token_end" "token_end" sTkEnd f fd) (M : Ms mg) (Gnumber_end : Dn P w K mg base 2 "number_end" ["text", "at"] spNEnd) (Grun_end : Dn P w K mg base 1 "run_end" ["text", "at", "signs"] spRun) (Gtext_end : Dn P w K mg base 2 "text_end" ["text", "at"] spTEnd) : FnOk P w K mg base CX0 3 f fd ["kind", "text", "at"] spTkEnd := by
  refine F.ok scTkEnd (fun vs H Q E h => ?_) (fun cdv A outer s H vs Q E hr h => ?_)
  · obtain ⟨L, r, t, n, rfl, _⟩ := h
    rfl
  obtain ⟨L, r, t, n, rfl, hd, hok, hst, hL, q⟩ := h
  have nd := scTkEnd.nd
  refine ⟨_, (pss_cons (ps_if (pt_cmpR op_eq (pv 0) pe_str (nomark _)) (pss_one (ps_ret (pe_cd Gnumber_end hr (by omega) rfl (pa_cons (pv 1) (pa_cons (pv 2) pa_nil))))) pss_nil)
    (pss_cons (ps_if (pt_cmpR op_eq (pv 0) pe_str (nomark _)) (pss_one (ps_ret (pe_cd Grun_end hr (by omega) rfl (pa_cons (pv 1) (pa_cons (pv 2) (pa_cons (pe_gs rfl M.NAME_SIGNS) pa_nil)))))) pss_nil)
    (pss_cons (ps_if (pt_cmpR op_eq (pv 0) pe_str (nomark _)) (pss_one (ps_ret (pe_cd Gtext_end hr (by omega) rfl (pa_cons (pv 1) (pa_cons (pv 2) pa_nil))))) pss_nil)
    (pss_one (ps_ret (pe_op op_add (pv 2) pe_int)))))), ?_⟩
  rw [show start ["kind", "text", "at"] [.str (kS t.1), .str (tx L), .int n] = [some (.str (kS t.1)), some (.str (tx L)), some (.int n)] from rfl]
  walk_at "rd3"
  rw [show Str.ofString "number" = kS 0 from rfl, show Str.ofString "word" = kS 1 from rfl, show Str.ofString "text" = kS 2 from rfl, of_nsg]
  obtain ⟨k, x⟩ := t
  obtain ⟨_, h⟩ := hok
  have hdl := congrArg List.length hd
  rw [List.length_drop, List.length_append] at hdl
  rcases h with ⟨hk, s, fs, e, hs, hn, hf⟩ | ⟨hk, c, r', e, hc, hr'⟩ | ⟨hk, hx⟩ | ⟨hk, c, e, hc⟩
  · have hk : k = 0 := hk
    have e : x = s ++ fs := e
    subst hk e
    exact iP rfl ⟨L, s, fs, r, n, rfl, hd, hs, hn, hf, hst, hL, q⟩
  · have hk : k = 1 := hk
    have e : x = c :: r' := e
    subst hk e
    refine iN kS_ne.1 (iP rfl ⟨L, letL ++ figL, n, rfl, ?_, hL, ?_⟩)
    · have : 0 < (shw (1, c :: r')).length := Nat.succ_pos _
      omega
    · have hd : L.drop n = (c :: r') ++ r := hd
      rw [hd, runN_app (fun d hd => (List.mem_cons.mp hd).elim (fun z => by rw [z]; exact letL_sub hc) (hr' d)) fun d r'' e => hst d r'' e]
      exact q _ (Same.refl _)
  · have hk : k = 2 := hk
    subst hk
    have hd : L.drop n = 39 :: (dbl x ++ 39 :: r) := by rw [hd]; show 39 :: (dbl x ++ [39]) ++ r = _; rw [List.cons_append, List.append_assoc]; rfl
    refine iN kS_ne.2.1 (iN kS_ne.2.2.2.2.1 (iP rfl ⟨L, x, r, n, rfl, hd, hx, hst, hL, fun H' g => ?_⟩))
    have e : n + 2 + (dbl x).length = n + (shw (2, x)).length := by
      show _ = n + (39 :: (dbl x ++ [39])).length
      rw [List.length_cons, List.length_append]; simp only [List.length_cons, List.length_nil]; omega
    rw [e]
    exact q _ g
  · have hk : k = 3 := hk
    have e : x = [c] := e
    subst hk e
    refine iN kS_ne.2.2.1 (iN kS_ne.2.2.2.2.2.1 (iN kS_ne.2.2.2.2.2.2.2.2 ?_))
    exact q _ (Same.refl _)
def spStrOf : Sp := fun vs H Q _ => ∃ t : Tk, vs = [.str (kS t.1), .str (tx (shw t))] ∧ OkTk t ∧ Q (.str (tx t.2)) H
theorem scStrOf : FnScope ["kind", "signs"] ["kind", "signs"] (defScope sStrOf) := ⟨rfl, rfl, rfl, by decide +kernel, rfl, by decide +kernel, by decide +kernel⟩
theorem slice_in (L : List Nat) : Txt.slice (tx (39 :: (L ++ [39]))) (some 1) (some (-1)) = tx L := by
  have e : Txt.slice (tx (39 :: (L ++ [39]))) (some 1) (some (-1)) = Txt.slice (tx (39 :: (L ++ [39]))) (some ((1 : Nat) : Int)) (some ((L.length + 1 : Nat) : Int)) := by
    unfold Txt.slice
    have : PySem.Builtin.Str.strSliceIndices (some 1) (some (-1)) 1 (tx (39 :: (L ++ [39]))).length = PySem.Builtin.Str.strSliceIndices (some ((1 : Nat) : Int)) (some ((L.length + 1 : Nat) : Int)) 1 (tx (39 :: (L ++ [39]))).length := by
      rw [tx_len]
      unfold PySem.Builtin.Str.strSliceIndices
      have hl : ((39 :: (L ++ [39])).length : Int) = L.length + 2 := by
        rw [List.length_cons, List.length_append]; simp only [List.length_cons, List.length_nil]; omega
      dsimp only
      rw [hl]
      congr 1
      simp only [show (1 : Int) > 0 from by decide, if_true, show ((-1 : Int) < 0) from by decide, if_neg (show ¬ (((L.length + 1 : Nat) : Int) < 0) by omega)]
      omega
    rw [this]
  rw [e, slice_nat, ts_tx]
  congr 1
  rw [List.take_succ_cons, List.drop_succ_cons, List.drop_zero, List.take_left]
theorem ok_strof (F : Fun K "string_of" "string_of" sStrOf f fd) : FnOk P w K mg base CX0 1 f fd ["kind", "signs"] spStrOf := by
  refine F.ok scStrOf (fun vs H Q E h => ?_) (fun cdv A outer s H vs Q E hr h => ?_)
  · obtain ⟨t, rfl, _⟩ := h
    rfl
  obtain ⟨t, rfl, hok, q⟩ := h
  have nd := scStrOf.nd
  refine ⟨_, (pss_cons (ps_if (pt_cmpR op_eq (pv 0) pe_str (nomark _)) (pss_one (ps_ret (pe_repl_sl (i := 1) rfl (by first | exact Or.inl rfl | exact Or.inr (Or.inl rfl) | exact Or.inr (Or.inr rfl)) (by decide +kernel) (by decide +kernel)))) pss_nil)
    (pss_one (ps_ret (pv 1)))), ?_⟩
  rw [show start ["kind", "signs"] [.str (kS t.1), .str (tx (shw t))] = [some (.str (kS t.1)), some (.str (tx (shw t)))] from rfl]
  walk_at "rd3"
  rw [show Str.ofString "text" = kS 2 from rfl]
  have hln := hok.len
  obtain ⟨k, x⟩ := t
  obtain ⟨hl, h⟩ := hok
  by_cases c : k = 2
  · subst c
    refine iP rfl ⟨_, rfl, by rw [tx_len]; omega, ?_⟩
    rw [of_qq, of_q]
    show Q (V.str (Txt.replace (Txt.slice (tx (39 :: (dbl x ++ [39]))) (some 1) (some (-1))) (tx [39, 39]) (tx [39]))) H
    rw [slice_in, repl2_dbl]
    exact q
  · have e : shw (k, x) = x := by unfold shw; rw [if_neg c]
    rw [e]
    refine iN ?_ q
    rcases h with ⟨a, _⟩ | ⟨a, _⟩ | ⟨a, _⟩ | ⟨a, _⟩
    · have a : k = 0 := a
      subst a; exact kS_ne.2.2.2.2.2.2.1
    · have a : k = 1 := a
      subst a; exact kS_ne.2.2.2.2.2.2.2.1
    · exact absurd a c
    · have a : k = 3 := a
      subst a; exact kS_ne.2.2.2.2.2.2.2.2
end
end K22
namespace K22
open PySem L2
local macro_rules | `(tactic| walk_at "rd") => `(tactic| simp only [cxOf_K, nox_K, compCx_K, tSeq, tNext, tAsg, gName, tRet, tRetN, tIfS, tDrop, tOp, tUn, tVar, tC, tCall, tCons, tNil, tTest, tB, tAnd, tOr, tNot, tAndV, tOrV, tNotV, tIf, tCB, tBM, tComp, tTrue, tPart, tNoPart, tSl, tChain, tIsN, tNotN, tLst, tTup, tFor_eq, sDPut, tDNewK, tNever, rI0, rI, rU, rEq, rNe, rMulS, rInC, iRng1, iStr, CDiv, CMul, CPow, scal, List.append_nil, List.getElem?_cons_zero, List.getElem?_cons_succ, List.set_cons_zero, List.set_cons_succ, List.map_cons, List.map_nil, List.length_cons, List.length_nil, sizeLine_eq, Nat.reduceAdd, Nat.reduceLeDiff, Option.join_some, Option.join_none, Option.some.injEq, V.int.injEq, V.str.injEq, V.bl.injEq, V.ref.injEq, V.ty.injEq, List.cons.injEq, and_true, true_and, and_self, exists_eq_left', exists_eq_left, exists_and_left, exists_and_right, decide_eq_true_eq, Bool.not_eq_eq_eq_not, Bool.not_true, Bool.not_false, decide_eq_false_iff_not, Int.reduceLT, Int.reduceLE, Int.reduceNeg, Int.reducePow, Int.reduceAdd, Int.reduceSub, Int.reduceMul, Int.reduceToNat, natAbs10, Nat.reduceLT, Nat.reducePow, or_true, true_or, if_true, if_false, Bool.false_eq_true, ite_true, ite_false, reduceCtorEq])
local macro_rules | `(tactic| walk_at "rd3") => `(tactic| simp only [gTup, gCons, gNil, iZip, tIsT, tDisp, tPairs, tBM0, iList, iDict, tThaw, tMaxD, rMaxD, tDGet, rVals, tComp, cxOf_K, nox_K, compCx_K, tSeq, tNext, tAsg, gName, tRet, tRetN, tIfS, tDrop, tOp, tUn, tVar, tC, tCall, tCons, tNil, tTest, tB, tAnd, tOr, tNot, tAndV, tOrV, tNotV, tIf, tCB, tBM, tComp, tTrue, tPart, tNoPart, tSl, tChain, tIsN, tNotN, tLst, tTup, tFor_eq, sDPut, tDNewK, tNever, rI0, rI, rU, rEq, rNe, rMulS, rInC, iRng1, iStr, CDiv, CMul, CPow, scal, List.append_nil, List.getElem?_cons_zero, List.getElem?_cons_succ, List.set_cons_zero, List.set_cons_succ, List.map_cons, List.map_nil, List.length_cons, List.length_nil, sizeLine_eq, Nat.reduceAdd, Nat.reduceLeDiff, Option.join_some, Option.join_none, Option.some.injEq, V.int.injEq, V.str.injEq, V.bl.injEq, V.ref.injEq, V.ty.injEq, List.cons.injEq, and_true, true_and, and_self, exists_eq_left', exists_eq_left, exists_and_left, exists_and_right, decide_eq_true_eq, Bool.not_eq_eq_eq_not, Bool.not_true, Bool.not_false, decide_eq_false_iff_not, Int.reduceLT, Int.reduceLE, Int.reduceNeg, Int.reducePow, Int.reduceAdd, Int.reduceSub, Int.reduceMul, Int.reduceToNat, natAbs10, Nat.reduceLT, Nat.reducePow, or_true, true_or, if_true, if_false, Bool.false_eq_true, ite_true, ite_false, reduceCtorEq])
seal L2.PSs L2.PS L2.PE L2.PT L2.PW L2.PA L2.PI L2.PG L2.PGs L2.PPs L2.PTs
def tkT (t : Tk) (n : Nat) : T := .tup [.str (ts (kS t.1)), .str t.2, .int n]
def endT (n : Nat) : T := .tup [.str (ts (Str.ofString "end")), .str [], .int n]
def dueT : Nat → List (Nat × Tk) → List T
  | _, [] => []
  | n, x :: r => tkT x.2 (n + x.1) :: dueT (n + x.1 + (shw x.2).length) r
theorem lay_len (x : Nat × Tk) (r : List (Nat × Tk)) : (lay (x :: r)).length = x.1 + (shw x.2).length + (lay r).length := by
  show (List.replicate x.1 32 ++ (shw x.2 ++ lay r)).length = _
  rw [List.length_append, List.length_append, List.length_replicate]; omega
theorem dueT_app : ∀ (n : Nat) (a b : List (Nat × Tk)), dueT n (a ++ b) = dueT n a ++ dueT (n + (lay a).length) b
  | n, [], b => rfl
  | n, x :: a, b => by
    show tkT x.2 (n + x.1) :: dueT (n + x.1 + (shw x.2).length) (a ++ b) = _
    rw [dueT_app, lay_len]
    show _ = tkT x.2 (n + x.1) :: (dueT (n + x.1 + (shw x.2).length) a ++ _)
    congr 3
    omega
theorem head_32 {k c : Nat} (h : headK k c) : c ∉ [32] := by
  have hl : (32 : Nat) ∉ letL ∧ (32 : Nat) ∉ figL ∧ (32 : Nat) ∉ mkL := by decide +kernel
  intro z
  rw [List.mem_singleton] at z
  subst z
  rcases h with ⟨_, h | h⟩ | ⟨_, h⟩ | ⟨_, h⟩ | ⟨_, h⟩
  · cases h
  · exact hl.2.1 h
  · exact hl.1 h
  · cases h
  · exact hl.2.2 h
/-- blanks ahead of what is still there -/
def aheadN (c : List (Nat × Tk)) (e : Nat) : Nat := match c with
  | [] => e
  | x :: _ => x.1
section
variable {P : Program} {w : World} {K : PySem.W.Frag} {mg : Str → Option Value} {base : Heap} {f : Addr} {fd : FuncData}
theorem small_away {H : Hp} {d : Addr} {o : HO} {t : T} {xs : List V} {us : List T} (hd : Rep H (.ref d) t) (hs : T.szs us < T.sz t) (h : Reps H xs us) : Reps (upd H d o) xs us :=
  Reps.away _ _ h fun z => by
    obtain ⟨t', h1, h2⟩ := Occs.sub _ _ h z
    have e := Rep.one _ _ _ hd h1
    subst e
    omega
theorem app_tup {H0 H' : Hp} {p0 p : Addr} {xs ys : List V} {us ts : List T} (g : Same H0 H') (h0 : H0 p0 = none) (hp0 : H' p0 = some (.lst xs)) (hR : Reps H' xs us) (hp : H' p = none) (hy : ∀ Hx : Hp, Reps Hx ys ts) :
    Same H0 (upd (upd H' p (.tup ys)) p0 (.lst (xs ++ [.ref p]))) ∧ Reps (upd (upd H' p (.tup ys)) p0 (.lst (xs ++ [.ref p]))) (xs ++ [.ref p]) (us ++ [.tup ts]) := by
  have s1 := same_new hp (.tup ys)
  have hne : p ≠ p0 := fun z => by subst z; rw [hp] at hp0; cases hp0
  refine ⟨(g.trans s1).put h0 _, Reps.append ?_ (small_away (t := .lst us) ⟨p0, xs, rfl, s1 _ _ hp0, Reps.same s1 _ _ hR⟩ (Nat.lt_succ_self _) (Reps.same s1 _ _ hR))⟩
  exact (show Reps _ [V.ref p] [T.tup ts] from ⟨_, [], rfl, ⟨p, ys, rfl, by rw [upd_ne hne]; exact upd_same, hy _⟩, rfl⟩)
theorem tk_reps (Hx : Hp) (z : Str) (y : List Nat) (n : Nat) : Reps Hx [V.str z, V.str (tx y), V.int n] [.str (ts z), .str y, .int n] := ⟨_, _, rfl, (show V.str z = V.str (tx (ts z)) by rw [tx_ts]), _, _, rfl, rfl, _, _, rfl, rfl, rfl⟩
theorem scToks : FnScope ["text", "found", "at", "kind", "end"] ["text"] (defScope sToks) := ⟨rfl, rfl, rfl, by decide +kernel, rfl, by decide +kernel, by decide +kernel⟩
end
end K22
namespace K22
open PySem L2
local macro_rules | `(tactic| walk_at "rd") => `(tactic| simp only [cxOf_K, nox_K, compCx_K, tSeq, tNext, tAsg, gName, tRet, tRetN, tIfS, tDrop, tOp, tUn, tVar, tC, tCall, tCons, tNil, tTest, tB, tAnd, tOr, tNot, tAndV, tOrV, tNotV, tIf, tCB, tBM, tComp, tTrue, tPart, tNoPart, tSl, tChain, tIsN, tNotN, tLst, tTup, tFor_eq, sDPut, tDNewK, tNever, rI0, rI, rU, rEq, rNe, rMulS, rInC, iRng1, iStr, CDiv, CMul, CPow, scal, List.append_nil, List.getElem?_cons_zero, List.getElem?_cons_succ, List.set_cons_zero, List.set_cons_succ, List.map_cons, List.map_nil, List.length_cons, List.length_nil, sizeLine_eq, Nat.reduceAdd, Nat.reduceLeDiff, Option.join_some, Option.join_none, Option.some.injEq, V.int.injEq, V.str.injEq, V.bl.injEq, V.ref.injEq, V.ty.injEq, List.cons.injEq, and_true, true_and, and_self, exists_eq_left', exists_eq_left, exists_and_left, exists_and_right, decide_eq_true_eq, Bool.not_eq_eq_eq_not, Bool.not_true, Bool.not_false, decide_eq_false_iff_not, Int.reduceLT, Int.reduceLE, Int.reduceNeg, Int.reducePow, Int.reduceAdd, Int.reduceSub, Int.reduceMul, Int.reduceToNat, natAbs10, Nat.reduceLT, Nat.reducePow, or_true, true_or, if_true, if_false, Bool.false_eq_true, ite_true, ite_false, reduceCtorEq])
local macro_rules | `(tactic| walk_at "rd3") => `(tactic| simp only [gTup, gCons, gNil, iZip, tIsT, tDisp, tPairs, tBM0, iList, iDict, tThaw, tMaxD, rMaxD, tDGet, rVals, tComp, cxOf_K, nox_K, compCx_K, tSeq, tNext, tAsg, gName, tRet, tRetN, tIfS, tDrop, tOp, tUn, tVar, tC, tCall, tCons, tNil, tTest, tB, tAnd, tOr, tNot, tAndV, tOrV, tNotV, tIf, tCB, tBM, tComp, tTrue, tPart, tNoPart, tSl, tChain, tIsN, tNotN, tLst, tTup, tFor_eq, sDPut, tDNewK, tNever, rI0, rI, rU, rEq, rNe, rMulS, rInC, iRng1, iStr, CDiv, CMul, CPow, scal, List.append_nil, List.getElem?_cons_zero, List.getElem?_cons_succ, List.set_cons_zero, List.set_cons_succ, List.map_cons, List.map_nil, List.length_cons, List.length_nil, sizeLine_eq, Nat.reduceAdd, Nat.reduceLeDiff, Option.join_some, Option.join_none, Option.some.injEq, V.int.injEq, V.str.injEq, V.bl.injEq, V.ref.injEq, V.ty.injEq, List.cons.injEq, and_true, true_and, and_self, exists_eq_left', exists_eq_left, exists_and_left, exists_and_right, decide_eq_true_eq, Bool.not_eq_eq_eq_not, Bool.not_true, Bool.not_false, decide_eq_false_iff_not, Int.reduceLT, Int.reduceLE, Int.reduceNeg, Int.reducePow, Int.reduceAdd, Int.reduceSub, Int.reduceMul, Int.reduceToNat, natAbs10, Nat.reduceLT, Nat.reducePow, or_true, true_or, if_true, if_false, Bool.false_eq_true, ite_true, ite_false, reduceCtorEq])
seal L2.PSs L2.PS L2.PE L2.PT L2.PW L2.PA L2.PI L2.PG L2.PGs L2.PPs L2.PTs
abbrev sTok : Stmt := top 24
abbrev sSticks : Stmt := top 25
abbrev sShown : Stmt := top 26
theorem digit_fig : ∀ c ∈ [48, 49, 50, 51, 52, 53, 54, 55, 56, 57], c ∈ figL := by decide +kernel
def figs (i : Int) : List Nat := ts (Str.ofString (toString i))
theorem figs_nat (n : Nat) : figs n = (Nat.toDigits 10 n).map Char.toNat := by
  show ts (Str.ofString (Nat.repr n)) = _
  rw [Nat.repr_eq_ofList_toDigits, PySem.W.Fast.ofString_ofList]
theorem figs_fig {i : Int} (h : 0 ≤ i) : figs i ≠ [] ∧ ∀ c ∈ figs i, c ∈ figL := by
  obtain ⟨n, rfl⟩ := Int.eq_ofNat_of_zero_le h
  rw [figs_nat]
  refine ⟨fun z => Nat.toDigits_ne_nil (List.map_eq_nil_iff.mp z), fun c hc => ?_⟩
  obtain ⟨d, hd, rfl⟩ := List.mem_map.mp hc
  have h := Nat.isDigit_of_mem_toDigits (by decide) (by decide) hd
  have : 48 ≤ d.toNat ∧ d.toNat ≤ 57 := by
    unfold Char.isDigit at h
    simp only [Bool.and_eq_true, decide_eq_true_eq] at h
    exact ⟨h.1, h.2⟩
  refine digit_fig _ ?_
  simp only [List.mem_cons, List.not_mem_nil, or_false]
  omega
theorem figs_len {i : Int} (h : 0 ≤ i) (h1 : i < 10 ^ 60) : (figs i).length ≤ 60 := by
  obtain ⟨n, rfl⟩ := Int.eq_ofNat_of_zero_le h
  rw [figs_nat, List.length_map]
  exact (Nat.length_toDigits_le_iff (by decide) (by decide)).mpr (by omega)
theorem of_int (i : Int) : Str.ofString (toString i) = tx (figs i) := (tx_ts _).symm
theorem log_ok {i : Int} (h0 : 0 ≤ i) (h : i < 10 ^ 60) : i.natAbs.log2 < 1920 := by
  by_cases hz : i.natAbs = 0
  · rw [hz]; decide
  · rw [Nat.log2_lt hz]
    have : i.natAbs < 10 ^ 60 := by omega
    exact Nat.lt_of_lt_of_le (Nat.lt_trans this (show 10 ^ 60 < 2 ^ 200 by decide)) (Nat.pow_le_pow_right (n := 2) (by decide) (by decide))
theorem pow9 {i : Int} (h0 : 0 ≤ i) (h : i ≤ 125000) : 0 ≤ i ^ 9 ∧ i ^ 9 < 10 ^ 60 := by
  refine ⟨Int.pow_nonneg h0, ?_⟩
  obtain ⟨n, rfl⟩ := Int.eq_ofNat_of_zero_le h0
  have hn : n ≤ 125000 := by omega
  have := Nat.pow_le_pow_left hn 9
  have e : ((n : Int)) ^ 9 = ((n ^ 9 : Nat) : Int) := by rw [Int.natCast_pow]
  rw [e]
  have h2 : (125000 : Nat) ^ 9 < 10 ^ 60 := by decide
  omega
theorem rIxT_i {K : PySem.W.Frag} {H : Hp} {a : Addr} {xs : List V} {i : Int} {v : V} {Q : VK} (h1 : SqT K H a xs) (h2 : atI xs i = some v) (q : Q v H) : rIxT K (.ref a) (.int i) H Q := ⟨a, xs, i, v, rfl, rfl, h1, h2, q⟩
theorem ts_0 : ts (Str.ofString "0") = [48] := by decide +kernel
theorem ts_mi : ts (Str.ofString "-") = [45] := by decide +kernel
theorem kS_inj : ∀ j ∈ [0, 1, 2, 3], ∀ k ∈ [0, 1, 2, 3], kS j = kS k → j = k := by decide +kernel
theorem OkTk.k {t : Tk} (h : OkTk t) : t.1 ∈ [0, 1, 2, 3] := by
  rcases h.2 with ⟨a, _⟩ | ⟨a, _⟩ | ⟨a, _⟩ | ⟨a, _⟩ <;> rw [a] <;> decide
theorem kS_is {t : Tk} (h : OkTk t) {j : Nat} (hj : j ∈ [0, 1, 2, 3]) : (V.str (kS t.1) = V.str (kS j)) ↔ t.1 = j := ⟨fun z => kS_inj _ (OkTk.k h) _ hj (V.str.inj z), fun z => by rw [z]⟩
section
variable {P : Program} {w : World} {K : PySem.W.Frag} {mg : Str → Option Value} {base : Heap} {f : Addr} {fd : FuncData}
def spTok : Sp := fun vs H Q _ => ∃ (m : Int), vs = [.int m] ∧ 0 ≤ m ∧ m < 1000003 ∧ ∀ (p : Addr) (t : Tk) (H' : Hp), Same H H' → H' p = some (.tup [.str (kS t.1), .str (tx t.2)]) → OkTk t → Q (.ref p) H'
theorem scTok : FnScope ["_law_more", "_law_kind", "_law_cell_here", "_law_figures"] ["_law_more"] (defScope sTok) := ⟨rfl, rfl, rfl, by decide +kernel, rfl, by decide +kernel, by decide +kernel⟩
theorem ok_tok (F : Fun K "_law_token_by" "_law_token_by" sTok f fd) (B : Bl mg) (G_law_word_by : Dn P w K mg base 1 "_law_word_by" ["_law_more"] spWord) (G_law_text_by : Dn P w K mg base 2 "_law_text_by" ["_law_more"] spText) : FnOk P w K mg base CX0 3 f fd ["_law_more"] spTok := by
  refine F.ok scTok (fun vs H Q E h => ?_) (fun cdv A outer s H vs Q E hr h => ?_)
  · obtain ⟨m, rfl, _⟩ := h
    rfl
  obtain ⟨m, rfl, h0, h1, q⟩ := h
  have nd := scTok.nd
  refine ⟨_, (pss_cons (ps_set (i := 1) nd rfl (Or.inl rfl) (pe_op op_mod (pv 0) pe_int))
    (pss_cons (ps_set (i := 2) nd rfl (Or.inl rfl) (pe_op op_fdiv (pv 0) pe_int))
    (pss_cons (ps_if (pt_cmpR op_lt (pv 1) pe_int (nomark _)) (pss_cons (ps_set (i := 3) nd rfl (Or.inl rfl) (pe_ix ix_list (pe_lst (pa_cons (pe_callTy call_str_int rfl B.str bt_str (pa_cons (pe_op op_mod (pv 2) pe_int) pa_nil)) (pa_cons (pe_op op_add_str (pe_op op_mul_str pe_str (pe_op op_mod (pv 2) pe_int)) (pe_callTy call_str_int rfl B.str bt_str (pa_cons (pe_op op_fdiv (pv 2) pe_int) pa_nil))) (pa_cons (pe_callTy call_str_int rfl B.str bt_str (pa_cons (pe_op op_pow (pv 2) pe_int) pa_nil)) pa_nil)))) (pe_op op_mod (pv 2) pe_int) (fun _ _ => rfl)))
    (pss_one (ps_ret (pe_tup (pa_cons pe_str (pa_cons (pe_op op_add_str (pe_op op_mul_str pe_str (pe_op op_fdiv (pe_op op_mod (pe_op op_fdiv (pv 2) pe_int) pe_int) pe_int)) (pv 3)) pa_nil)))))) pss_nil)
    (pss_cons (ps_if (pt_cmpR op_lt (pv 1) pe_int (nomark _)) (pss_one (ps_ret (pe_tup (pa_cons pe_str (pa_cons (pe_ix ix_list (pe_lst (pa_cons (pe_ix ix_list (pe_lst (pa_cons pe_str (pa_cons pe_str (pa_cons pe_str pa_nil)))) (pe_op op_mod (pe_op op_fdiv (pv 2) pe_int) pe_int) (fun _ _ => rfl)) (pa_cons (pe_cd G_law_word_by hr (by omega) rfl (pa_cons (pe_op op_fdiv (pv 2) pe_int) pa_nil)) pa_nil))) (pe_op op_mod (pv 2) pe_int) (fun _ _ => rfl)) pa_nil))))) pss_nil)
    (pss_cons (ps_if (pt_cmpR op_lt (pv 1) pe_int (nomark _)) (pss_one (ps_ret (pe_tup (pa_cons pe_str (pa_cons (pe_op op_mul_str (pe_cd G_law_text_by hr (by omega) rfl (pa_cons (pv 2) pa_nil)) (pe_op op_add pe_int (pe_op op_fdiv (pe_op op_mod (pe_op op_fdiv (pv 2) pe_int) pe_int) pe_int))) pa_nil))))) pss_nil)
    (pss_one (ps_ret (pe_tup (pa_cons pe_str (pa_cons (pe_ix ix_str pe_str (pe_op op_mod (pv 2) pe_int) (fun _ _ => rfl)) pa_nil)))))))))), ?_⟩
  rw [show start ["_law_more", "_law_kind", "_law_cell_here", "_law_figures"] [.int m] = [some (.int m), none, none, none] from rfl]
  walk_at "rd3"
  have hc0 : 0 ≤ m / 8 := by omega
  have hc1 : m / 8 ≤ 125000 := by omega
  generalize m / 8 = c at hc0 hc1 ⊢
  obtain ⟨p90, p91⟩ := pow9 hc0 hc1
  by_cases k2 : m % 8 < 2
  · obtain ⟨a1, a2⟩ := figs_fig (i := c % 1000) (by omega)
    have a3 := figs_len (i := c % 1000) (by omega) (by omega)
    obtain ⟨b1, b2⟩ := figs_fig (i := c / 4) (by omega)
    have b3 := figs_len (i := c / 4) (by omega) (by omega)
    obtain ⟨d1, d2⟩ := figs_fig p90
    have d3 := figs_len p90 p91
    simp only [of_int, ts_0, ts_mi, rep_one]
    refine iP k2 ⟨log_ok (by omega) (by omega), by decide, by omega, by omega, log_ok (by omega) (by omega), ?_, by omega, log_ok p90 p91, fun p1 hp1 => ?_⟩
    · rw [tx_len, tx_len, List.length_replicate]; omega
    rw [app_tx]
    obtain ⟨v, hv, hm⟩ := atI_of (xs := [V.str (tx (figs (c % 1000))), V.str (tx (List.replicate (c % 4).toNat 48 ++ figs (c / 4))), V.str (tx (figs (c ^ 9)))]) (i := c % 3) (by omega) (by simp only [List.length_cons, List.length_nil]; omega)
    obtain ⟨fs, rfl, f1, f2, f3⟩ : ∃ fs, v = .str (tx fs) ∧ fs ≠ [] ∧ (∀ x ∈ fs, x ∈ figL) ∧ fs.length ≤ 70 := by
      simp only [List.mem_cons, List.not_mem_nil, or_false] at hm
      rcases hm with rfl | rfl | rfl
      · exact ⟨_, rfl, a1, a2, by omega⟩
      · refine ⟨_, rfl, ?_, fun x hx => ?_, ?_⟩
        · intro z
          exact b1 (List.append_eq_nil_iff.mp z).2
        · rcases List.mem_append.mp hx with z | z
          · rw [(List.mem_replicate.mp z).2]; exact digit_fig _ List.mem_cons_self
          · exact b2 x z
        · rw [List.length_append, List.length_replicate]; omega
      · exact ⟨_, rfl, d1, d2, by omega⟩
    have s1 := same_new hp1 (.lst [V.str (tx (figs (c % 1000))), V.str (tx (List.replicate (c % 4).toNat 48 ++ figs (c / 4))), V.str (tx (figs (c ^ 9)))])
    refine rIxL_i (SqL.of upd_same) hv ⟨by decide, by omega, by omega, _, rfl, ?_, fun p2 hp2 => ?_⟩
    · rw [tx_len, tx_len, List.length_replicate]; omega
    rw [app_tx]
    refine q p2 (0, List.replicate (c / 5 % 3 / 2).toNat 45 ++ fs) _ (s1.trans (same_new hp2 _)) upd_same ⟨?_, .inl ⟨rfl, List.replicate (c / 5 % 3 / 2).toNat 45, fs, rfl, ?_, f1, f2⟩⟩
    · show (List.replicate (c / 5 % 3 / 2).toNat 45 ++ fs).length ≤ 100
      rw [List.length_append, List.length_replicate]; omega
    · rcases (show (c / 5 % 3 / 2).toNat = 0 ∨ (c / 5 % 3 / 2).toNat = 1 by omega) with z | z <;> rw [z]
      · exact .inl rfl
      · exact .inr rfl
  refine iN k2 ?_
  by_cases k4 : m % 8 < 4
  · refine iP k4 fun p1 hp1 => ?_
    have e1 := upd_same (H := H) (a := p1) (o := .lst [V.str (Str.ofString "none"), V.str (Str.ofString "yes"), V.str (Str.ofString "no")])
    have s1 := same_new hp1 (.lst [V.str (Str.ofString "none"), V.str (Str.ofString "yes"), V.str (Str.ofString "no")])
    generalize upd H p1 _ = H1 at s1 e1 ⊢
    obtain ⟨v, hv, hm⟩ := atI_of (xs := [V.str (Str.ofString "none"), V.str (Str.ofString "yes"), V.str (Str.ofString "no")]) (i := c / 2 % 3) (by omega) (by simp only [List.length_cons, List.length_nil]; omega)
    have w3 : ∃ x, v = .str (tx x) ∧ OkTk (1, x) := by
      have wd : ∀ (z : Str) (c : Nat) (r : List Nat), ts z = c :: r → c ∈ letL → (∀ d ∈ r, d ∈ letL ++ figL) → r.length ≤ 90 → ∃ x, V.str z = .str (tx x) ∧ OkTk (1, x) := fun z c r e h1 h2 h3 => ⟨ts z, by rw [tx_ts], by show (ts z).length ≤ 100; rw [e, List.length_cons]; omega, .inr (.inl ⟨rfl, c, r, e, h1, h2⟩)⟩
      simp only [List.mem_cons, List.not_mem_nil, or_false] at hm
      rcases hm with rfl | rfl | rfl
      · exact wd _ 110 [111, 110, 101] (by decide +kernel) (by decide +kernel) (by decide +kernel) (by decide)
      · exact wd _ 121 [101, 115] (by decide +kernel) (by decide +kernel) (by decide +kernel) (by decide)
      · exact wd _ 110 [111] (by decide +kernel) (by decide +kernel) (by decide +kernel) (by decide)
    obtain ⟨x, rfl, hx⟩ := w3
    refine rIxL_i (SqL.of e1) hv ⟨c / 2, rfl, by omega, by omega, fun y hy H2 g2 p3 hp3 => ?_⟩
    have hy' : OkTk (1, y) := by
      obtain ⟨d, r, e, h1, h2, h3⟩ := hy
      exact ⟨by show y.length ≤ 100; rw [e, List.length_cons]; omega, .inr (.inl ⟨rfl, d, r, e, h1, h2⟩)⟩
    have s3 := same_new hp3 (.lst [V.str (tx x), V.str (tx y)])
    obtain ⟨v, hv2, hm2⟩ := atI_of (xs := [V.str (tx x), V.str (tx y)]) (i := c % 2) (by omega) (by simp only [List.length_cons, List.length_nil]; omega)
    refine rIxL_i (SqL.of upd_same) hv2 fun p4 hp4 => ?_
    simp only [List.mem_cons, List.not_mem_nil, or_false] at hm2
    rcases hm2 with rfl | rfl
    · exact q p4 (1, x) _ (s1.trans (g2.trans (s3.trans (same_new hp4 _)))) upd_same hx
    · exact q p4 (1, y) _ (s1.trans (g2.trans (s3.trans (same_new hp4 _)))) upd_same hy'
  refine iN k4 ?_
  by_cases k6 : m % 8 < 6
  · refine iP k6 ⟨c, rfl, by omega, by omega, fun x hx H1 g1 => ?_⟩
    have hx' := hx
    unfold okText at hx'
    simp only [Bool.and_eq_true, decide_eq_true_eq, List.all_eq_true] at hx'
    refine ⟨_, rfl, by rw [tx_len]; omega, by omega, by omega, fun p2 hp2 => ?_⟩
    rw [ts_tx]
    refine q p2 (2, (List.replicate (1 + c / 97 % 5 / 3).toNat x).flatten) _ (g1.trans (same_new hp2 _)) upd_same ⟨?_, .inr (.inr (.inl ⟨rfl, fun d hd => ?_⟩))⟩
    · show ((List.replicate (1 + c / 97 % 5 / 3).toNat x).flatten).length ≤ 100
      rw [len_rep]
      have : (1 + c / 97 % 5 / 3).toNat ≤ 2 := by omega
      have := Nat.mul_le_mul this hx'.1
      omega
    · obtain ⟨l, hl, hd⟩ := List.mem_flatten.mp hd
      rw [(List.mem_replicate.mp hl).2] at hd
      exact hx'.2 d hd
  · refine iN k6 ?_
    obtain ⟨d, hd, hm⟩ := atI_of (xs := mkL) (i := c % 6) (by omega) (by show c % 6 < 6; omega)
    rw [of_mks]
    refine rIxS_i (by decide) (by rw [ts_tx]; exact hd) fun p2 hp2 => ?_
    exact q p2 (3, [d]) _ (same_new hp2 _) upd_same ⟨(show 1 ≤ 100 by decide), .inr (.inr (.inr ⟨rfl, d, rfl, hm⟩))⟩
def spSticks : Sp := fun vs H Q _ => ∃ (p p' : Addr) (t t' : Tk), vs = [.ref p, .ref p'] ∧ H p = some (.tup [.str (kS t.1), .str (tx t.2)]) ∧ H p' = some (.tup [.str (kS t'.1), .str (tx t'.2)]) ∧ OkTk t ∧ OkTk t' ∧ Q (.bl (stk t t')) H
theorem scSticks : FnScope ["_law_one", "_law_other"] ["_law_one", "_law_other"] (defScope sSticks) := ⟨rfl, rfl, rfl, by decide +kernel, rfl, by decide +kernel, by decide +kernel⟩
theorem ok_sticks (F : Fun K "_law_sticks" "_law_sticks" sSticks f fd) : FnOk P w K mg base CX0 1 f fd ["_law_one", "_law_other"] spSticks := by
  refine F.ok scSticks (fun vs H Q E h => ?_) (fun cdv A outer s H vs Q E hr h => ?_)
  · obtain ⟨p, p', t, t', rfl, _⟩ := h
    rfl
  obtain ⟨p, p', t, t', rfl, hp, hp', ht, ht', q⟩ := h
  have nd := scSticks.nd
  refine ⟨_, (pss_cons (ps_if (PW.pt (pw_and (pt_cmpR op_eq (pe_slice sl_str (pe_ix ix_tup (pv 1) pe_int (fun _ _ => rfl)) po_none (po_some pe_int)) pe_str (nomark _)) (pw_and1 (pt_cmpR op_eq (pe_ix ix_tup (pv 1) pe_int (fun _ _ => rfl)) pe_str (nomark _))))) (pss_one (ps_ret pe_bl)) pss_nil)
    (pss_cons (ps_if (pt_cmpR op_eq (pe_ix ix_tup (pv 0) pe_int (fun _ _ => rfl)) pe_str (nomark _)) (pss_one (ps_ret (pe_or (pe_cmpR op_eq (pe_ix ix_tup (pv 1) pe_int (fun _ _ => rfl)) pe_str (nomark _)) (pe_one (pe_cmpR op_eq (pe_ix ix_tup (pv 1) pe_int (fun _ _ => rfl)) pe_str (nomark _)))))) pss_nil)
    (pss_one (ps_ret (pe_and (pe_cmpR op_eq (pe_ix ix_tup (pv 0) pe_int (fun _ _ => rfl)) (pe_ix ix_tup (pv 1) pe_int (fun _ _ => rfl)) (nomark _)) (pe_one (pe_cmpR op_ne (pe_ix ix_tup (pv 0) pe_int (fun _ _ => rfl)) pe_str (nomark _)))))))), ?_⟩
  rw [show start ["_law_one", "_law_other"] [.ref p, .ref p'] = [some (.ref p), some (.ref p')] from rfl]
  walk_at "rd3"
  have r0 : ∀ {Q : VK}, Q (V.str (kS t.1)) H → rIxT K (.ref p) (.int 0) H Q := fun q => rIxT_i (SqT.of hp) (atI_nat (j := 0) rfl) q
  have r0' : ∀ {Q : VK}, Q (V.str (kS t'.1)) H → rIxT K (.ref p') (.int 0) H Q := fun q => rIxT_i (SqT.of hp') (atI_nat (j := 0) rfl) q
  have hl' := ht'.1
  refine rIxT_i (SqT.of hp') (atI_nat (j := 1) rfl) ⟨_, rfl, by rw [tx_len, sizeLine_eq]; omega, ?_⟩
  rw [show (some (1 : Int)) = some ((1 : Nat) : Int) from rfl, slice_to, ts_tx, of_mi, show Str.ofString "number" = kS 0 from rfl, show Str.ofString "word" = kS 1 from rfl, show Str.ofString "mark" = kS 3 from rfl]
  refine ⟨rfl, ?_⟩
  have e45 : (V.str (tx (t'.2.take 1)) = V.str (tx [45])) ↔ t'.2.take 1 = [45] := ⟨fun z => by have := congrArg ts (V.str.inj z); rwa [ts_tx, ts_tx] at this, fun z => by rw [z]⟩
  unfold stk at q
  by_cases c1 : t'.2.take 1 = [45]
  · refine iP (e45.mpr c1) (r0' ⟨rfl, ?_⟩)
    by_cases c2 : t'.1 = 0
    · rw [if_pos ⟨c1, c2⟩] at q
      exact iP ((kS_is ht' (by decide)).mpr c2) q
    · rw [if_neg fun z => c2 z.2] at q
      refine iN (fun z => c2 ((kS_is ht' (by decide)).mp z)) ?_
      refine r0 ⟨rfl, ?_⟩
      by_cases a : t.1 = 1
      · refine iP ((kS_is ht (by decide)).mpr a) (r0' ⟨rfl, ?_⟩)
        rw [if_pos a] at q
        by_cases b : t'.1 = 1
        · rw [decide_eq_true b, Bool.true_or] at q
          exact iP ((kS_is ht' (by decide)).mpr b) q
        · rw [decide_eq_false b, Bool.false_or] at q
          refine iN (fun z => b ((kS_is ht' (by decide)).mp z)) (r0' ⟨rfl, ?_⟩)
          rw [show decide (V.str (kS t'.1) = V.str (kS 0)) = decide (t'.1 = 0) from decide_eq_decide.mpr (kS_is ht' (by decide))]
          exact q
      · refine iN (fun z => a ((kS_is ht (by decide)).mp z)) (r0 (r0' ⟨rfl, ?_⟩))
        rw [if_neg a] at q
        by_cases b : t.1 = t'.1
        · rw [decide_eq_true b, Bool.true_and] at q
          refine iP (by rw [b]) (r0 ⟨rfl, ?_⟩)
          rw [show decide (V.str (kS t.1) = V.str (kS 3)) = decide (t.1 = 3) from decide_eq_decide.mpr (kS_is ht (by decide))]
          exact q
        · rw [decide_eq_false b, Bool.false_and] at q
          exact iN (fun z => b (kS_inj _ (OkTk.k ht) _ (OkTk.k ht') (V.str.inj z))) q
  · rw [if_neg fun z => c1 z.1] at q
    refine iN (fun z => c1 (e45.mp z)) ?_
    refine r0 ⟨rfl, ?_⟩
    by_cases a : t.1 = 1
    · refine iP ((kS_is ht (by decide)).mpr a) (r0' ⟨rfl, ?_⟩)
      rw [if_pos a] at q
      by_cases b : t'.1 = 1
      · rw [decide_eq_true b, Bool.true_or] at q
        exact iP ((kS_is ht' (by decide)).mpr b) q
      · rw [decide_eq_false b, Bool.false_or] at q
        refine iN (fun z => b ((kS_is ht' (by decide)).mp z)) (r0' ⟨rfl, ?_⟩)
        rw [show decide (V.str (kS t'.1) = V.str (kS 0)) = decide (t'.1 = 0) from decide_eq_decide.mpr (kS_is ht' (by decide))]
        exact q
    · refine iN (fun z => a ((kS_is ht (by decide)).mp z)) (r0 (r0' ⟨rfl, ?_⟩))
      rw [if_neg a] at q
      by_cases b : t.1 = t'.1
      · rw [decide_eq_true b, Bool.true_and] at q
        refine iP (by rw [b]) (r0 ⟨rfl, ?_⟩)
        rw [show decide (V.str (kS t.1) = V.str (kS 3)) = decide (t.1 = 3) from decide_eq_decide.mpr (kS_is ht (by decide))]
        exact q
      · rw [decide_eq_false b, Bool.false_and] at q
        exact iN (fun z => b (kS_inj _ (OkTk.k ht) _ (OkTk.k ht') (V.str.inj z))) q
def spShown : Sp := fun vs H Q _ => ∃ (p : Addr) (t : Tk), vs = [.ref p] ∧ H p = some (.tup [.str (kS t.1), .str (tx t.2)]) ∧ OkTk t ∧ ∀ H', Same H H' → Q (.str (tx (shw t))) H'
theorem scShown : FnScope ["_law_token"] ["_law_token"] (defScope sShown) := ⟨rfl, rfl, rfl, by decide +kernel, rfl, by decide +kernel, by decide +kernel⟩
theorem ok_shown (F : Fun K "_law_shown" "_law_shown" sShown f fd) (B : Bl mg) : FnOk P w K mg base CX0 1 f fd ["_law_token"] spShown := by
  refine F.ok scShown (fun vs H Q E h => ?_) (fun cdv A outer s H vs Q E hr h => ?_)
  · obtain ⟨p, t, rfl, _⟩ := h
    rfl
  obtain ⟨p, t, rfl, hp, ht, q⟩ := h
  have nd := scShown.nd
  refine ⟨_, (pss_cons (ps_if (pt_cmpR op_eq (pe_ix ix_tup (pv 0) pe_int (fun _ _ => rfl)) pe_str (nomark _)) (pss_one (ps_ret (pe_op op_add_str (pe_op op_add_str pe_str (pe_bm PySem.F.plainAttrs_str PySem.F.slot_str_join PySem.F.type_str_join mt_joinG pe_str (pa_cons (pe_bm PySem.F.plainAttrs_str PySem.F.slot_str_split PySem.F.type_str_split mt_split (pe_ix ix_tup (pv 0) pe_int (fun _ _ => rfl)) (pa_cons pe_str pa_nil)) pa_nil))) pe_str))) pss_nil)
    (pss_one (ps_ret (pe_ix ix_tup (pv 0) pe_int (fun _ _ => rfl))))), ?_⟩
  rw [show start ["_law_token"] [.ref p] = [some (.ref p)] from rfl]
  walk_at "rd3"
  have hl := ht.1
  have hk := kS_is ht (j := 2) (by decide)
  rw [show Str.ofString "text" = kS 2 from rfl]
  refine rIxT_i (SqT.of hp) (atI_nat (j := 0) rfl) ⟨rfl, ?_⟩
  by_cases c : t.1 = 2
  · refine iP (hk.mpr c) ⟨rfl, rIxT_i (SqT.of hp) (atI_nat (j := 1) rfl) ⟨rfl, ?_⟩⟩
    have hx : (tx t.2).length = t.2.length := tx_len _
    have h1 := replace_len (tx t.2) (Str.ofString "'") (Str.ofString "''")
    have h2 : (Str.ofString "''").length = 2 := by decide +kernel
    have h3 : (Str.ofString "'").length = 1 := by decide +kernel
    rw [hx, h2] at h1
    have hsl := PyProof.Rows.split_le (tx t.2) (Str.ofString "'")
    rw [hx] at hsl
    refine ⟨tx t.2, Str.ofString "'", rfl, rfl, by omega, by omega, fun l hl' => ?_⟩
    refine ⟨Str.ofString "''", l, Txt.split (tx t.2) (Str.ofString "'"), rfl, rfl, SqL.of upd_same, ?_, ?_⟩
    · have := split_sum (tx t.2) (Str.ofString "'")
      rw [hx] at this
      rw [h2]; omega
    · rw [join_split_is]
      refine ⟨_, rfl, by omega, by rw [app_len]; omega, ?_⟩
      have e : Txt.replace (tx t.2) (Str.ofString "'") (Str.ofString "''") = tx (dbl t.2) := by
        apply str_ext
        rw [of_q, of_qq, show (tx [39] : Str) = ⟨#[39]⟩ from rfl, replace_is, ts_tx, ts_tx, ts_tx]; rfl
      rw [e, of_q, app_tx, app_tx]
      have e2 : [39] ++ dbl t.2 ++ [39] = shw t := by unfold shw; rw [if_pos c]; rfl
      rw [e2]
      exact q _ (same_new hl' _)
  · have e : shw t = t.2 := by unfold shw; rw [if_neg c]
    rw [e] at q
    exact iN (fun z => c (hk.mp z)) (rIxT_i (SqT.of hp) (atI_nat (j := 1) rfl) (q _ (Same.refl _)))
end
end K22
namespace K22
open PySem L2
local macro_rules | `(tactic| walk_at "rd") => `(tactic| simp only [cxOf_K, nox_K, compCx_K, tSeq, tNext, tAsg, gName, tRet, tRetN, tIfS, tDrop, tOp, tUn, tVar, tC, tCall, tCons, tNil, tTest, tB, tAnd, tOr, tNot, tAndV, tOrV, tNotV, tIf, tCB, tBM, tComp, tTrue, tPart, tNoPart, tSl, tChain, tIsN, tNotN, tLst, tTup, tFor_eq, sDPut, tDNewK, tNever, rI0, rI, rU, rEq, rNe, rMulS, rInC, iRng1, iStr, CDiv, CMul, CPow, scal, List.append_nil, List.getElem?_cons_zero, List.getElem?_cons_succ, List.set_cons_zero, List.set_cons_succ, List.map_cons, List.map_nil, List.length_cons, List.length_nil, sizeLine_eq, Nat.reduceAdd, Nat.reduceLeDiff, Option.join_some, Option.join_none, Option.some.injEq, V.int.injEq, V.str.injEq, V.bl.injEq, V.ref.injEq, V.ty.injEq, List.cons.injEq, and_true, true_and, and_self, exists_eq_left', exists_eq_left, exists_and_left, exists_and_right, decide_eq_true_eq, Bool.not_eq_eq_eq_not, Bool.not_true, Bool.not_false, decide_eq_false_iff_not, Int.reduceLT, Int.reduceLE, Int.reduceNeg, Int.reducePow, Int.reduceAdd, Int.reduceSub, Int.reduceMul, Int.reduceToNat, natAbs10, Nat.reduceLT, Nat.reducePow, or_true, true_or, if_true, if_false, Bool.false_eq_true, ite_true, ite_false, reduceCtorEq])
local macro_rules | `(tactic| walk_at "rd3") => `(tactic| simp only [gTup, gCons, gNil, iZip, tIsT, tDisp, tPairs, tBM0, iList, iDict, tThaw, tMaxD, rMaxD, tDGet, rVals, tComp, cxOf_K, nox_K, compCx_K, tSeq, tNext, tAsg, gName, tRet, tRetN, tIfS, tDrop, tOp, tUn, tVar, tC, tCall, tCons, tNil, tTest, tB, tAnd, tOr, tNot, tAndV, tOrV, tNotV, tIf, tCB, tBM, tComp, tTrue, tPart, tNoPart, tSl, tChain, tIsN, tNotN, tLst, tTup, tFor_eq, sDPut, tDNewK, tNever, rI0, rI, rU, rEq, rNe, rMulS, rInC, iRng1, iStr, CDiv, CMul, CPow, scal, List.append_nil, List.getElem?_cons_zero, List.getElem?_cons_succ, List.set_cons_zero, List.set_cons_succ, List.map_cons, List.map_nil, List.length_cons, List.length_nil, sizeLine_eq, Nat.reduceAdd, Nat.reduceLeDiff, Option.join_some, Option.join_none, Option.some.injEq, V.int.injEq, V.str.injEq, V.bl.injEq, V.ref.injEq, V.ty.injEq, List.cons.injEq, and_true, true_and, and_self, exists_eq_left', exists_eq_left, exists_and_left, exists_and_right, decide_eq_true_eq, Bool.not_eq_eq_eq_not, Bool.not_true, Bool.not_false, decide_eq_false_iff_not, Int.reduceLT, Int.reduceLE, Int.reduceNeg, Int.reducePow, Int.reduceAdd, Int.reduceSub, Int.reduceMul, Int.reduceToNat, natAbs10, Nat.reduceLT, Nat.reducePow, or_true, true_or, if_true, if_false, Bool.false_eq_true, ite_true, ite_false, reduceCtorEq])
seal L2.PSs L2.PS L2.PE L2.PT L2.PW L2.PA L2.PI L2.PG L2.PGs L2.PPs L2.PTs
abbrev sLaid : Stmt := top 27
def Tks (H : Hp) (xs : List V) (tks : List Tk) : Prop := xs.length = tks.length ∧ ∀ (i : Nat) (t : Tk), tks[i]? = some t → ∃ a : Addr, xs[i]? = some (.ref a) ∧ H a = some (.tup [.str (kS t.1), .str (tx t.2)])
theorem Tks.same {H H' : Hp} {xs : List V} {tks : List Tk} (h : Tks H xs tks) (g : Same H H') : Tks H' xs tks := ⟨h.1, fun i t ht => by
  obtain ⟨a, h1, h2⟩ := h.2 i t ht
  exact ⟨a, h1, g _ _ h2⟩⟩
def PvL (H : Hp) (p : Addr) (c : Int) (p2 : Addr) (tks : List Tk) : Nat → St → Hp → Prop := fun i σ H' => ∃ (r : List (Nat × Tk)) (b : Nat) (o4 o5 o6 : Option V) (ys : List V), σ = [some (.ref p), some (.int c), some (.str (tx (lay r ++ List.replicate b 32))), some (.ref p2), o4, o5, o6] ∧ Same H H' ∧ H' p2 = some (.lst ys) ∧ Reps H' ys (dueT 0 r) ∧ ys.length = i ∧ r.map (·.2) = tks.take i ∧ Chn r ∧ b ≤ 3 ∧ (0 < i → b = 0) ∧ (lay r).length ≤ 210 * i ∧ (∀ y ∈ r, OkTk y.2)
def MidI (H : Hp) (p : Addr) (c : Int) (p2 : Addr) (r : List (Nat × Tk)) (t : Tk) (i : Nat) : St → Hp → Prop := fun σ H' => ∃ (b : Nat) (o5 o6 : Option V), σ = [some (.ref p), some (.int c), some (.str (tx (lay r ++ List.replicate b 32))), some (.ref p2), some (.int i), o5, o6] ∧ Same H H' ∧ b ≤ 3 ∧ Chn (r ++ [(b, t)])
theorem dueT_one (n b : Nat) (t : Tk) : dueT n [(b, t)] = [.tup [.str (ts (kS t.1)), .str t.2, .int ((n + b : Nat) : Int)]] := rfl
theorem lay_snoc (r : List (Nat × Tk)) (b : Nat) (t : Tk) : lay (r ++ [(b, t)]) = lay r ++ List.replicate b 32 ++ shw t := by
  rw [lay_app, List.append_assoc]
  show lay r ++ (List.replicate b 32 ++ (shw t ++ [])) = _
  rw [List.append_nil]
section
variable {P : Program} {w : World} {K : PySem.W.Frag} {mg : Str → Option Value} {base : Heap} {f : Addr} {fd : FuncData}
def spLaid : Sp := fun vs H Q _ => ∃ (p : Addr) (xs : List V) (tks : List Tk) (c : Int), vs = [.ref p, .int c] ∧ H p = some (.lst xs) ∧ Tks H xs tks ∧ (∀ t ∈ tks, OkTk t) ∧ tks.length ≤ 24 ∧ 0 ≤ c ∧ c < 1000003 ∧
  ∀ (o l : Addr) (r : List (Nat × Tk)) (e : Nat) (H' : Hp), Same H H' → H' o = some (.tup [.str (tx (lay r ++ List.replicate e 32)), .ref l]) → Rep H' (.ref l) (.lst (dueT 0 r ++ [endT (lay r ++ List.replicate e 32).length])) → (∀ y ∈ r, OkTk y.2) → Chn r → r.map (·.2) = tks → r.length ≤ 24 → (lay r ++ List.replicate e 32).length ≤ 10000 → Q (.ref o) H'
theorem scLaid : FnScope ["_law_row", "_law_cell_here", "_law_text", "_law_found", "_law_k", "_law_more", "_law_least"] ["_law_row", "_law_cell_here"] (defScope sLaid) := ⟨rfl, rfl, rfl, by decide +kernel, rfl, by decide +kernel, by decide +kernel⟩
theorem ok_laid (F : Fun K "_law_laid" "_law_laid" sLaid f fd) (B : Bl2 mg) (G_law_sticks : Dn P w K mg base 1 "_law_sticks" ["_law_one", "_law_other"] spSticks) (G_law_shown : Dn P w K mg base 1 "_law_shown" ["_law_token"] spShown) : FnOk P w K mg base CX0 2 f fd ["_law_row", "_law_cell_here"] spLaid := by
  refine F.ok scLaid (fun vs H Q E h => ?_) (fun cdv A outer s H vs Q E hr h => ?_)
  · obtain ⟨p, xs, tks, c, rfl, _⟩ := h
    rfl
  obtain ⟨p, xs, tks, c, rfl, hp, hT, hok, h24, hc0, hc1, q⟩ := h
  have nd := scLaid.nd
  refine ⟨_, (pss_cons (ps_set (i := 2) nd rfl (Or.inl rfl) (pe_op op_mul_str pe_str (pe_ix ix_list (pe_lst (pa_cons pe_int (pa_cons pe_int (pa_cons (pe_op op_mod (pv 1) pe_int) pa_nil)))) (pe_op op_mod (pe_op op_fdiv (pv 1) pe_int) pe_int) (fun _ _ => rfl))))
    (pss_cons (ps_set (i := 3) nd rfl (Or.inl rfl) (pe_lst pa_nil))
    (pss_cons (ps_for PassesOwn.never rfl (pi_range1 rfl B.range (pa_cons (pe_callB call_len_l rfl B.len bt_len (pa_cons (pv 0) pa_nil)) pa_nil)) (pg_name (i := 4) nd rfl (Or.inl rfl)) (pss_cons (ps_set (i := 5) nd rfl (Or.inl rfl) (pe_op op_mod (pe_op op_add (pe_op op_add (pv 1) (pe_op op_mul (pv 4) pe_int)) (pe_op op_mul (pe_op op_mul (pv 4) (pv 4)) pe_int)) pe_int))
    (pss_cons (ps_mid (ps_if (pt_cmpR op_gt (pv 4) pe_int (nomark _)) (pss_cons (ps_set (i := 6) nd rfl (Or.inl rfl) (pe_callTy call_intB rfl B.int bt_int (pa_cons (pe_cd G_law_sticks hr (by omega) rfl (pa_cons (pe_ix ix_list (pv 0) (pe_op op_sub (pv 4) pe_int) (fun _ _ => rfl)) (pa_cons (pe_ix ix_list (pv 0) (pv 4) (fun _ _ => rfl)) pa_nil))) pa_nil)))
    (pss_one (ps_set (i := 2) nd rfl (Or.inl rfl) (pe_op op_add_str (pv 2) (pe_op op_mul_str pe_str (pe_callB (call_max2 rfl) rfl B.max bt_max (pa_cons (pv 6) (pa_cons (pe_ix ix_list (pe_lst (pa_cons pe_int (pa_cons pe_int (pa_cons (pe_op op_mod (pe_op op_fdiv (pv 5) pe_int) pe_int) pa_nil)))) (pe_op op_mod (pv 5) pe_int) (fun _ _ => rfl)) pa_nil)))))))) pss_nil))
    (pss_cons (ps_expr (pe_bm PySem.F.plainAttrs_list PySem.F.slot_list_append PySem.F.type_list_append mt_append (pv 3) (pa_cons (pe_tup (pa_cons (pe_ix ix_tup (pe_ix ix_list (pv 0) (pv 4) (fun _ _ => rfl)) pe_int (fun _ _ => rfl)) (pa_cons (pe_ix ix_tup (pe_ix ix_list (pv 0) (pv 4) (fun _ _ => rfl)) pe_int (fun _ _ => rfl)) (pa_cons (pe_callB call_len_str rfl B.len bt_len (pa_cons (pv 2) pa_nil)) pa_nil)))) pa_nil)))
    (pss_one (ps_set (i := 2) nd rfl (Or.inl rfl) (pe_op op_add_str (pv 2) (pe_cd G_law_shown hr (by omega) rfl (pa_cons (pe_ix ix_list (pv 0) (pv 4) (fun _ _ => rfl)) pa_nil)))))))))
    (pss_cons (ps_set (i := 2) nd rfl (Or.inl rfl) (pe_op op_add_str (pv 2) (pe_op op_mul_str pe_str (pe_ix ix_list (pe_lst (pa_cons pe_int (pa_cons (pe_op op_mod (pe_op op_fdiv (pv 1) pe_int) pe_int) pa_nil))) (pe_op op_mod (pe_op op_fdiv (pv 1) pe_int) pe_int) (fun _ _ => rfl)))))
    (pss_one (ps_ret (pe_tup (pa_cons (pv 2) (pa_cons (pe_op op_cat (pv 3) (pe_lst (pa_cons (pe_tup (pa_cons pe_str (pa_cons pe_str (pa_cons (pe_callB call_len_str rfl B.len bt_len (pa_cons (pv 2) pa_nil)) pa_nil)))) pa_nil))) pa_nil))))))))), ?_⟩
  rw [show start ["_law_row", "_law_cell_here", "_law_text", "_law_found", "_law_k", "_law_more", "_law_least"] [.ref p, .int c] = [some (.ref p), some (.int c), none, none, none, none, none] from rfl]
  walk_at "rd3"
  intro p1 hp1
  have e1 := upd_same (H := H) (a := p1) (o := .lst [V.int 0, V.int 0, V.int (c % 4)])
  have s1 := same_new hp1 (.lst [V.int 0, V.int 0, V.int (c % 4)])
  generalize upd H p1 _ = H1 at s1 e1 ⊢
  obtain ⟨v, hv, hm⟩ := atI_of (xs := [V.int 0, V.int 0, V.int (c % 4)]) (i := c / 4 % 3) (by omega) (by simp only [List.length_cons, List.length_nil]; omega)
  obtain ⟨n, rfl, n0, n3⟩ : ∃ n : Int, v = .int n ∧ 0 ≤ n ∧ n ≤ 3 := by
    simp only [List.mem_cons, List.not_mem_nil, or_false] at hm
    rcases hm with rfl | rfl | rfl
    · exact ⟨_, rfl, by omega, by omega⟩
    · exact ⟨_, rfl, by omega, by omega⟩
    · exact ⟨_, rfl, by omega, by omega⟩
  refine rIxL_i (SqL.of e1) hv ⟨n, rfl, by decide, by omega, by omega, fun p2 hp2 => ?_⟩
  have s2 := s1.trans (same_new hp2 (.lst []))
  have hp2H : H p2 = none := none_back s1 hp2
  have hxl := hT.1
  have ts_sp : ts (Str.ofString " ") = [32] := by decide +kernel
  rw [ts_sp, rep_one]
  refine ⟨xs, SqL.of (s2 _ _ hp), by omega, by omega, forB_rng (PvL H p c p2 tks) ⟨[], n.toNat, none, none, none, [], rfl, s2, upd_same, rfl, rfl, rfl, (fun i x y h => nomatch h), by omega, fun h => absurd h (Nat.lt_irrefl _), Nat.zero_le _, (fun y h => nomatch h)⟩ ?_ ?_⟩
  · rintro i σ H' hi ⟨r, b, o4, o5, o6, ys, rfl, g, hp2', hR, hyl, hrm, hch, hb3, hb0, hlen, hrok⟩
    obtain ⟨t, ht⟩ : ∃ t, tks[i]? = some t := ⟨_, List.getElem?_eq_getElem (by omega)⟩
    obtain ⟨a, ha1, ha2⟩ := hT.2 i t ht
    have htok := hok t (List.mem_of_getElem? ht)
    have hrl : r.length = i := by
      have := congrArg List.length hrm
      rw [List.length_map, List.length_take] at this
      omega
    walk_at "rd3"
    refine ⟨.inl (by omega), MidI H' p c p2 r t i, ?_, ?_⟩
    · walk_at "rd3"
      simp only [Int.zero_add]
      have hpH := g _ _ hp
      by_cases c0 : (0 : Int) < (i : Int)
      · have hi0 : 0 < i := by omega
        have hb := hb0 hi0
        subst hb
        obtain ⟨u, hu⟩ : ∃ u, tks[i - 1]? = some u := ⟨_, List.getElem?_eq_getElem (by omega)⟩
        obtain ⟨a', hb1, hb2⟩ := hT.2 (i - 1) u hu
        have huok := hok u (List.mem_of_getElem? hu)
        have elast : ∀ x, r.getLast? = some x → x.2 = u := fun x hx => by
          rw [List.getLast?_eq_getElem?, hrl] at hx
          have h1 : (r.map (·.2))[i - 1]? = some x.2 := by rw [List.getElem?_map, hx]; rfl
          rw [hrm, List.getElem?_take_of_lt (by omega), hu] at h1
          exact (Option.some.inj h1).symm
        refine iP c0 (rIxL_i (SqL.of hpH) (show atI xs ((i : Int) - 1) = some (V.ref a') by rw [show (i : Int) - 1 = ((i - 1 : Nat) : Int) by omega]; exact atI_nat hb1) (rIxL_i (SqL.of hpH) (atI_nat ha1) ⟨a', a, u, t, rfl, g _ _ hb2, g _ _ ha2, huok, htok, stk u t, rfl, fun q1 hq1 => ?_⟩))
        have hm0 := Int.emod_nonneg (c + (i : Int) * 7919 + (i : Int) * (i : Int) * 31) (show (1000003 : Int) ≠ 0 by decide)
        generalize (c + (i : Int) * 7919 + (i : Int) * (i : Int) * 31) % 1000003 = m at hm0 ⊢
        obtain ⟨v, hv, hm⟩ := atI_of (xs := [V.int 0, V.int 1, V.int (m / 3 % 4)]) (i := m % 3) (by omega) (by simp only [List.length_cons, List.length_nil]; omega)
        obtain ⟨j, rfl, j0, j3⟩ : ∃ n : Int, v = .int n ∧ 0 ≤ n ∧ n ≤ 3 := by
          simp only [List.mem_cons, List.not_mem_nil, or_false] at hm
          rcases hm with rfl | rfl | rfl
          · exact ⟨_, rfl, by omega, by omega⟩
          · exact ⟨_, rfl, by omega, by omega⟩
          · exact ⟨_, rfl, by omega, by omega⟩
        have sq := same_new hq1 (.lst [V.int 0, V.int 1, V.int (m / 3 % 4)])
        obtain ⟨k, hk0, hk3, hks⟩ : ∃ k : Nat, (if j > (if stk u t = true then (1 : Int) else 0) then j else (if stk u t = true then 1 else 0)) = (k : Int) ∧ k ≤ 3 ∧ (stk u t = true → 0 < k) := by
          refine ⟨(if j > (if stk u t = true then (1 : Int) else 0) then j else (if stk u t = true then 1 else 0)).toNat, ?_⟩
          cases stk u t with
          | false =>
            simp only [Bool.false_eq_true, if_false]
            split
            · exact ⟨by omega, by omega, fun h => nomatch h⟩
            · exact ⟨rfl, by decide, fun h => nomatch h⟩
          | true =>
            simp only [if_true]
            split
            · exact ⟨by omega, by omega, fun _ => by omega⟩
            · exact ⟨rfl, by decide, fun _ => by decide⟩
        refine rIxL_i (SqL.of upd_same) hv ⟨_, j, ⟨rfl, rfl⟩, ?_⟩
        rw [hk0, ts_sp, rep_one, Int.toNat_natCast, app_tx, tx_len, tx_len]
        simp only [List.replicate_zero, List.append_nil]
        refine ⟨by decide, by omega, by omega, ?_, k, _, _, rfl, sq, hk3, hch.snoc fun x hx hs => ?_⟩
        · rw [tx_len, List.length_replicate]; omega
        · rw [elast x hx] at hs
          exact hks hs
      · have hi0 : i = 0 := by omega
        subst hi0
        have er : r = [] := List.eq_nil_of_length_eq_zero hrl
        subst er
        refine iN c0 ⟨b, _, _, rfl, Same.refl _, hb3, hch.snoc fun x hx => ?_⟩
        cases hx
    · rintro σ' H'' ⟨b', o5', o6', rfl, g', hb', hch'⟩
      walk_at "rd3"
      have G := g.trans g'
      have hlr : (lay r ++ List.replicate b' 32).length = (lay r).length + b' := by rw [List.length_append, List.length_replicate]
      refine ⟨.inl ⟨rfl, _, SqL.of (g' _ _ hp2')⟩, rIxL_i (SqL.of (G _ _ hp)) (atI_nat ha1) (rIxT_i (SqT.of (G _ _ ha2)) (atI_nat (j := 0) rfl) (rIxL_i (SqL.of (G _ _ hp)) (atI_nat ha1) (rIxT_i (SqT.of (G _ _ ha2)) (atI_nat (j := 1) rfl) ⟨by rw [tx_len, hlr]; omega, fun q1 hq1 => ?_⟩)))⟩
      rw [tx_len]
      obtain ⟨g3, g4⟩ := app_tup G hp2H (g' _ _ hp2') (Reps.same g' _ _ hR) hq1 (fun Hx => tk_reps Hx (kS t.1) t.2 (lay r ++ List.replicate b' 32).length)
      refine ⟨p2, ys, _, rfl, rfl, same_new hq1 _ _ _ (g' _ _ hp2'), by rw [sizeLine_eq]; omega, ?_⟩
      generalize hHH : upd (upd H'' q1 _) p2 _ = HH at g3 g4 ⊢
      have e2 : HH p2 = some (.lst (ys ++ [.ref q1])) := by rw [← hHH]; exact upd_same
      refine rIxL_i (SqL.of (g3 _ _ hp)) (atI_nat ha1) ⟨a, t, rfl, g3 _ _ ha2, htok, fun H3 g5 => ⟨_, rfl, ?_, ?_⟩⟩
      · have := htok.len
        rw [tx_len, hlr]; omega
      · rw [app_tx, ← lay_snoc]
        refine ⟨r ++ [(b', t)], 0, _, _, _, _, by rw [List.replicate_zero, List.append_nil], g3.trans g5, g5 _ _ e2, ?_, by rw [List.length_append, hyl]; rfl, ?_, hch', Nat.zero_le _, fun _ => rfl, ?_, fun y hy => ?_⟩
        · rw [dueT_app, dueT_one, Nat.zero_add, ← hlr]
          exact Reps.same g5 _ _ g4
        · rw [List.map_append, hrm, take_succ_of ht]; rfl
        · have := htok.len
          rw [lay_snoc, List.length_append, hlr]; omega
        · rcases List.mem_append.mp hy with z | z
          · exact hrok y z
          · rw [List.mem_singleton.mp z]; exact htok
  · rintro σ H' ⟨r, b, o4, o5, o6, ys, rfl, g, hp2', hR, hyl, hrm, hch, hb3, hb0, hlen, hrok⟩
    walk_at "rd3"
    intro q1 hq1
    have e1 := upd_same (H := H') (a := q1) (o := .lst [V.int 0, V.int (c / 12 % 4)])
    have s1 := same_new hq1 (.lst [V.int 0, V.int (c / 12 % 4)])
    generalize upd H' q1 _ = H1 at s1 e1 ⊢
    obtain ⟨v, hv, hm⟩ := atI_of (xs := [V.int 0, V.int (c / 12 % 4)]) (i := c / 48 % 2) (by omega) (by simp only [List.length_cons, List.length_nil]; omega)
    obtain ⟨j, rfl, j0, j3⟩ : ∃ n : Int, v = .int n ∧ 0 ≤ n ∧ n ≤ 3 := by
      simp only [List.mem_cons, List.not_mem_nil, or_false] at hm
      rcases hm with rfl | rfl
      · exact ⟨_, rfl, by omega, by omega⟩
      · exact ⟨_, rfl, by omega, by omega⟩
    have hrl : r.length = xs.length := by
      have := congrArg List.length hrm
      rw [List.length_map, List.length_take] at this
      omega
    have hlr : (lay r ++ List.replicate b 32).length = (lay r).length + b := by rw [List.length_append, List.length_replicate]
    have hL : lay r ++ List.replicate b 32 ++ List.replicate j.toNat 32 = lay r ++ List.replicate (b + j.toNat) 32 := by rw [List.append_assoc, List.replicate_append_replicate]
    have hLl : (lay r ++ List.replicate (b + j.toNat) 32).length ≤ 10000 := by rw [List.length_append, List.length_replicate]; omega
    refine rIxL_i (SqL.of e1) hv ⟨j, rfl, by decide, by omega, by omega, ?_⟩
    rw [ts_sp, rep_one, app_tx, hL, tx_len, tx_len, tx_len, hlr, List.length_replicate]
    generalize hLe : lay r ++ List.replicate (b + j.toNat) 32 = L at hLl ⊢
    refine ⟨by omega, by omega, fun q2 hq2 q3 hq3 => ?_⟩
    have e2 := upd_same (H := H1) (a := q2) (o := .tup [V.str (Str.ofString "end"), V.str (Str.ofString ""), V.int L.length])
    have s2 := same_new hq2 (.tup [V.str (Str.ofString "end"), V.str (Str.ofString ""), V.int L.length])
    generalize upd H1 q2 _ = H2 at s2 e2 hq3 ⊢
    have e3 := upd_same (H := H2) (a := q3) (o := .lst [V.ref q2])
    have s3 := same_new hq3 (.lst [V.ref q2])
    generalize upd H2 q3 _ = H3 at s3 e3 ⊢
    have g3 := s1.trans (s2.trans s3)
    refine ⟨p2, q3, ys, [V.ref q2], rfl, rfl, g3 _ _ hp2', e3, by rw [sizeLine_eq]; simp only [List.length_cons, List.length_nil]; omega, fun q4 hq4 q5 hq5 => ?_⟩
    have e4 := upd_same (H := H3) (a := q4) (o := .lst (ys ++ [V.ref q2]))
    have s4 := same_new hq4 (.lst (ys ++ [V.ref q2]))
    generalize upd H3 q4 _ = H4 at s4 e4 hq5 ⊢
    have s5 := same_new hq5 (.tup [V.str (tx L), V.ref q4])
    have g5 := g3.trans (s4.trans s5)
    have eL : (lay r ++ List.replicate (b + j.toNat) 32).length = L.length := by rw [hLe]
    refine q q5 q4 r (b + j.toNat) _ (g.trans g5) (by rw [hLe]; exact upd_same) ⟨q4, _, rfl, s5 _ _ e4, ?_⟩ hrok hch (by rw [hrm]; exact List.take_of_length_le (by omega)) (by omega) (by omega)
    rw [eL]
    refine Reps.append ?_ (Reps.same g5 _ _ hR)
    exact (show Reps _ [V.ref q2] [endT L.length] from ⟨_, [], rfl, ⟨q2, _, rfl, (s3.trans (s4.trans s5)) _ _ e2, tk_reps _ (Str.ofString "end") [] L.length⟩, rfl⟩)
end
end K22
namespace K22
open PySem L2 PySem.W
def clsFn (s : Stmt) : Stmt := match s with
  | .ClassDef _ _ _ (f :: _) _ _ _ _ _ _ _ => f
  | _ => s
abbrev sBInit : Stmt := clsFn (top 8)
theorem scBInit : FnScope ["self", "text", "at"] ["self", "text", "at"] (defScope sBInit) := ⟨rfl, rfl, rfl, by decide +kernel, rfl, by decide +kernel, by decide +kernel⟩
section
variable {P : Program} {w : World} {K : PySem.W.Frag} {mg : Str → Option Value} {base : Heap} {C B fI dT : Addr} {nm : Str} {oc kV doc pm cdv ct : Value} {od an : Option Addr} {osl : Array (Option Value)}
theorem ok_binit (lk : K.lookup fI = some ⟨oc, od, .func (fnOf "__init__" "BadText.__init__" (defArgs sBInit) (defBody sBInit) (defScope sBInit) (.ref dT) kV doc pm an cdv ct), osl⟩) (hcd : codeIn K cdv "BadText.__init__" = true) (c : XCls K nm C B fI) (b : XBase K B) (hmB : mg "CabinetError" = some (.ref B)) :
    FnOk P w K mg base CX0 1 fI (fnOf "__init__" "BadText.__init__" (defArgs sBInit) (defBody sBInit) (defScope sBInit) (.ref dT) kV doc pm an cdv ct) ["self", "text", "at"] (spXInit C) := by
  refine fn_of (k := 0) lk hcd scBInit (fun vs H Q E h => ?_) fun A outer s H vs Q E hr h => ?_
  · obtain ⟨x, v0, v, rfl, _⟩ := h
    rfl
  obtain ⟨x, v0, v, rfl, hx, q⟩ := h
  refine ⟨_, (pss_cons (ps_expr (pe_xinit c b rfl hmB (pa_cons (pv 0) (pa_cons (pv 1) pa_nil)))) (pss_one (ps_xset c (pv 2) (pv 0)))), ?_⟩
  refine ⟨.ref x, rfl, v0, rfl, x, v0, rfl, hx, v, rfl, .ref x, rfl, x, rfl, hx, fun d hd => q d hd⟩
theorem binit_binds {o : Obj} {items : Array Value} {n : Nat} (hd : K.lookup dT = some o) (hs : o.data = .seq items n) (h1 : items.size = 1) : Binds K (fnOf "__init__" "BadText.__init__" (defArgs sBInit) (defBody sBInit) (defScope sBInit) (.ref dT) kV doc pm an cdv ct) ["self", "text", "at"] [] := fun s us hK hl => by
  rw [List.append_nil] at hl ⊢
  obtain ⟨l⟩ := items
  match l, h1 with
  | [i0], _ =>
    match us, hl with
    | [a, b, c], _ => exact binds_K hK rfl hd hs rfl rfl
end
end K22
namespace K22
open PySem L2
local macro_rules | `(tactic| walk_at "rd") => `(tactic| simp only [cxOf_K, nox_K, compCx_K, tSeq, tNext, tAsg, gName, tRet, tRetN, tIfS, tDrop, tOp, tUn, tVar, tC, tCall, tCons, tNil, tTest, tB, tAnd, tOr, tNot, tAndV, tOrV, tNotV, tIf, tCB, tBM, tComp, tTrue, tPart, tNoPart, tSl, tChain, tIsN, tNotN, tLst, tTup, tFor_eq, sDPut, tDNewK, tNever, rI0, rI, rU, rEq, rNe, rMulS, rInC, iRng1, iStr, CDiv, CMul, CPow, scal, List.append_nil, List.getElem?_cons_zero, List.getElem?_cons_succ, List.set_cons_zero, List.set_cons_succ, List.map_cons, List.map_nil, List.length_cons, List.length_nil, sizeLine_eq, Nat.reduceAdd, Nat.reduceLeDiff, Option.join_some, Option.join_none, Option.some.injEq, V.int.injEq, V.str.injEq, V.bl.injEq, V.ref.injEq, V.ty.injEq, List.cons.injEq, and_true, true_and, and_self, exists_eq_left', exists_eq_left, exists_and_left, exists_and_right, decide_eq_true_eq, Bool.not_eq_eq_eq_not, Bool.not_true, Bool.not_false, decide_eq_false_iff_not, Int.reduceLT, Int.reduceLE, Int.reduceNeg, Int.reducePow, Int.reduceAdd, Int.reduceSub, Int.reduceMul, Int.reduceToNat, natAbs10, Nat.reduceLT, Nat.reducePow, or_true, true_or, if_true, if_false, Bool.false_eq_true, ite_true, ite_false, reduceCtorEq])
local macro_rules | `(tactic| walk_at "rd3") => `(tactic| simp only [gTup, gCons, gNil, iZip, tIsT, tDisp, tPairs, tBM0, iList, iDict, tThaw, tMaxD, rMaxD, tDGet, rVals, tComp, cxOf_K, nox_K, compCx_K, tSeq, tNext, tAsg, gName, tRet, tRetN, tIfS, tDrop, tOp, tUn, tVar, tC, tCall, tCons, tNil, tTest, tB, tAnd, tOr, tNot, tAndV, tOrV, tNotV, tIf, tCB, tBM, tComp, tTrue, tPart, tNoPart, tSl, tChain, tIsN, tNotN, tLst, tTup, tFor_eq, sDPut, tDNewK, tNever, rI0, rI, rU, rEq, rNe, rMulS, rInC, iRng1, iStr, CDiv, CMul, CPow, scal, List.append_nil, List.getElem?_cons_zero, List.getElem?_cons_succ, List.set_cons_zero, List.set_cons_succ, List.map_cons, List.map_nil, List.length_cons, List.length_nil, sizeLine_eq, Nat.reduceAdd, Nat.reduceLeDiff, Option.join_some, Option.join_none, Option.some.injEq, V.int.injEq, V.str.injEq, V.bl.injEq, V.ref.injEq, V.ty.injEq, List.cons.injEq, and_true, true_and, and_self, exists_eq_left', exists_eq_left, exists_and_left, exists_and_right, decide_eq_true_eq, Bool.not_eq_eq_eq_not, Bool.not_true, Bool.not_false, decide_eq_false_iff_not, Int.reduceLT, Int.reduceLE, Int.reduceNeg, Int.reducePow, Int.reduceAdd, Int.reduceSub, Int.reduceMul, Int.reduceToNat, natAbs10, Nat.reduceLT, Nat.reducePow, or_true, true_or, if_true, if_false, Bool.false_eq_true, ite_true, ite_false, reduceCtorEq])
seal L2.PSs L2.PS L2.PE L2.PT L2.PW L2.PA L2.PI L2.PG L2.PGs L2.PPs L2.PTs
/-- wanted of an exception: BadText at n -/
def XBad (C : Addr) (n : Nat) (H : Hp) (E : XK) : Prop := ∀ d H', Same H H' → H' d = some (.xd [("at", .int n)]) → E (.ref C) (some d) H'
theorem XBad.of {C : Addr} {n : Nat} {H H1 : Hp} {E : XK} {d : Addr} (h : XBad C n H E) (g : Same H H1) (hd : H1 d = none) : E (.ref C) (some d) (upd H1 d (.xd [("at", .int n)])) := h d _ (g.trans (same_new hd _)) upd_same
theorem XBad.same {C : Addr} {n : Nat} {H H1 : Hp} {E : XK} (h : XBad C n H E) (g : Same H H1) : XBad C n H1 E := fun d H' g' => h d H' (g.trans g')
def noHead (c : Nat) : Prop := c ≠ 45 ∧ c ∉ figL ∧ c ∉ letL ∧ c ≠ 39 ∧ c ∉ mkL
section
variable {P : Program} {w : World} {K : PySem.W.Frag} {mg : Str → Option Value} {base : Heap} {f : Addr} {fd : FuncData} {C : Addr}
def spKAtX (C : Addr) : Sp := fun vs H _ E => ∃ (L r : List Nat) (n c : Nat), vs = [.str (tx L), .int n] ∧ L.drop n = c :: r ∧ noHead c ∧ L.length ≤ 100000 ∧ XBad C n H E
theorem ok_katx (F : Fun K "kind_at" "kind_at" sKAt f fd) (B : Bl mg) (M : Ms mg) (RBadText : Xr P w K mg base 1 "BadText" C) : FnOk P w K mg base (CXE P w) 3 f fd ["text", "at"] (spKAtX C) := by
  refine F.okx scKAt (fun vs H Q E h => ?_) (fun cdv A outer s H vs Q E hr h => ?_)
  · obtain ⟨L, r, n, c, rfl, _⟩ := h
    rfl
  obtain ⟨L, r, n, c, rfl, hd, hc, hL, q⟩ := h
  have nd := scKAt.nd
  refine ⟨_, (pss_cons (ps_set (i := 2) nd rfl (Or.inl rfl) (pe_ix ix_str (pv 0) (pv 1) (fun _ _ => rfl)))
    (pss_cons (ps_if (PW.pt (pw_or (pt_cmpR op_eq (pv 2) pe_str (nomark _)) (pw_or1 (pt_cmpR op_in_c (pv 2) (pe_gs rfl M.FIGURES) (by with_unfolding_all rfl))))) (pss_one (ps_ret pe_str)) pss_nil)
    (pss_cons (ps_if (pt_cmpR op_in_c (pv 2) (pe_gs rfl M.LETTERS) (by with_unfolding_all rfl)) (pss_one (ps_ret pe_str)) pss_nil)
    (pss_cons (ps_if (pt_cmpR op_eq (pv 2) pe_str (nomark _)) (pss_one (ps_ret pe_str)) pss_nil)
    (pss_cons (ps_if (pt_cmpR op_in_c (pv 2) (pe_gs rfl M.MARKS) (by with_unfolding_all rfl)) (pss_one (ps_ret pe_str)) pss_nil)
    (pss_one (ps_raiseX RBadText hr (by omega) rfl rfl lvs (pa_cons pe_str (pa_cons (pv 1) pa_nil))))))))), ?_⟩
  rw [show start ["text", "at", "sign"] [.str (tx L), .int n] = [some (.str (tx L)), some (.int n), none] from rfl]
  walk_at "rd3"
  refine rIxS_i (by rw [tx_len, sizeLine_eq]; omega) (atI_nat (j := n) (at_drop hd)) ?_
  rw [of_let, of_fig, of_mks, of_q, of_mi]
  simp only [tx1, ts_tx]
  obtain ⟨h1, h2, h3, h4, h5⟩ := hc
  refine ⟨True.intro, iN h1 ⟨c, rfl, iN h2 ⟨c, rfl, iN h3 ⟨True.intro, iN h4 ⟨c, rfl, iN h5 ?_⟩⟩⟩⟩⟩
  exact ⟨_, rfl, _, _, rfl, fun d hd => q.of (Same.refl _) hd⟩
def spNEndX (C : Addr) : Sp := fun vs H _ E => ∃ (L r : List Nat) (n : Nat), vs = [.str (tx L), .int n] ∧ L.drop n = 45 :: r ∧ (∀ c r', r = c :: r' → c ∉ figL) ∧ L.length ≤ 100000 ∧ XBad C n H E
theorem run0 {S r : List Nat} (h : ∀ c r', r = c :: r' → c ∉ S) : runN S r = 0 := by
  have := runN_app (S := S) (x := []) (r := r) (fun c hc => nomatch hc) h
  exact this
theorem ok_nendx (F : Fun K "number_end" "number_end" sNEnd f fd) (B : Bl mg) (M : Ms mg) (Grun_end : Dn P w K mg base 1 "run_end" ["text", "at", "signs"] spRun) (RBadText : Xr P w K mg base 1 "BadText" C) : FnOk P w K mg base (CXE P w) 3 f fd ["text", "at"] (spNEndX C) := by
  refine F.okx scNEnd (fun vs H Q E h => ?_) (fun cdv A outer s H vs Q E hr h => ?_)
  · obtain ⟨L, r, n, rfl, _⟩ := h
    rfl
  obtain ⟨L, r, n, rfl, hd, hst, hL, q⟩ := h
  have nd := scNEnd.nd
  refine ⟨_, (pss_cons (ps_set (i := 2) nd rfl (Or.inl rfl) (pe_ifExp (pt_cmpR op_eq (pe_ix ix_str (pv 0) (pv 1) (fun _ _ => rfl)) pe_str (nomark _)) (pe_op op_add (pv 1) pe_int) (pv 1)))
    (pss_cons (ps_set (i := 3) nd rfl (Or.inl rfl) (pe_cd Grun_end hr (by omega) rfl (pa_cons (pv 0) (pa_cons (pv 2) (pa_cons (pe_gs rfl M.FIGURES) pa_nil)))))
    (pss_cons (ps_if (pt_cmpR op_eq (pv 3) (pv 2) (nomark _)) (pss_one (ps_raiseX RBadText hr (by omega) rfl rfl lvs (pa_cons pe_str (pa_cons (pv 1) pa_nil)))) pss_nil)
    (pss_one (ps_ret (pv 3)))))), ?_⟩
  rw [show start ["text", "at", "first", "end"] [.str (tx L), .int n] = [some (.str (tx L)), some (.int n), none, none] from rfl]
  walk_at "rd3"
  rw [of_mi, of_fig]
  have hdl := congrArg List.length hd
  rw [List.length_drop, List.length_cons] at hdl
  refine rIxS_i (by rw [tx_len, sizeLine_eq]; omega) (atI_nat (j := n) (at_drop hd)) ⟨rfl, ?_⟩
  simp only [tx1]
  refine iP True.intro ⟨L, figL, n + 1, by rw [Int.natCast_add]; rfl, by omega, hL, rfl, ?_⟩
  have e : L.drop (n + 1) = r := by
    rw [← List.drop_drop, hd]; rfl
  rw [e, run0 hst]
  refine iP (by rw [Int.natCast_add]; rfl) ?_
  exact ⟨_, rfl, _, _, rfl, fun d hd => q.of (Same.refl _) hd⟩
end
end K22
namespace K22
open PySem L2
local macro_rules | `(tactic| walk_at "rd") => `(tactic| simp only [cxOf_K, nox_K, compCx_K, tSeq, tNext, tAsg, gName, tRet, tRetN, tIfS, tDrop, tOp, tUn, tVar, tC, tCall, tCons, tNil, tTest, tB, tAnd, tOr, tNot, tAndV, tOrV, tNotV, tIf, tCB, tBM, tComp, tTrue, tPart, tNoPart, tSl, tChain, tIsN, tNotN, tLst, tTup, tFor_eq, sDPut, tDNewK, tNever, rI0, rI, rU, rEq, rNe, rMulS, rInC, iRng1, iStr, CDiv, CMul, CPow, scal, List.append_nil, List.getElem?_cons_zero, List.getElem?_cons_succ, List.set_cons_zero, List.set_cons_succ, List.map_cons, List.map_nil, List.length_cons, List.length_nil, sizeLine_eq, Nat.reduceAdd, Nat.reduceLeDiff, Option.join_some, Option.join_none, Option.some.injEq, V.int.injEq, V.str.injEq, V.bl.injEq, V.ref.injEq, V.ty.injEq, List.cons.injEq, and_true, true_and, and_self, exists_eq_left', exists_eq_left, exists_and_left, exists_and_right, decide_eq_true_eq, Bool.not_eq_eq_eq_not, Bool.not_true, Bool.not_false, decide_eq_false_iff_not, Int.reduceLT, Int.reduceLE, Int.reduceNeg, Int.reducePow, Int.reduceAdd, Int.reduceSub, Int.reduceMul, Int.reduceToNat, natAbs10, Nat.reduceLT, Nat.reducePow, or_true, true_or, if_true, if_false, Bool.false_eq_true, ite_true, ite_false, reduceCtorEq])
local macro_rules | `(tactic| walk_at "rd3") => `(tactic| simp only [gTup, gCons, gNil, iZip, tIsT, tDisp, tPairs, tBM0, iList, iDict, tThaw, tMaxD, rMaxD, tDGet, rVals, tComp, cxOf_K, nox_K, compCx_K, tSeq, tNext, tAsg, gName, tRet, tRetN, tIfS, tDrop, tOp, tUn, tVar, tC, tCall, tCons, tNil, tTest, tB, tAnd, tOr, tNot, tAndV, tOrV, tNotV, tIf, tCB, tBM, tComp, tTrue, tPart, tNoPart, tSl, tChain, tIsN, tNotN, tLst, tTup, tFor_eq, sDPut, tDNewK, tNever, rI0, rI, rU, rEq, rNe, rMulS, rInC, iRng1, iStr, CDiv, CMul, CPow, scal, List.append_nil, List.getElem?_cons_zero, List.getElem?_cons_succ, List.set_cons_zero, List.set_cons_succ, List.map_cons, List.map_nil, List.length_cons, List.length_nil, sizeLine_eq, Nat.reduceAdd, Nat.reduceLeDiff, Option.join_some, Option.join_none, Option.some.injEq, V.int.injEq, V.str.injEq, V.bl.injEq, V.ref.injEq, V.ty.injEq, List.cons.injEq, and_true, true_and, and_self, exists_eq_left', exists_eq_left, exists_and_left, exists_and_right, decide_eq_true_eq, Bool.not_eq_eq_eq_not, Bool.not_true, Bool.not_false, decide_eq_false_iff_not, Int.reduceLT, Int.reduceLE, Int.reduceNeg, Int.reducePow, Int.reduceAdd, Int.reduceSub, Int.reduceMul, Int.reduceToNat, natAbs10, Nat.reduceLT, Nat.reducePow, or_true, true_or, if_true, if_false, Bool.false_eq_true, ite_true, ite_false, reduceCtorEq])
seal L2.PSs L2.PS L2.PE L2.PT L2.PW L2.PA L2.PI L2.PG L2.PGs L2.PPs L2.PTs
theorem find_none {L u : List Nat} {lo : Nat} (h : L.drop lo = u) (hlo : lo ≤ L.length) (hu : 39 ∉ u) : Txt.find3 (tx L) (tx [39]) (lo : Int) = -1 := by
  have hln : (tx L).length = L.length := tx_len L
  have hl : fromIndex (tx L).length (lo : Int) = lo := by
    unfold fromIndex
    rw [if_neg (by omega)]
    omega
  have hg : ∀ j, (tx L).cps.getD (lo + j) 0 = u.getD j 0 := fun j => by
    rw [← h]
    show L.toArray.getD (lo + j) 0 = _
    simp [List.getD_eq_getElem?_getD]
  have hul := congrArg List.length h
  rw [List.length_drop] at hul
  rcases StrLaws.find3_spec (tx L) 39 (lo : Int) with ⟨e, _⟩ | ⟨k, e, k1, k2, k3, k4⟩
  · exact e
  · rw [hl] at k1
    obtain ⟨j, rfl⟩ := Nat.exists_eq_add_of_le k1
    have hj : j < u.length := by omega
    rw [hg, List.getD_eq_getElem?_getD, List.getElem?_eq_getElem hj] at k3
    exact absurd (by rw [← show u[j] = 39 from k3]; exact List.getElem_mem hj) hu
theorem find_u {L u x2 : List Nat} {lo : Nat} (h : L.drop lo = u ++ dbl x2) (hlo : lo ≤ L.length) (hu : 39 ∉ u) (hx2 : x2 = [] ∨ ∃ y, x2 = 39 :: y) : Txt.find3 (tx L) (tx [39]) (lo : Int) = if x2 = [] then -1 else ((lo + u.length : Nat) : Int) := by
  rcases hx2 with rfl | ⟨y, rfl⟩
  · rw [if_pos rfl]
    rw [dbl_nil, List.append_nil] at h
    exact find_none h hlo hu
  · rw [if_neg (by simp)]
    rw [dbl_q] at h
    exact find_first h hu
section
variable {P : Program} {w : World} {K : PySem.W.Frag} {mg : Str → Option Value} {base : Heap} {f : Addr} {fd : FuncData} {C : Addr}
def spTEndC (C : Addr) : Sp := fun vs H _ E => ∃ (L x r : List Nat) (n : Nat), vs = [.str (tx L), .int n] ∧ L.drop n = 39 :: (dbl x ++ 39 :: r) ∧ (∃ c ∈ x, c ∉ sgnL) ∧ Stops 2 r ∧ L.length ≤ 100000 ∧ XBad C n H E
theorem ok_tendc (F : Fun K "text_end" "text_end" sTEnd f fd) (B : Bl mg) (Gis_text_sign : Dn P w K mg base 1 "is_text_sign" ["sign"] spSgn) (RBadText : Xr P w K mg base 1 "BadText" C) : FnOk P w K mg base (CXE P w) 3 f fd ["text", "at"] (spTEndC C) := by
  refine F.okx scTEnd (fun vs H Q E h => ?_) (fun cdv A outer s H vs Q E hr h => ?_)
  · obtain ⟨L, x, r, n, rfl, _⟩ := h
    rfl
  obtain ⟨L, x, r, n, rfl, hd, hx, hst, hL, q⟩ := h
  have nd := scTEnd.nd
  refine ⟨_, (pss_cons (ps_set (i := 2) nd rfl (Or.inl rfl) (pe_bm PySem.F.plainAttrs_str PySem.F.slot_str_find PySem.F.type_str_find mt_find (pv 0) (pa_cons pe_str (pa_cons (pe_op op_add (pv 1) pe_int) pa_nil))))
    (pss_cons (ps_while PassesOwn.leaving (PW.pt (pw_and (pt_cmpR op_ge (pv 2) pe_int (nomark _)) (pw_and1 (pt_cmpR op_eq (pe_slice sl_str (pv 0) (po_some (pe_op op_add (pv 2) pe_int)) (po_some (pe_op op_add (pv 2) pe_int))) pe_str (nomark _))))) (pss_one (ps_set (i := 2) nd rfl (Or.inl rfl) (pe_bm PySem.F.plainAttrs_str PySem.F.slot_str_find PySem.F.type_str_find mt_find (pv 0) (pa_cons pe_str (pa_cons (pe_op op_add (pv 2) pe_int) pa_nil))))))
    (pss_cons (ps_if (pt_cmpR op_lt (pv 2) pe_int (nomark _)) (pss_one (ps_raiseX RBadText hr (by omega) rfl rfl lvs (pa_cons pe_str (pa_cons (pv 1) pa_nil)))) pss_nil)
    (pss_cons (ps_if (pt_not (pt_val (pe_callB (call_all rfl) rfl B.all bt_all (pa_cons (pe_comp (own := ["sign"]) (F := []) ⟨rfl, by with_unfolding_all rfl, by with_unfolding_all rfl, by with_unfolding_all rfl, .nil⟩ rfl (pi_str (pe_slice sl_str (pv 0) (po_some (pe_op op_add (pv 1) pe_int)) (po_some (pv 2)))) (fun _ _ _ _ => pg_name (i := 0) (by show (compN ["sign"] []).Nodup; decide +kernel) rfl (Or.inl rfl)) (fun _ _ _ _ => pts_nil) (fun _ _ _ _ => (pe_cd Gis_text_sign hr (by omega) rfl (pa_cons (pv 0) pa_nil)))) pa_nil)))) (pss_one (ps_raiseX RBadText hr (by omega) rfl rfl lvs (pa_cons pe_str (pa_cons (pv 1) pa_nil)))) pss_nil)
    (pss_one (ps_ret (pe_op op_add (pv 2) pe_int))))))), ?_⟩
  rw [show start ["text", "at", "close"] [.str (tx L), .int n] = [some (.str (tx L)), some (.int n), none] from rfl]
  walk_at "rd3"
  have hd1 : L.drop (n + 1) = dbl x ++ 39 :: r := by rw [← List.drop_drop, hd]; rfl
  have hln : (tx L).length = L.length := tx_len L
  have hdl := congrArg List.length hd1
  rw [List.length_drop, List.length_append, List.length_cons] at hdl
  have hsz : (tx L).length ≤ sizeLine := by rw [hln, sizeLine_eq]; omega
  obtain ⟨u0, x20, e0, hu0, hx0⟩ := first_q x
  obtain ⟨rest0, hr0⟩ := dq hu0 hx0 r
  refine ⟨rfl, tx L, tx [39], n + 1, rfl, by rw [of_q], ?_⟩
  rw [show ((n : Int) + 1) = ((n + 1 : Nat) : Int) by omega, find_first (hd1.trans (by rw [e0]; exact hr0)) hu0]
  refine ⟨fun m σ H' => ∃ x1 u x2, x = x1 ++ (u ++ x2) ∧ 39 ∉ u ∧ (x2 = [] ∨ ∃ y, x2 = 39 :: y) ∧ σ = [some (.str (tx L)), some (.int n), some (.int ((n + 1 + (dbl x1).length + u.length : Nat) : Int))] ∧ H' = H ∧ m = x2.length, ⟨_, [], u0, x20, e0, hu0, hx0, rfl, rfl, rfl⟩, ?_⟩
  rintro m σ H' ⟨x1, u, x2, ex, hu, hx2, rfl, rfl, rfl⟩
  walk_at "rd3"
  generalize hk : n + 1 + (dbl x1).length + u.length = k
  have hdk : L.drop k = dbl x2 ++ 39 :: r := by
    rw [← hk, ← List.drop_drop, ← List.drop_drop, hd1, ex, dbl_app, dbl_app, dbl_free hu]
    simp only [List.append_assoc, List.drop_left]
  refine iP (by omega) ⟨_, rfl, hsz, rfl, ?_⟩
  rw [show ((k : Int) + 1) = ((k + 1 : Nat) : Int) by omega, show ((k : Int) + 2) = ((k + 2 : Nat) : Int) by omega, slice_nat, ts_tx, of_q]
  have hsl : (L.take (k + 2)).drop (k + 1) = (L.drop (k + 1)).take 1 := by
    rw [List.drop_take]; congr 1; omega
  have hd2 : L.drop (k + 1) = (dbl x2 ++ 39 :: r).drop 1 := by rw [← List.drop_drop, hdk]
  rw [hsl, hd2]
  rcases hx2 with rfl | ⟨y, rfl⟩
  · refine iN ?_ ?_
    · intro z
      have z := congrArg ts (V.str.inj z)
      rw [ts_tx, ts_tx] at z
      have z : r.take 1 = [39] := z
      cases r with
      | nil => cases z
      | cons c r' =>
        have : c = 39 := by simpa using z
        exact hst c r' rfl (by rw [this]; decide)
    rw [List.append_nil] at ex
    have hdx : dbl x = dbl x1 ++ u := by rw [ex, dbl_app, dbl_free hu]
    refine iN (by omega) ⟨_, rfl, hsz, ?_⟩
    rw [show ((n : Int) + 1) = ((n + 1 : Nat) : Int) by omega, slice_nat, ts_tx]
    have hsl2 : (L.take k).drop (n + 1) = dbl x := by
      rw [List.drop_take, hd1, ← hk, hdx, show n + 1 + (dbl x1).length + u.length - (n + 1) = (dbl x1 ++ u).length by rw [List.length_append]; omega, List.take_left]
    rw [hsl2]
    have hds : ¬ ∀ c ∈ dbl x, c ∈ sgnL := fun z => by
      obtain ⟨c, hc, hn⟩ := hx
      refine hn (z c (List.mem_flatMap.mpr ⟨c, hc, ?_⟩))
      unfold rpl
      split
      · rename_i e; exact absurd q_sgnL (by rw [e] at hn; exact hn)
      · exact List.mem_singleton_self c
    have hdl2 : (ts (tx (dbl x))).length ≤ 100000 := by rw [ts_tx]; omega
    refine ⟨_, rfl, comp_str (fun i ys H'' => Same H' H'' ∧ ys = (((ts (tx (dbl x))).take i).map fun c => decide (c ∈ sgnL)).map V.bl) (by rw [sizeLine_eq]; omega) ⟨Same.refl _, rfl⟩ ?_ ?_⟩
    · rintro i d ys H'' hd' _ ⟨hS, rfl⟩
      walk_at "rd3"
      refine ⟨d, rfl, fun H3 g3 => ⟨hS.trans g3, ?_⟩⟩
      rw [take_succ_of hd']
      simp only [List.map_append, List.map_cons, List.map_nil]
    · rintro ys H'' hl' ⟨hS, rfl⟩ p hp
      rw [List.take_length]
      refine ⟨p, rfl, _, SqL.of upd_same, iP ?_ ?_⟩
      · rw [ts_tx]
        have : (dbl x).all (_root_.id ∘ fun c => decide (c ∈ sgnL)) = false := by
          rw [List.all_eq_false]
          refine Classical.byContradiction fun z => hds fun c hc => Classical.byContradiction fun hn => z ⟨c, hc, ?_⟩
          show ¬ (decide (c ∈ sgnL) = true)
          rw [decide_eq_true_iff]; exact hn
        rw [List.all_map, this]
      · exact ⟨_, rfl, _, _, rfl, fun d hd => q.of (hS.trans (same_new hp _)) hd⟩
  · obtain ⟨u', x2', e', hu', hx'⟩ := first_q y
    obtain ⟨rest', hr'⟩ := dq hu' hx' r
    have hd3 : L.drop (k + 2) = u' ++ 39 :: rest' := by
      rw [← List.drop_drop, hdk, dbl_q, ← hr', ← e']; rfl
    refine iP (by rfl) ⟨fun σ' H'' => σ' = [some (.str (tx L)), some (.int n), some (.int ((k + 2 + u'.length : Nat) : Int))] ∧ H'' = H', ?_, rfl, tx L, tx [39], _, rfl, rfl, ?_⟩
    · rintro σ' H'' ⟨rfl, rfl⟩
      have hl := congrArg List.length e'
      rw [List.length_append] at hl
      refine ⟨x2'.length, by rw [List.length_cons]; omega, x1 ++ (u ++ [39]), u', x2', ?_, hu', hx', ?_, rfl, rfl⟩
      · rw [ex, e']; simp only [List.append_assoc, List.cons_append, List.nil_append]
      · congr 5
        rw [dbl_app, dbl_app, dbl_free hu, ← hk, List.length_append, List.length_append]
        rw [show (dbl [39]).length = 2 from rfl]
        omega
    · rw [find_first hd3 hu']
      exact ⟨rfl, rfl⟩
def spTEndD (C : Addr) : Sp := fun vs H _ E => ∃ (L x : List Nat) (n : Nat), vs = [.str (tx L), .int n] ∧ L.drop n = 39 :: dbl x ∧ L.length ≤ 100000 ∧ XBad C n H E
theorem ok_tendd (F : Fun K "text_end" "text_end" sTEnd f fd) (B : Bl mg) (Gis_text_sign : Dn P w K mg base 1 "is_text_sign" ["sign"] spSgn) (RBadText : Xr P w K mg base 1 "BadText" C) : FnOk P w K mg base (CXE P w) 3 f fd ["text", "at"] (spTEndD C) := by
  refine F.okx scTEnd (fun vs H Q E h => ?_) (fun cdv A outer s H vs Q E hr h => ?_)
  · obtain ⟨L, x, n, rfl, _⟩ := h
    rfl
  obtain ⟨L, x, n, rfl, hd, hL, q⟩ := h
  have nd := scTEnd.nd
  refine ⟨_, (pss_cons (ps_set (i := 2) nd rfl (Or.inl rfl) (pe_bm PySem.F.plainAttrs_str PySem.F.slot_str_find PySem.F.type_str_find mt_find (pv 0) (pa_cons pe_str (pa_cons (pe_op op_add (pv 1) pe_int) pa_nil))))
    (pss_cons (ps_while PassesOwn.leaving (PW.pt (pw_and (pt_cmpR op_ge (pv 2) pe_int (nomark _)) (pw_and1 (pt_cmpR op_eq (pe_slice sl_str (pv 0) (po_some (pe_op op_add (pv 2) pe_int)) (po_some (pe_op op_add (pv 2) pe_int))) pe_str (nomark _))))) (pss_one (ps_set (i := 2) nd rfl (Or.inl rfl) (pe_bm PySem.F.plainAttrs_str PySem.F.slot_str_find PySem.F.type_str_find mt_find (pv 0) (pa_cons pe_str (pa_cons (pe_op op_add (pv 2) pe_int) pa_nil))))))
    (pss_cons (ps_if (pt_cmpR op_lt (pv 2) pe_int (nomark _)) (pss_one (ps_raiseX RBadText hr (by omega) rfl rfl lvs (pa_cons pe_str (pa_cons (pv 1) pa_nil)))) pss_nil)
    (pss_cons (ps_if (pt_not (pt_val (pe_callB (call_all rfl) rfl B.all bt_all (pa_cons (pe_comp (own := ["sign"]) (F := []) ⟨rfl, by with_unfolding_all rfl, by with_unfolding_all rfl, by with_unfolding_all rfl, .nil⟩ rfl (pi_str (pe_slice sl_str (pv 0) (po_some (pe_op op_add (pv 1) pe_int)) (po_some (pv 2)))) (fun _ _ _ _ => pg_name (i := 0) (by show (compN ["sign"] []).Nodup; decide +kernel) rfl (Or.inl rfl)) (fun _ _ _ _ => pts_nil) (fun _ _ _ _ => (pe_cd Gis_text_sign hr (by omega) rfl (pa_cons (pv 0) pa_nil)))) pa_nil)))) (pss_one (ps_raiseX RBadText hr (by omega) rfl rfl lvs (pa_cons pe_str (pa_cons (pv 1) pa_nil)))) pss_nil)
    (pss_one (ps_ret (pe_op op_add (pv 2) pe_int))))))), ?_⟩
  rw [show start ["text", "at", "close"] [.str (tx L), .int n] = [some (.str (tx L)), some (.int n), none] from rfl]
  walk_at "rd3"
  have hd1 : L.drop (n + 1) = dbl x := by rw [← List.drop_drop, hd]; rfl
  have hln : (tx L).length = L.length := tx_len L
  have hdl := congrArg List.length hd
  rw [List.length_drop, List.length_cons] at hdl
  have hsz : (tx L).length ≤ sizeLine := by rw [hln, sizeLine_eq]; omega
  obtain ⟨u0, x20, e0, hu0, hx0⟩ := first_q x
  refine ⟨rfl, tx L, tx [39], n + 1, rfl, by rw [of_q], ?_⟩
  rw [show ((n : Int) + 1) = ((n + 1 : Nat) : Int) by omega, find_u (hd1.trans (by rw [e0, dbl_app, dbl_free hu0])) (by omega) hu0 hx0]
  refine ⟨fun m σ H' => ∃ x1 u x2, x = x1 ++ (u ++ x2) ∧ 39 ∉ u ∧ (x2 = [] ∨ ∃ y, x2 = 39 :: y) ∧ σ = [some (.str (tx L)), some (.int n), some (.int (if x2 = [] then -1 else ((n + 1 + (dbl x1).length + u.length : Nat) : Int)))] ∧ H' = H ∧ m = x2.length, ⟨_, [], u0, x20, e0, hu0, hx0, rfl, rfl, rfl⟩, ?_⟩
  rintro m σ H' ⟨x1, u, x2, ex, hu, hx2, rfl, rfl, rfl⟩
  walk_at "rd3"
  generalize hk : n + 1 + (dbl x1).length + u.length = k
  have hdk : L.drop k = dbl x2 := by
    rw [← hk, ← List.drop_drop, ← List.drop_drop, hd1, ex, dbl_app, dbl_app, dbl_free hu]
    simp only [List.drop_left]
  rcases hx2 with rfl | ⟨y, rfl⟩
  · rw [if_pos rfl]
    refine iN (by decide) (iP (by decide) ?_)
    exact ⟨_, rfl, _, _, rfl, fun d hd => q.of (Same.refl _) hd⟩
  · rw [if_neg (show ¬ (39 :: y = ([] : List Nat)) by simp)]
    refine iP (by omega) ⟨_, rfl, hsz, rfl, ?_⟩
    rw [show ((k : Int) + 1) = ((k + 1 : Nat) : Int) by omega, show ((k : Int) + 2) = ((k + 2 : Nat) : Int) by omega, slice_nat, ts_tx, of_q]
    have hsl : (L.take (k + 2)).drop (k + 1) = (L.drop (k + 1)).take 1 := by
      rw [List.drop_take]; congr 1; omega
    have hd2 : L.drop (k + 1) = (dbl (39 :: y)).drop 1 := by rw [← List.drop_drop, hdk]
    rw [hsl, hd2, dbl_q]
    obtain ⟨u', x2', e', hu', hx'⟩ := first_q y
    have hd3 : L.drop (k + 2) = u' ++ dbl x2' := by
      rw [← List.drop_drop, hdk, dbl_q, e', dbl_app, dbl_free hu']; rfl
    have hk2 : k + 2 ≤ L.length := by
      have := congrArg List.length hdk
      rw [dbl_q, List.length_drop, List.length_cons, List.length_cons] at this
      omega
    refine iP (by rfl) ⟨fun σ' H'' => σ' = [some (.str (tx L)), some (.int n), some (.int (if x2' = [] then -1 else ((k + 2 + u'.length : Nat) : Int)))] ∧ H'' = H', ?_, rfl, tx L, tx [39], _, rfl, rfl, ?_⟩
    · rintro σ' H'' ⟨rfl, rfl⟩
      have hl := congrArg List.length e'
      rw [List.length_append] at hl
      refine ⟨x2'.length, by rw [List.length_cons]; omega, x1 ++ (u ++ [39]), u', x2', ?_, hu', hx', ?_, rfl, rfl⟩
      · rw [ex, e']; simp only [List.append_assoc, List.cons_append, List.nil_append]
      · have e5 : n + 1 + (dbl (x1 ++ (u ++ [39]))).length + u'.length = k + 2 + u'.length := by
          rw [dbl_app, dbl_app, dbl_free hu, ← hk, List.length_append, List.length_append]
          rw [show (dbl [39]).length = 2 from rfl]
          omega
        rw [e5]
    · rw [find_u hd3 hk2 hu' hx']
      exact ⟨rfl, rfl⟩
end
end K22
namespace K22
open PySem L2
local macro_rules | `(tactic| walk_at "rd") => `(tactic| simp only [cxOf_K, nox_K, compCx_K, tSeq, tNext, tAsg, gName, tRet, tRetN, tIfS, tDrop, tOp, tUn, tVar, tC, tCall, tCons, tNil, tTest, tB, tAnd, tOr, tNot, tAndV, tOrV, tNotV, tIf, tCB, tBM, tComp, tTrue, tPart, tNoPart, tSl, tChain, tIsN, tNotN, tLst, tTup, tFor_eq, sDPut, tDNewK, tNever, rI0, rI, rU, rEq, rNe, rMulS, rInC, iRng1, iStr, CDiv, CMul, CPow, scal, List.append_nil, List.getElem?_cons_zero, List.getElem?_cons_succ, List.set_cons_zero, List.set_cons_succ, List.map_cons, List.map_nil, List.length_cons, List.length_nil, sizeLine_eq, Nat.reduceAdd, Nat.reduceLeDiff, Option.join_some, Option.join_none, Option.some.injEq, V.int.injEq, V.str.injEq, V.bl.injEq, V.ref.injEq, V.ty.injEq, List.cons.injEq, and_true, true_and, and_self, exists_eq_left', exists_eq_left, exists_and_left, exists_and_right, decide_eq_true_eq, Bool.not_eq_eq_eq_not, Bool.not_true, Bool.not_false, decide_eq_false_iff_not, Int.reduceLT, Int.reduceLE, Int.reduceNeg, Int.reducePow, Int.reduceAdd, Int.reduceSub, Int.reduceMul, Int.reduceToNat, natAbs10, Nat.reduceLT, Nat.reducePow, or_true, true_or, if_true, if_false, Bool.false_eq_true, ite_true, ite_false, reduceCtorEq])
local macro_rules | `(tactic| walk_at "rd3") => `(tactic| simp only [gTup, gCons, gNil, iZip, tIsT, tDisp, tPairs, tBM0, iList, iDict, tThaw, tMaxD, rMaxD, tDGet, rVals, tComp, cxOf_K, nox_K, compCx_K, tSeq, tNext, tAsg, gName, tRet, tRetN, tIfS, tDrop, tOp, tUn, tVar, tC, tCall, tCons, tNil, tTest, tB, tAnd, tOr, tNot, tAndV, tOrV, tNotV, tIf, tCB, tBM, tComp, tTrue, tPart, tNoPart, tSl, tChain, tIsN, tNotN, tLst, tTup, tFor_eq, sDPut, tDNewK, tNever, rI0, rI, rU, rEq, rNe, rMulS, rInC, iRng1, iStr, CDiv, CMul, CPow, scal, List.append_nil, List.getElem?_cons_zero, List.getElem?_cons_succ, List.set_cons_zero, List.set_cons_succ, List.map_cons, List.map_nil, List.length_cons, List.length_nil, sizeLine_eq, Nat.reduceAdd, Nat.reduceLeDiff, Option.join_some, Option.join_none, Option.some.injEq, V.int.injEq, V.str.injEq, V.bl.injEq, V.ref.injEq, V.ty.injEq, List.cons.injEq, and_true, true_and, and_self, exists_eq_left', exists_eq_left, exists_and_left, exists_and_right, decide_eq_true_eq, Bool.not_eq_eq_eq_not, Bool.not_true, Bool.not_false, decide_eq_false_iff_not, Int.reduceLT, Int.reduceLE, Int.reduceNeg, Int.reducePow, Int.reduceAdd, Int.reduceSub, Int.reduceMul, Int.reduceToNat, natAbs10, Nat.reduceLT, Nat.reducePow, or_true, true_or, if_true, if_false, Bool.false_eq_true, ite_true, ite_false, reduceCtorEq])
seal L2.PSs L2.PS L2.PE L2.PT L2.PW L2.PA L2.PI L2.PG L2.PGs L2.PPs L2.PTs
section
variable {P : Program} {w : World} {K : PySem.W.Frag} {mg : Str → Option Value} {base : Heap} {f : Addr} {fd : FuncData} {C : Addr}
abbrev spTEndX (C : Addr) : Sp := fun vs H Q E => spTEndC C vs H Q E ∨ spTEndD C vs H Q E
def spTkEndX (C : Addr) : Sp := fun vs H Q E => ∃ (k : Nat) (L : List Nat) (n : Nat), vs = [.str (kS k), .str (tx L), .int n] ∧ ((k = 0 ∧ spNEndX C [.str (tx L), .int n] H Q E) ∨ (k = 2 ∧ spTEndX C [.str (tx L), .int n] H Q E))
theorem ok_tkendx (F : Fun K "token_end" "token_end" sTkEnd f fd) (M : Ms mg) (Gnumber_endx : Dx P w K mg base 3 "number_end" ["text", "at"] (spNEndX C)) (Grun_end : Dn P w K mg base 1 "run_end" ["text", "at", "signs"] spRun) (Gtext_endx : Dx P w K mg base 3 "text_end" ["text", "at"] (spTEndX C)) : FnOk P w K mg base (CXE P w) 4 f fd ["kind", "text", "at"] (spTkEndX C) := by
  refine F.okx scTkEnd (fun vs H Q E h => ?_) (fun cdv A outer s H vs Q E hr h => ?_)
  · obtain ⟨k, L, n, rfl, _⟩ := h
    rfl
  obtain ⟨k, L, n, rfl, h⟩ := h
  have nd := scTkEnd.nd
  refine ⟨_, (pss_cons (ps_if (pt_cmpR op_eq (pv 0) pe_str (nomark _)) (pss_one (ps_ret (pe_cx Gnumber_endx hr (by omega) rfl lvs (pa_cons (pv 1) (pa_cons (pv 2) pa_nil))))) pss_nil)
    (pss_cons (ps_if (pt_cmpR op_eq (pv 0) pe_str (nomark _)) (pss_one (ps_ret (pe_cd Grun_end hr (by omega) rfl (pa_cons (pv 1) (pa_cons (pv 2) (pa_cons (pe_gs rfl M.NAME_SIGNS) pa_nil)))))) pss_nil)
    (pss_cons (ps_if (pt_cmpR op_eq (pv 0) pe_str (nomark _)) (pss_one (ps_ret (pe_cx Gtext_endx hr (by omega) rfl lvs (pa_cons (pv 1) (pa_cons (pv 2) pa_nil))))) pss_nil)
    (pss_one (ps_ret (pe_op op_add (pv 2) pe_int)))))), ?_⟩
  rw [show start ["kind", "text", "at"] [.str (kS k), .str (tx L), .int n] = [some (.str (kS k)), some (.str (tx L)), some (.int n)] from rfl]
  walk_at "rd3"
  rw [show Str.ofString "number" = kS 0 from rfl, show Str.ofString "word" = kS 1 from rfl, show Str.ofString "text" = kS 2 from rfl, of_nsg]
  rcases h with ⟨rfl, h⟩ | ⟨rfl, h⟩
  · exact iP rfl h
  · exact iN kS_ne.2.1 (iN kS_ne.2.2.2.2.1 (iP rfl h))
end
theorem Stops.head {k : Nat} {u A B : List Nat} (h : Stops k (u ++ A)) (hu : u ≠ []) : Stops k (u ++ B) := by
  obtain ⟨d, u', rfl⟩ := List.exists_cons_of_ne_nil hu
  intro c r' e
  rw [List.cons_append] at e
  rw [← (List.cons.inj e).1]
  exact h d (u' ++ A) rfl
/-- what is no token: a sign that begins none, a - without a figure, a text with a bad sign, one without an end -/
def BadT (y : List Nat) : Prop := (∃ c r, y = c :: r ∧ noHead c ∧ c ≠ 32) ∨ (∃ r, y = 45 :: r ∧ ∀ c r', r = c :: r' → c ∉ figL) ∨ (∃ x r, y = 39 :: (dbl x ++ 39 :: r) ∧ (∃ c ∈ x, c ∉ sgnL) ∧ Stops 2 r) ∨ (∃ x, y = 39 :: dbl x)
theorem BadT.head {y : List Nat} (h : BadT y) : ∃ c r, y = c :: r ∧ c ≠ 32 := by
  rcases h with ⟨c, r, e, _, h⟩ | ⟨r, e, _⟩ | ⟨x, r, e, _⟩ | ⟨x, e⟩
  · exact ⟨c, r, e, h⟩
  · exact ⟨_, _, e, by decide⟩
  · exact ⟨_, _, e, by decide⟩
  · exact ⟨_, _, e, by decide⟩
theorem ahead_runy {c : List (Nat × Tk)} {e : Nat} {y : List Nat} (hok : ∀ y ∈ c, OkTk y.2) (hy : BadT y) : runN [32] (lay c ++ List.replicate e 32 ++ y) = aheadN c e := by
  cases c with
  | nil =>
    obtain ⟨d, r, rfl, hd⟩ := hy.head
    have := runN_app (S := [32]) (x := List.replicate e 32) (r := d :: r) (fun c hc => by rw [(List.mem_replicate.mp hc).2]; exact List.mem_cons_self) (fun c r' e => by rw [← (List.cons.inj e).1, List.mem_singleton]; exact hd)
    rw [List.length_replicate] at this
    exact this
  | cons x c =>
    have e1 : lay (x :: c) ++ List.replicate e 32 ++ y = List.replicate x.1 32 ++ (shw x.2 ++ lay c ++ List.replicate e 32 ++ y) := by
      show List.replicate x.1 32 ++ (shw x.2 ++ lay c) ++ _ ++ _ = _
      simp only [List.append_assoc]
    rw [e1, runN_app (fun c hc => by rw [(List.mem_replicate.mp hc).2]; exact List.mem_cons_self) ?_, List.length_replicate]; rfl
    intro d r' e2
    obtain ⟨h, r, e3, hk, _⟩ := shw_head (hok x List.mem_cons_self)
    rw [e3] at e2
    rw [← (List.cons.inj e2).1]
    exact head_32 hk
theorem lay_ne {x : Nat × Tk} {c : List (Nat × Tk)} (hx : OkTk x.2) : lay (x :: c) ≠ [] := fun z => by
  have := congrArg List.length z
  rw [lay_len] at this
  obtain ⟨h, r, e3, _⟩ := shw_head hx
  rw [e3] at this
  simp only [List.length_cons, List.length_nil] at this
  omega
theorem stops_y {a c : List (Nat × Tk)} {x : Nat × Tk} {e : Nat} {y : List Nat} (hok : ∀ y ∈ a ++ x :: c, OkTk y.2) (hc : Chn (a ++ x :: c)) (hy : e = 0 → ∀ z, (a ++ x :: c).getLast? = some z → Stops z.2.1 y) : Stops x.2.1 (lay c ++ List.replicate e 32 ++ y) := by
  cases c with
  | nil =>
    cases e with
    | zero => exact hy rfl x (by simp)
    | succ e =>
      have h := stops_at (e := e + 1) hok hc
      exact Stops.head (u := List.replicate (e + 1) 32) (A := []) (by rw [List.append_nil]; exact h) (by simp)
  | cons z c =>
    have h := stops_at (e := e) hok hc
    rw [List.append_assoc]
    exact Stops.head h (lay_ne (hok z (by simp)))
section
variable {P : Program} {w : World} {K : PySem.W.Frag} {mg : Str → Option Value} {base : Heap} {f : Addr} {fd : FuncData} {C : Addr}
def spToksX (C : Addr) : Sp := fun vs H _ E => ∃ (r : List (Nat × Tk)) (e : Nat) (y : List Nat), vs = [.str (tx (lay r ++ List.replicate e 32 ++ y))] ∧ (∀ y ∈ r, OkTk y.2) ∧ Chn r ∧ r.length ≤ 1000 ∧ (lay r ++ List.replicate e 32 ++ y).length ≤ 100000 ∧ BadT y ∧
  (e = 0 → ∀ z, r.getLast? = some z → Stops z.2.1 y) ∧ XBad C ((lay r).length + e) H E
theorem ok_toksx (F : Fun K "tokens" "tokens" sToks f fd) (B : Bl mg) (Grun_end : Dn P w K mg base 1 "run_end" ["text", "at", "signs"] spRun) (Gkind_atx : Dx P w K mg base 3 "kind_at" ["text", "at"] fun vs H Q E => spKAt vs H Q E ∨ spKAtX C vs H Q E) (Gtoken_endx : Dx P w K mg base 4 "token_end" ["kind", "text", "at"] fun vs H Q E => spTkEnd vs H Q E ∨ spTkEndX C vs H Q E) (Gstring_of : Dn P w K mg base 1 "string_of" ["kind", "signs"] spStrOf) : FnOk P w K mg base (CXE P w) 5 f fd ["text"] (spToksX C) := by
  refine F.okx scToks (fun vs H Q E h => ?_) (fun cdv A outer s H vs Q E hr h => ?_)
  · obtain ⟨r, e, y, rfl, _⟩ := h
    rfl
  obtain ⟨r, e, y, rfl, hok, hch, hr1, hL, hy, hyst, q⟩ := h
  have nd := scToks.nd
  refine ⟨_, (pss_cons (ps_set (i := 1) nd rfl (Or.inl rfl) (pe_lst pa_nil))
    (pss_cons (ps_set (i := 2) nd rfl (Or.inl rfl) (pe_cd Grun_end hr (by omega) rfl (pa_cons (pv 0) (pa_cons pe_int (pa_cons pe_str pa_nil)))))
    (pss_cons (ps_while PassesOwn.leaving (pt_cmpR op_lt (pv 2) (pe_callB call_len_str rfl B.len bt_len (pa_cons (pv 0) pa_nil)) (nomark _)) (pss_cons (ps_set (i := 3) nd rfl (Or.inl rfl) (pe_cx Gkind_atx hr (by omega) rfl lvs (pa_cons (pv 0) (pa_cons (pv 2) pa_nil))))
    (pss_cons (ps_set (i := 4) nd rfl (Or.inl rfl) (pe_cx Gtoken_endx hr (by omega) rfl lvs (pa_cons (pv 3) (pa_cons (pv 0) (pa_cons (pv 2) pa_nil)))))
    (pss_cons (ps_expr (pe_bm PySem.F.plainAttrs_list PySem.F.slot_list_append PySem.F.type_list_append mt_append (pv 1) (pa_cons (pe_tup (pa_cons (pv 3) (pa_cons (pe_cd Gstring_of hr (by omega) rfl (pa_cons (pv 3) (pa_cons (pe_slice sl_str (pv 0) (po_some (pv 2)) (po_some (pv 4))) pa_nil))) (pa_cons (pv 2) pa_nil)))) pa_nil)))
    (pss_one (ps_set (i := 2) nd rfl (Or.inl rfl) (pe_cd Grun_end hr (by omega) rfl (pa_cons (pv 0) (pa_cons (pv 4) (pa_cons pe_str pa_nil))))))))))
    (pss_cons (ps_expr (pe_bm PySem.F.plainAttrs_list PySem.F.slot_list_append PySem.F.type_list_append mt_append (pv 1) (pa_cons (pe_tup (pa_cons pe_str (pa_cons pe_str (pa_cons (pe_callB call_len_str rfl B.len bt_len (pa_cons (pv 0) pa_nil)) pa_nil)))) pa_nil)))
    (pss_one (ps_ret (pv 1))))))), ?_⟩
  generalize hLL : lay r ++ List.replicate e 32 ++ y = L at hL q ⊢
  rw [show start ["text", "found", "at", "kind", "end"] [.str (tx L)] = [some (.str (tx L)), none, none, none, none] from rfl]
  walk_at "rd3"
  rw [of_sp]
  intro p0 hp0
  refine ⟨L, [32], 0, rfl, Nat.zero_le _, hL, ?_⟩
  have hln : (tx L).length = L.length := tx_len L
  have hsz : (tx L).length ≤ sizeLine := by rw [hln, sizeLine_eq]; omega
  rw [List.drop_zero, Nat.zero_add, ← hLL, ahead_runy hok hy, hLL]
  refine ⟨fun m σ H' => ∃ a c k o1 o2 xs, r = a ++ c ∧ k = (lay a).length + aheadN c e ∧ σ = [some (.str (tx L)), some (.ref p0), some (.int ((k : Nat) : Int)), o1, o2] ∧ Same H H' ∧ H' p0 = some (.lst xs) ∧ Reps H' xs (dueT 0 a) ∧ xs.length = a.length ∧ m = c.length, ⟨_, [], r, aheadN r e, none, none, [], rfl, (Nat.zero_add _).symm, rfl, same_new hp0 _, upd_same, rfl, rfl, rfl⟩, ?_⟩
  rintro m σ H' ⟨a, c, k, o1, o2, xs, rfl, hk, rfl, g, hp, hR, hxl, rfl⟩
  have hdk : L.drop (lay a).length = lay c ++ List.replicate e 32 ++ y := by
    rw [← hLL, lay_app]; simp only [List.append_assoc, List.drop_left]
  have hdl := congrArg List.length hdk
  rw [List.length_drop, List.length_append, List.length_append, List.length_replicate] at hdl
  rw [List.length_append] at hr1
  walk_at "rd3"
  rw [hln]
  cases c with
  | nil =>
    have hk : k = (lay a).length + e := hk
    have e0 : (lay ([] : List (Nat × Tk))).length = 0 := rfl
    rw [List.append_nil] at q
    have hdk2 : L.drop k = y := by
      rw [hk, ← List.drop_drop, hdk]
      show List.drop e (List.replicate e 32 ++ y) = _
      exact List.drop_left' List.length_replicate
    have hyl : 0 < y.length := by
      obtain ⟨d, r, rfl, _⟩ := hy.head
      exact Nat.succ_pos _
    rw [← hk] at q
    have q' : XBad C k H' E := q.same g
    refine ⟨by omega, iP (by omega) ⟨fun _ _ => False, (fun _ _ z => False.elim z), ?_⟩⟩
    rcases hy with ⟨d, r, rfl, hd, _⟩ | ⟨r, rfl, hr'⟩ | ⟨x, r, rfl, hx, hst⟩ | ⟨x, rfl⟩
    · exact .inr ⟨L, r, k, d, rfl, hdk2, hd, hL, q'⟩
    · exact .inl ⟨L, r, k, 45, 0, rfl, hdk2, .inl ⟨rfl, .inl rfl⟩, hL, .inr ⟨0, L, k, rfl, .inl ⟨rfl, L, r, k, rfl, hdk2, hr', hL, q'⟩⟩⟩
    · exact .inl ⟨L, _, k, 39, 2, rfl, hdk2, .inr (.inr (.inl ⟨rfl, rfl⟩)), hL, .inr ⟨2, L, k, rfl, .inr ⟨rfl, .inl ⟨L, x, r, k, rfl, hdk2, hx, hst, hL, q'⟩⟩⟩⟩
    · exact .inl ⟨L, _, k, 39, 2, rfl, hdk2, .inr (.inr (.inl ⟨rfl, rfl⟩)), hL, .inr ⟨2, L, k, rfl, .inr ⟨rfl, .inr ⟨L, x, k, rfl, hdk2, hL, q'⟩⟩⟩⟩
  | cons x c =>
    have hk : k = (lay a).length + x.1 := hk
    have hx := hok x (by simp)
    have hst : Stops x.2.1 (lay c ++ List.replicate e 32 ++ y) := stops_y hok hch hyst
    obtain ⟨h1, r1, e1, hhk, _⟩ := shw_head hx
    have hdk2 : L.drop k = shw x.2 ++ (lay c ++ List.replicate e 32 ++ y) := by
      rw [hk, ← List.drop_drop, hdk]
      show List.drop x.1 (List.replicate x.1 32 ++ (shw x.2 ++ lay c) ++ List.replicate e 32 ++ y) = _
      simp only [List.append_assoc]
      exact List.drop_left' List.length_replicate
    have hpos : 0 < (shw x.2).length := by rw [e1]; exact Nat.succ_pos _
    have hdl2 := congrArg List.length hdk2
    rw [List.length_drop, List.length_append] at hdl2
    have hk2 : (lay (a ++ [x])).length = k + (shw x.2).length := by
      rw [lay_app, List.length_append, lay_len, hk]
      show _ + (_ + _ + 0) = _
      omega
    refine ⟨by omega, iP (by omega) ⟨fun σ' H'' => ∃ o1 o2 ys, σ' = [some (.str (tx L)), some (.ref p0), some (.int (((lay (a ++ [x])).length + aheadN c e : Nat) : Int)), o1, o2] ∧ Same H H'' ∧ H'' p0 = some (.lst ys) ∧ Reps H'' ys (dueT 0 (a ++ [x])) ∧ ys.length = (a ++ [x]).length, ?_, ?_⟩⟩
    · rintro σ' H'' ⟨o1, o2, ys, rfl, g', h1, h2, h3⟩
      exact ⟨c.length, Nat.lt_succ_self _, a ++ [x], c, by rw [List.append_assoc]; rfl, ⟨_, _, rfl⟩, g', _, h1, h2, h3, rfl⟩
    · refine .inl ⟨L, _, k, h1, x.2.1, rfl, by rw [hdk2, e1]; rfl, hhk, hL, .inl ⟨L, _, x.2, k, rfl, hdk2, hx, hst, hL, fun H1 g1 => ⟨.inl ⟨rfl, _, SqL.of (g1 _ _ hp)⟩, _, rfl, tx L, rfl, hsz, ?_⟩⟩⟩
      rw [slice_nat, ts_tx]
      have hsl : (L.take (k + (shw x.2).length)).drop k = shw x.2 := by
        rw [List.drop_take, hdk2, show k + (shw x.2).length - k = (shw x.2).length by omega, List.take_left]
      rw [hsl]
      refine ⟨x.2, rfl, hx, fun p hpn => ?_⟩
      obtain ⟨g3, g4⟩ := app_tup (g.trans g1) hp0 (g1 _ _ hp) (Reps.same g1 _ _ hR) hpn (fun Hx => tk_reps Hx (kS x.2.1) x.2.2 k)
      refine ⟨p0, xs, _, rfl, rfl, same_new hpn _ _ _ (g1 _ _ hp), by rw [sizeLine_eq]; simp only [List.length_cons] at hr1; omega, L, [32], k + (shw x.2).length, rfl, by omega, hL, ?_⟩
      have hd3 : L.drop (k + (shw x.2).length) = lay c ++ List.replicate e 32 ++ y := by rw [← List.drop_drop, hdk2, List.drop_left]
      rw [hd3, ahead_runy (fun y hy => hok y (by simp [hy])) hy, ← hk2]
      refine ⟨_, _, _, rfl, g3, upd_same, ?_, by rw [List.length_append, List.length_append, hxl]; rfl⟩
      rw [dueT_app]
      have e5 : dueT (0 + (lay a).length) [x] = [.tup [.str (ts (kS x.2.1)), .str x.2.2, .int k]] := by
        show [tkT x.2 (0 + (lay a).length + x.1)] = _
        rw [Nat.zero_add, ← hk]; rfl
      rw [e5]
      exact g4
end
end K22
namespace K22
open PySem L2 PySem.W
local macro_rules | `(tactic| walk_at "rd") => `(tactic| simp only [cxOf_K, nox_K, compCx_K, tSeq, tNext, tAsg, gName, tRet, tRetN, tIfS, tDrop, tOp, tUn, tVar, tC, tCall, tCons, tNil, tTest, tB, tAnd, tOr, tNot, tAndV, tOrV, tNotV, tIf, tCB, tBM, tComp, tTrue, tPart, tNoPart, tSl, tChain, tIsN, tNotN, tLst, tTup, tFor_eq, sDPut, tDNewK, tNever, rI0, rI, rU, rEq, rNe, rMulS, rInC, iRng1, iStr, CDiv, CMul, CPow, scal, List.append_nil, List.getElem?_cons_zero, List.getElem?_cons_succ, List.set_cons_zero, List.set_cons_succ, List.map_cons, List.map_nil, List.length_cons, List.length_nil, sizeLine_eq, Nat.reduceAdd, Nat.reduceLeDiff, Option.join_some, Option.join_none, Option.some.injEq, V.int.injEq, V.str.injEq, V.bl.injEq, V.ref.injEq, V.ty.injEq, List.cons.injEq, and_true, true_and, and_self, exists_eq_left', exists_eq_left, exists_and_left, exists_and_right, decide_eq_true_eq, Bool.not_eq_eq_eq_not, Bool.not_true, Bool.not_false, decide_eq_false_iff_not, Int.reduceLT, Int.reduceLE, Int.reduceNeg, Int.reducePow, Int.reduceAdd, Int.reduceSub, Int.reduceMul, Int.reduceToNat, natAbs10, Nat.reduceLT, Nat.reducePow, or_true, true_or, if_true, if_false, Bool.false_eq_true, ite_true, ite_false, reduceCtorEq])
local macro_rules | `(tactic| walk_at "rd3") => `(tactic| simp only [gTup, gCons, gNil, iZip, tIsT, tDisp, tPairs, tBM0, iList, iDict, tThaw, tMaxD, rMaxD, tDGet, rVals, tComp, cxOf_K, nox_K, compCx_K, tSeq, tNext, tAsg, gName, tRet, tRetN, tIfS, tDrop, tOp, tUn, tVar, tC, tCall, tCons, tNil, tTest, tB, tAnd, tOr, tNot, tAndV, tOrV, tNotV, tIf, tCB, tBM, tComp, tTrue, tPart, tNoPart, tSl, tChain, tIsN, tNotN, tLst, tTup, tFor_eq, sDPut, tDNewK, tNever, rI0, rI, rU, rEq, rNe, rMulS, rInC, iRng1, iStr, CDiv, CMul, CPow, scal, List.append_nil, List.getElem?_cons_zero, List.getElem?_cons_succ, List.set_cons_zero, List.set_cons_succ, List.map_cons, List.map_nil, List.length_cons, List.length_nil, sizeLine_eq, Nat.reduceAdd, Nat.reduceLeDiff, Option.join_some, Option.join_none, Option.some.injEq, V.int.injEq, V.str.injEq, V.bl.injEq, V.ref.injEq, V.ty.injEq, List.cons.injEq, and_true, true_and, and_self, exists_eq_left', exists_eq_left, exists_and_left, exists_and_right, decide_eq_true_eq, Bool.not_eq_eq_eq_not, Bool.not_true, Bool.not_false, decide_eq_false_iff_not, Int.reduceLT, Int.reduceLE, Int.reduceNeg, Int.reducePow, Int.reduceAdd, Int.reduceSub, Int.reduceMul, Int.reduceToNat, natAbs10, Nat.reduceLT, Nat.reducePow, or_true, true_or, if_true, if_false, Bool.false_eq_true, ite_true, ite_false, reduceCtorEq])
seal L2.PSs L2.PS L2.PE L2.PT L2.PW L2.PA L2.PI L2.PG L2.PGs L2.PPs L2.PTs
abbrev sRef : Stmt := top 29
structure Rf (K : Frag) (mg : Str → Option Value) (C B : Addr) : Prop where
  mB : mg "CabinetError" = some (.ref B)
  mC : mg "BadText" = some (.ref C)
  ex : exmOne K (.ref C) (.ref B) = some true
  k1 : kitOne K (.ref C) (.ref C) = some true
  G : XGet K C
  at_ : findIn K (.ref C) "at" = some none
  tg : ∃ D, mg "TooGreat" = some (.ref D) ∧ kitOne K (.ref C) (.ref D) = some false
  np : ∃ D, mg "NoPlace" = some (.ref D) ∧ kitOne K (.ref C) (.ref D) = some false
section
variable {P : Program} {w : World} {K : PySem.W.Frag} {mg : Str → Option Value} {base : Heap} {f : Addr} {fd : FuncData} {C B : Addr}
def spRef : Sp := fun vs H Q _ => ∃ (r : List (Nat × Tk)) (e : Nat) (y : List Nat), vs = [.str (tx (lay r ++ List.replicate e 32 ++ y))] ∧ (∀ y ∈ r, OkTk y.2) ∧ Chn r ∧ r.length ≤ 1000 ∧ (lay r ++ List.replicate e 32 ++ y).length ≤ 100000 ∧ BadT y ∧
  (e = 0 → ∀ z, r.getLast? = some z → Stops z.2.1 y) ∧ ∀ H', Same H H' → Q (.int ((lay r).length + e : Nat)) H'
theorem scRef : FnScope ["_law_text", "e"] ["_law_text"] (defScope sRef) := ⟨rfl, rfl, rfl, by decide +kernel, rfl, by decide +kernel, by decide +kernel⟩
theorem ok_ref (F : Fun K "_law_refused" "_law_refused" sRef f fd) (Bl : Bl mg) (R : Rf K mg C B) (Gtokensx : Dx P w K mg base 5 "tokens" ["text"] (spToksX C)) : FnOk P w K mg base CX0 6 f fd ["_law_text"] spRef := by
  refine F.ok scRef (fun vs H Q E h => ?_) (fun cdv A outer s H vs Q E hr h => ?_)
  · obtain ⟨r, e, y, rfl, _⟩ := h
    rfl
  obtain ⟨r, e, y, rfl, hok, hch, hr1, hL, hy, hyst, q⟩ := h
  obtain ⟨D1, m1, k1⟩ := R.tg
  obtain ⟨D2, m2, k2⟩ := R.np
  have nd := scRef.nd
  refine ⟨_, (pss_cons (ps_try (tb := fun E => tDrop (tCall (spToksX C) [] E (tCons (tVar 0) tNil))) rfl rfl R.mB nd (i := 1) rfl rfl rfl rfl rfl (fun pins W E hp => pss_one (ps_expr (pe_cp Gtokensx hr (by omega) rfl hp (pa_cons (pv 0) pa_nil))))
    (fun v => pss_cons (ps_if (PW.pt (pw_and (pt_val (pe_callB (call_xisi R.G R.k1) rfl Bl.isinstance bt_isinstance (pa_cons (pv 1) (pa_cons (pe_glob (v := .ref C) rfl R.mC rfl) pa_nil)))) (pw_and (pt_not (pt_val (pe_callB (call_xisi R.G k1) rfl Bl.isinstance bt_isinstance (pa_cons (pv 1) (pa_cons (pe_glob (v := .ref D1) rfl m1 rfl) pa_nil))))) (pw_and1 (pt_not (pt_val (pe_callB (call_xisi R.G k2) rfl Bl.isinstance bt_isinstance (pa_cons (pv 1) (pa_cons (pe_glob (v := .ref D2) rfl m2 rfl) pa_nil))))))))) (pss_one (ps_ret (pe_xat R.G R.at_ (pv 1)))) pss_nil) (pss_one (ps_ret pe_non)))) (pss_one (ps_ret pe_non))), ?_⟩
  rw [show start ["_law_text", "e"] [.str (tx (lay r ++ List.replicate e 32 ++ y))] = [some (.str (tx (lay r ++ List.replicate e 32 ++ y))), none] from rfl]
  refine ⟨_, rfl, r, e, y, rfl, hok, hch, hr1, hL, hy, hyst, fun d H' g hd => ⟨C, rfl, R.ex, fun x hx => ?_⟩⟩
  have hne : d ≠ x := fun z => by rw [z, hx] at hd; cases hd
  have g2 := g.trans (same_new hx (exF x C (some d)))
  have hx2 : upd H' x (exF x C (some d)) x = some (exF x C (some d)) := upd_same
  have hd2 : upd H' x (exF x C (some d)) d = some (.xd [("at", .int ((lay r).length + e : Nat))]) := by rw [upd_ne hne]; exact hd
  generalize upd H' x (exF x C (some d)) = H2 at g2 hx2 hd2 ⊢
  exact ⟨.ref x, rfl, x, d, _, rfl, hx2, hd2, true, rfl, iP rfl ⟨.ref x, rfl, x, d, _, rfl, hx2, hd2, false, rfl, iP rfl ⟨.ref x, rfl, x, d, _, rfl, hx2, hd2, false, rfl, iP rfl ⟨.ref x, rfl, x, d, _, _, rfl, hx2, hd2, rfl, q _ g2⟩⟩⟩⟩
end
end K22
namespace K22
open PySem L2
local macro_rules | `(tactic| walk_at "rd") => `(tactic| simp only [cxOf_K, nox_K, compCx_K, tSeq, tNext, tAsg, gName, tRet, tRetN, tIfS, tDrop, tOp, tUn, tVar, tC, tCall, tCons, tNil, tTest, tB, tAnd, tOr, tNot, tAndV, tOrV, tNotV, tIf, tCB, tBM, tComp, tTrue, tPart, tNoPart, tSl, tChain, tIsN, tNotN, tLst, tTup, tFor_eq, sDPut, tDNewK, tNever, rI0, rI, rU, rEq, rNe, rMulS, rInC, iRng1, iStr, CDiv, CMul, CPow, scal, List.append_nil, List.getElem?_cons_zero, List.getElem?_cons_succ, List.set_cons_zero, List.set_cons_succ, List.map_cons, List.map_nil, List.length_cons, List.length_nil, sizeLine_eq, Nat.reduceAdd, Nat.reduceLeDiff, Option.join_some, Option.join_none, Option.some.injEq, V.int.injEq, V.str.injEq, V.bl.injEq, V.ref.injEq, V.ty.injEq, List.cons.injEq, and_true, true_and, and_self, exists_eq_left', exists_eq_left, exists_and_left, exists_and_right, decide_eq_true_eq, Bool.not_eq_eq_eq_not, Bool.not_true, Bool.not_false, decide_eq_false_iff_not, Int.reduceLT, Int.reduceLE, Int.reduceNeg, Int.reducePow, Int.reduceAdd, Int.reduceSub, Int.reduceMul, Int.reduceToNat, natAbs10, Nat.reduceLT, Nat.reducePow, or_true, true_or, if_true, if_false, Bool.false_eq_true, ite_true, ite_false, reduceCtorEq])
local macro_rules | `(tactic| walk_at "rd3") => `(tactic| simp only [gTup, gCons, gNil, iZip, tIsT, tDisp, tPairs, tBM0, iList, iDict, tThaw, tMaxD, rMaxD, tDGet, rVals, tComp, cxOf_K, nox_K, compCx_K, tSeq, tNext, tAsg, gName, tRet, tRetN, tIfS, tDrop, tOp, tUn, tVar, tC, tCall, tCons, tNil, tTest, tB, tAnd, tOr, tNot, tAndV, tOrV, tNotV, tIf, tCB, tBM, tComp, tTrue, tPart, tNoPart, tSl, tChain, tIsN, tNotN, tLst, tTup, tFor_eq, sDPut, tDNewK, tNever, rI0, rI, rU, rEq, rNe, rMulS, rInC, iRng1, iStr, CDiv, CMul, CPow, scal, List.append_nil, List.getElem?_cons_zero, List.getElem?_cons_succ, List.set_cons_zero, List.set_cons_succ, List.map_cons, List.map_nil, List.length_cons, List.length_nil, sizeLine_eq, Nat.reduceAdd, Nat.reduceLeDiff, Option.join_some, Option.join_none, Option.some.injEq, V.int.injEq, V.str.injEq, V.bl.injEq, V.ref.injEq, V.ty.injEq, List.cons.injEq, and_true, true_and, and_self, exists_eq_left', exists_eq_left, exists_and_left, exists_and_right, decide_eq_true_eq, Bool.not_eq_eq_eq_not, Bool.not_true, Bool.not_false, decide_eq_false_iff_not, Int.reduceLT, Int.reduceLE, Int.reduceNeg, Int.reducePow, Int.reduceAdd, Int.reduceSub, Int.reduceMul, Int.reduceToNat, natAbs10, Nat.reduceLT, Nat.reducePow, or_true, true_or, if_true, if_false, Bool.false_eq_true, ite_true, ite_false, reduceCtorEq])
seal L2.PSs L2.PS L2.PE L2.PT L2.PW L2.PA L2.PI L2.PG L2.PGs L2.PPs L2.PTs
abbrev sBad : Stmt := top 28
def GoodB (b : List Nat) (last : Bool) : Prop := b.length ≤ 20 ∧ (∃ c b', b = c :: b' ∧ c ∉ letL ++ figL) ∧ ∀ rest, BadT (b ++ if last = true then [] else 32 :: rest)
def someS : List Str := [Str.ofString "!", Str.ofString "A", Str.ofString "_", Str.ofString "-", Str.ofString "--1", Str.ofString "\n", Str.ofString "\t", Str.ofString ".", Str.ofString "~", Str.ofString "(", Str.ofString "+1", Str.ofString "=", Str.ofString "-a", Str.ofString "- 1", Str.ofString "&", Str.ofString "|", Str.ofString "-'a'", Str.ofString "Z9", Str.ofString "-[", Str.ofString "'a\nb'", Str.ofString "'\t'", Str.ofString "'it''s \n'"]
def lastS : List Str := [Str.ofString "'", Str.ofString "'abc", Str.ofString "'''", Str.ofString "'a''", Str.ofString "'a b, [1", Str.ofString "'\n"]
theorem good_a {c : Nat} {b : List Nat} {last : Bool} (hl : (c :: b).length ≤ 20) (hc : noHead c ∧ c ≠ 32) : GoodB (c :: b) last := ⟨hl, ⟨c, b, rfl, fun z => (List.mem_append.mp z).elim hc.1.2.2.1 hc.1.2.1⟩, fun rest => .inl ⟨c, _, rfl, hc.1, hc.2⟩⟩
theorem good_b {b : List Nat} (hl : (45 :: b).length ≤ 20) (hb : ∀ c r', b = c :: r' → c ∉ figL) : GoodB (45 :: b) false := ⟨hl, ⟨45, b, rfl, by decide +kernel⟩, fun rest => .inr (.inl ⟨_, rfl, fun c r' e => by
  cases b with
  | nil => rw [← (List.cons.inj e).1]; decide +kernel
  | cons d b => rw [← (List.cons.inj e).1]; exact hb d b rfl⟩)⟩
theorem good_c {x : List Nat} (hl : (39 :: (dbl x ++ [39])).length ≤ 20) (hx : ∃ c ∈ x, c ∉ sgnL) : GoodB (39 :: (dbl x ++ [39])) false := ⟨hl, ⟨39, _, rfl, by decide +kernel⟩, fun rest => .inr (.inr (.inl ⟨x, 32 :: rest, by simp, hx, fun c r' e => by rw [← (List.cons.inj e).1]; exact sp_run 2⟩))⟩
theorem good_d {x : List Nat} (hl : (39 :: dbl x).length ≤ 20) : GoodB (39 :: dbl x) true := ⟨hl, ⟨39, _, rfl, by decide +kernel⟩, fun rest => .inr (.inr (.inr ⟨x, by simp⟩))⟩
instance (c : Nat) : Decidable (noHead c) := by unfold noHead; infer_instance
theorem good_some : ∀ z ∈ someS, GoodB (ts z) false := by
  have e : someS.map ts = [[33], [65], [95], [45], [45, 45, 49], [10], [9], [46], [126], [40], [43, 49], [61], [45, 97], [45, 32, 49], [38], [124], [45, 39, 97, 39], [90, 57], [45, 91], 39 :: (dbl [97, 10, 98] ++ [39]), 39 :: (dbl [9] ++ [39]), 39 :: (dbl [105, 116, 39, 115, 32, 10] ++ [39])] := by decide +kernel
  intro z hz
  have hz' : ts z ∈ someS.map ts := List.mem_map_of_mem hz
  rw [e] at hz'
  generalize ts z = b at hz' ⊢
  simp only [List.mem_cons, List.not_mem_nil, or_false] at hz'
  have nf : ∀ d : Nat, d ∉ figL → ∀ l : List Nat, ∀ c r', d :: l = c :: r' → c ∉ figL := fun d hd l c r' e => by rw [← (List.cons.inj e).1]; exact hd
  rcases hz' with rfl | rfl | rfl | rfl | rfl | rfl | rfl | rfl | rfl | rfl | rfl | rfl | rfl | rfl | rfl | rfl | rfl | rfl | rfl | rfl | rfl | rfl
  · exact good_a (by decide) (by decide +kernel)
  · exact good_a (by decide) (by decide +kernel)
  · exact good_a (by decide) (by decide +kernel)
  · exact good_b (by decide) (fun c r' e => nomatch e)
  · exact good_b (by decide) (nf _ (by decide +kernel) _)
  · exact good_a (by decide) (by decide +kernel)
  · exact good_a (by decide) (by decide +kernel)
  · exact good_a (by decide) (by decide +kernel)
  · exact good_a (by decide) (by decide +kernel)
  · exact good_a (by decide) (by decide +kernel)
  · exact good_a (by decide) (by decide +kernel)
  · exact good_a (by decide) (by decide +kernel)
  · exact good_b (by decide) (nf _ (by decide +kernel) _)
  · exact good_b (by decide) (nf _ (by decide +kernel) _)
  · exact good_a (by decide) (by decide +kernel)
  · exact good_a (by decide) (by decide +kernel)
  · exact good_b (by decide) (nf _ (by decide +kernel) _)
  · exact good_a (by decide) (by decide +kernel)
  · exact good_b (by decide) (nf _ (by decide +kernel) _)
  · exact good_c (by decide +kernel) ⟨10, by decide, by decide +kernel⟩
  · exact good_c (by decide +kernel) ⟨9, by decide, by decide +kernel⟩
  · exact good_c (by decide +kernel) ⟨10, by decide, by decide +kernel⟩
theorem good_last : ∀ z ∈ lastS, GoodB (ts z) true := by
  have e : lastS.map ts = [39 :: dbl [], 39 :: dbl [97, 98, 99], 39 :: dbl [39], 39 :: dbl [97, 39], 39 :: dbl [97, 32, 98, 44, 32, 91, 49], 39 :: dbl [10]] := by decide +kernel
  intro z hz
  have hz' : ts z ∈ lastS.map ts := List.mem_map_of_mem hz
  rw [e] at hz'
  generalize ts z = b at hz' ⊢
  simp only [List.mem_cons, List.not_mem_nil, or_false] at hz'
  rcases hz' with rfl | rfl | rfl | rfl | rfl | rfl <;> exact good_d (by decide +kernel)
section
variable {P : Program} {w : World} {K : PySem.W.Frag} {mg : Str → Option Value} {base : Heap} {f : Addr} {fd : FuncData}
def spBad : Sp := fun vs H Q _ => ∃ c : Int, vs = [.int c] ∧ 0 ≤ c ∧ ∀ (p : Addr) (b : List Nat) (l : Bool) (H' : Hp), Same H H' → H' p = some (.tup [.str (tx b), .bl l]) → GoodB b l → Q (.ref p) H'
theorem scBad : FnScope ["_law_cell_here", "_law_some", "_law_last"] ["_law_cell_here"] (defScope sBad) := ⟨rfl, rfl, rfl, by decide +kernel, rfl, by decide +kernel, by decide +kernel⟩
theorem ok_bad (F : Fun K "_law_bad" "_law_bad" sBad f fd) : FnOk P w K mg base CX0 1 f fd ["_law_cell_here"] spBad := by
  refine F.ok scBad (fun vs H Q E h => ?_) (fun cdv A outer s H vs Q E hr h => ?_)
  · obtain ⟨c, rfl, _⟩ := h
    rfl
  obtain ⟨c, rfl, hc, q⟩ := h
  have nd := scBad.nd
  refine ⟨_, (pss_cons (ps_set (i := 1) nd rfl (Or.inl rfl) (pe_lst (pa_cons pe_str (pa_cons pe_str (pa_cons pe_str (pa_cons pe_str (pa_cons pe_str (pa_cons pe_str (pa_cons pe_str (pa_cons pe_str (pa_cons pe_str (pa_cons pe_str (pa_cons pe_str (pa_cons pe_str (pa_cons pe_str (pa_cons pe_str (pa_cons pe_str (pa_cons pe_str (pa_cons pe_str (pa_cons pe_str (pa_cons pe_str pa_nil)))))))))))))))))))))
    (pss_cons (ps_set (i := 1) nd rfl (Or.inl rfl) (pe_op op_cat (pv 1) (pe_lst (pa_cons pe_str (pa_cons pe_str (pa_cons pe_str pa_nil))))))
    (pss_cons (ps_set (i := 2) nd rfl (Or.inl rfl) (pe_lst (pa_cons pe_str (pa_cons pe_str (pa_cons pe_str (pa_cons pe_str (pa_cons pe_str (pa_cons pe_str pa_nil))))))))
    (pss_cons (ps_if (pt_cmpR op_eq (pe_op op_mod (pv 0) pe_int) pe_int (nomark _)) (pss_one (ps_ret (pe_tup (pa_cons (pe_ix ix_list (pv 2) (pe_op op_mod (pe_op op_fdiv (pv 0) pe_int) pe_int) (fun _ _ => rfl)) (pa_cons pe_bl pa_nil))))) pss_nil)
    (pss_one (ps_ret (pe_tup (pa_cons (pe_ix ix_list (pv 1) (pe_op op_mod (pe_op op_fdiv (pv 0) pe_int) pe_int) (fun _ _ => rfl)) (pa_cons pe_bl pa_nil))))))))), ?_⟩
  rw [show start ["_law_cell_here", "_law_some", "_law_last"] [.int c] = [some (.int c), none, none] from rfl]
  walk_at "rd3"
  intro p1 hp1 p2 hp2
  change upd H p1 (.lst ((someS.take 19).map V.str)) p2 = none at hp2
  change rCat (V.ref p1) (V.ref p2) (upd (upd H p1 (.lst ((someS.take 19).map V.str))) p2 (.lst ((someS.drop 19).map V.str))) _
  have s1 := same_new hp1 (.lst ((someS.take 19).map V.str))
  have e1 := upd_same (H := H) (a := p1) (o := .lst ((someS.take 19).map V.str))
  generalize upd H p1 (.lst ((someS.take 19).map V.str)) = H1 at s1 e1 hp2 ⊢
  have s2 := same_new hp2 (.lst ((someS.drop 19).map V.str))
  have e2 := upd_same (H := H1) (a := p2) (o := .lst ((someS.drop 19).map V.str))
  generalize upd H1 p2 (.lst ((someS.drop 19).map V.str)) = H2 at s2 e2 ⊢
  refine ⟨p1, p2, _, _, rfl, rfl, s2 _ _ e1, e2, by rw [sizeLine_eq]; exact Nat.le_of_ble_eq_true rfl, fun p3 hp3 => ?_⟩
  change ∀ (p : Addr), upd H2 p3 (.lst (someS.map V.str)) p = none → _
  have s3 := same_new hp3 (.lst (someS.map V.str))
  have e3 := upd_same (H := H2) (a := p3) (o := .lst (someS.map V.str))
  intro p4 hp4
  change if c % 4 = 3 then rIxL K (V.ref p4) (V.int (c / 4 % 6)) (upd (upd H2 p3 (.lst (someS.map V.str))) p4 (.lst (lastS.map V.str))) _ else rIxL K (V.ref p3) (V.int (c / 4 % 22)) (upd (upd H2 p3 (.lst (someS.map V.str))) p4 (.lst (lastS.map V.str))) _
  generalize upd H2 p3 (.lst (someS.map V.str)) = H3 at s3 e3 hp4 ⊢
  have s4 := same_new hp4 (.lst (lastS.map V.str))
  have e4 := upd_same (H := H3) (a := p4) (o := .lst (lastS.map V.str))
  generalize upd H3 p4 (.lst (lastS.map V.str)) = H4 at s4 e4 ⊢
  have g := s1.trans (s2.trans (s3.trans s4))
  have at_ : ∀ (zs : List Str) (i : Int), 0 ≤ i → i < zs.length → ∃ z, atI (zs.map V.str) i = some (.str z) ∧ z ∈ zs := fun zs i h0 h1 => by
    obtain ⟨v, hv, hm⟩ := atI_of (xs := zs.map V.str) (i := i) h0 (by rw [List.length_map]; exact h1)
    obtain ⟨z, hz, rfl⟩ := List.mem_map.mp hm
    exact ⟨z, hv, hz⟩
  split
  · obtain ⟨z, hz, hm⟩ := at_ lastS (c / 4 % 6) (by omega) (by show _ < (6 : Int); omega)
    refine rIxL_i (SqL.of e4) hz fun p5 hp5 => ?_
    exact q p5 (ts z) true _ (g.trans (same_new hp5 _)) (by rw [tx_ts]; exact upd_same) (good_last z hm)
  · obtain ⟨z, hz, hm⟩ := at_ someS (c / 4 % 22) (by omega) (by show _ < (22 : Int); omega)
    refine rIxL_i (SqL.of (s4 _ _ e3)) hz fun p5 hp5 => ?_
    exact q p5 (ts z) false _ (g.trans (same_new hp5 _)) (by rw [tx_ts]; exact upd_same) (good_some z hm)
end
end K22
namespace K22
open PySem L2
local macro_rules | `(tactic| walk_at "rd") => `(tactic| simp only [cxOf_K, nox_K, compCx_K, tSeq, tNext, tAsg, gName, tRet, tRetN, tIfS, tDrop, tOp, tUn, tVar, tC, tCall, tCons, tNil, tTest, tB, tAnd, tOr, tNot, tAndV, tOrV, tNotV, tIf, tCB, tBM, tComp, tTrue, tPart, tNoPart, tSl, tChain, tIsN, tNotN, tLst, tTup, tFor_eq, sDPut, tDNewK, tNever, rI0, rI, rU, rEq, rNe, rMulS, rInC, iRng1, iStr, CDiv, CMul, CPow, scal, List.append_nil, List.getElem?_cons_zero, List.getElem?_cons_succ, List.set_cons_zero, List.set_cons_succ, List.map_cons, List.map_nil, List.length_cons, List.length_nil, sizeLine_eq, Nat.reduceAdd, Nat.reduceLeDiff, Option.join_some, Option.join_none, Option.some.injEq, V.int.injEq, V.str.injEq, V.bl.injEq, V.ref.injEq, V.ty.injEq, List.cons.injEq, and_true, true_and, and_self, exists_eq_left', exists_eq_left, exists_and_left, exists_and_right, decide_eq_true_eq, Bool.not_eq_eq_eq_not, Bool.not_true, Bool.not_false, decide_eq_false_iff_not, Int.reduceLT, Int.reduceLE, Int.reduceNeg, Int.reducePow, Int.reduceAdd, Int.reduceSub, Int.reduceMul, Int.reduceToNat, natAbs10, Nat.reduceLT, Nat.reducePow, or_true, true_or, if_true, if_false, Bool.false_eq_true, ite_true, ite_false, reduceCtorEq])
local macro_rules | `(tactic| walk_at "rd3") => `(tactic| simp only [gTup, gCons, gNil, iZip, tIsT, tDisp, tPairs, tBM0, iList, iDict, tThaw, tMaxD, rMaxD, tDGet, rVals, tComp, cxOf_K, nox_K, compCx_K, tSeq, tNext, tAsg, gName, tRet, tRetN, tIfS, tDrop, tOp, tUn, tVar, tC, tCall, tCons, tNil, tTest, tB, tAnd, tOr, tNot, tAndV, tOrV, tNotV, tIf, tCB, tBM, tComp, tTrue, tPart, tNoPart, tSl, tChain, tIsN, tNotN, tLst, tTup, tFor_eq, sDPut, tDNewK, tNever, rI0, rI, rU, rEq, rNe, rMulS, rInC, iRng1, iStr, CDiv, CMul, CPow, scal, List.append_nil, List.getElem?_cons_zero, List.getElem?_cons_succ, List.set_cons_zero, List.set_cons_succ, List.map_cons, List.map_nil, List.length_cons, List.length_nil, sizeLine_eq, Nat.reduceAdd, Nat.reduceLeDiff, Option.join_some, Option.join_none, Option.some.injEq, V.int.injEq, V.str.injEq, V.bl.injEq, V.ref.injEq, V.ty.injEq, List.cons.injEq, and_true, true_and, and_self, exists_eq_left', exists_eq_left, exists_and_left, exists_and_right, decide_eq_true_eq, Bool.not_eq_eq_eq_not, Bool.not_true, Bool.not_false, decide_eq_false_iff_not, Int.reduceLT, Int.reduceLE, Int.reduceNeg, Int.reducePow, Int.reduceAdd, Int.reduceSub, Int.reduceMul, Int.reduceToNat, natAbs10, Nat.reduceLT, Nat.reducePow, or_true, true_or, if_true, if_false, Bool.false_eq_true, ite_true, ite_false, reduceCtorEq])
seal L2.PSs L2.PS L2.PE L2.PT L2.PW L2.PA L2.PI L2.PG L2.PGs L2.PPs L2.PTs
abbrev sLaw : Stmt := top 30
section
variable {P : Program} {w : World} {K : PySem.W.Frag} {mg : Str → Option Value} {base : Heap} {f : Addr} {fd : FuncData}
def spLaw (K : PySem.W.Frag) : Sp := fun vs H Q _ => ∃ (a : Addr) (ns : List Int), vs = [.ref a] ∧ SqL K H a (ns.map V.int) ∧ ns.length ≤ 63 ∧ ∀ H', Q (.bl true) H'
theorem scLaw : FnScope ["_law_script", "_law_many", "_law_row", "_law_at", "_law_text", "_law_bad_here", "_law_last", "_law_due", "_law_found"] ["_law_script"] (defScope sLaw) := ⟨rfl, rfl, rfl, by decide +kernel, rfl, by decide +kernel, by decide +kernel⟩
theorem Tks.snoc {H H' : Hp} {xs : List V} {tks : List Tk} {a : Addr} {t : Tk} (h : Tks H xs tks) (g : Same H H') (ha : H' a = some (.tup [.str (kS t.1), .str (tx t.2)])) : Tks H' (xs ++ [.ref a]) (tks ++ [t]) := by
  refine ⟨by rw [List.length_append, List.length_append, h.1]; rfl, fun i u hu => ?_⟩
  by_cases c : i < tks.length
  · rw [List.getElem?_append_left c] at hu
    obtain ⟨b, h1, h2⟩ := h.2 i u hu
    exact ⟨b, by rw [List.getElem?_append_left (by rw [h.1]; exact c)]; exact h1, g _ _ h2⟩
  · have hi : i = tks.length := by
      obtain ⟨z, _⟩ := List.getElem?_eq_some_iff.mp hu
      rw [List.length_append] at z
      simp only [List.length_cons, List.length_nil] at z
      omega
    subst hi
    rw [List.getElem?_append_right (Nat.le_refl _), Nat.sub_self] at hu
    have : t = u := by simpa using hu
    subst this
    exact ⟨a, by rw [← h.1, List.getElem?_append_right (Nat.le_refl _), Nat.sub_self]; rfl, ha⟩
theorem Tks.take {H : Hp} {xs : List V} {tks : List Tk} (h : Tks H xs tks) (n : Nat) : Tks H (xs.take n) (tks.take n) := by
  refine ⟨by rw [List.length_take, List.length_take, h.1], fun i t ht => ?_⟩
  have hi : i < n := by
    obtain ⟨z, _⟩ := List.getElem?_eq_some_iff.mp ht
    rw [List.length_take] at z
    omega
  rw [List.getElem?_take_of_lt hi] at ht
  obtain ⟨a, h1, h2⟩ := h.2 i t ht
  exact ⟨a, by rw [List.getElem?_take_of_lt hi]; exact h1, h2⟩
theorem Tks.drop {H : Hp} {xs : List V} {tks : List Tk} (h : Tks H xs tks) (n : Nat) : Tks H (xs.drop n) (tks.drop n) := by
  refine ⟨by rw [List.length_drop, List.length_drop, h.1], fun i t ht => ?_⟩
  rw [List.getElem?_drop] at ht
  obtain ⟨a, h1, h2⟩ := h.2 _ t ht
  exact ⟨a, by rw [List.getElem?_drop]; exact h1, h2⟩
theorem ok_law (F : Fun K "law" "law" sLaw f fd) (B : Bl mg) (G_law_cell : Dn P w K mg base 1 "_law_cell" ["_law_script", "_law_k"] (spCell K)) (G_law_token_by : Dn P w K mg base 3 "_law_token_by" ["_law_more"] spTok) (G_law_laid : Dn P w K mg base 2 "_law_laid" ["_law_row", "_law_cell_here"] spLaid)
    (G_law_bad : Dn P w K mg base 1 "_law_bad" ["_law_cell_here"] spBad) (G_law_refused : Dn P w K mg base 6 "_law_refused" ["_law_text"] spRef) : FnOk P w K mg base CX0 7 f fd ["_law_script"] (spLaw K) := by
  refine F.ok scLaw (fun vs H Q E h => ?_) (fun cdv A outer s H vs Q E hr h => ?_)
  · obtain ⟨a, ns, rfl, _⟩ := h
    rfl
  obtain ⟨a, ns, rfl, hS, h63, q⟩ := h
  have nd := scLaw.nd
  have hu0 := hr.units0
  have hu := hu_of hr
  have hu64 := hr.units
  refine ⟨_, (pss_cons (ps_set (i := 1) nd rfl (Or.inl rfl) (pe_op op_mod (pe_cd G_law_cell hr (by omega) rfl (pa_cons (pv 0) (pa_cons pe_int pa_nil))) pe_int))
    (pss_cons (ps_comp (i := 2) nd rfl (Or.inl rfl) (own := ["_law_k"]) (F := [("_law_script", 0)]) ⟨rfl, by with_unfolding_all rfl, by with_unfolding_all rfl, by with_unfolding_all rfl, (.cons rfl rfl rfl .nil)⟩ rfl (pi_range1 rfl B.range (pa_cons (pv 1) pa_nil)) (fun _ _ _ _ => pg_name (i := 0) (by show (compN ["_law_k"] [("_law_script", 0)]).Nodup; decide +kernel) rfl (Or.inl rfl)) (fun _ _ _ _ => pts_nil) (fun _ _ _ _ => (pe_cd G_law_token_by hr (by omega) rfl (pa_cons (pe_cd G_law_cell hr (by omega) rfl (pa_cons (pv 1) (pa_cons (pe_op op_add pe_int (pv 0)) pa_nil))) pa_nil))))
    (pss_cons (ps_set (i := 3) nd rfl (Or.inl rfl) (pe_op op_mod (pe_cd G_law_cell hr (by omega) rfl (pa_cons (pv 0) (pa_cons pe_int pa_nil))) (pe_op op_add (pv 1) pe_int)))
    (pss_cons (ps_set (i := 4) nd rfl (Or.inl rfl) (pe_ix ix_tup (pe_cd G_law_laid hr (by omega) rfl (pa_cons (pe_slice sl_list (pv 2) po_none (po_some (pv 3))) (pa_cons (pe_cd G_law_cell hr (by omega) rfl (pa_cons (pv 0) (pa_cons pe_int pa_nil))) pa_nil))) pe_int (fun _ _ => rfl)))
    (pss_cons (ps_asg (pe_cd G_law_bad hr (by omega) rfl (pa_cons (pe_op op_fdiv (pe_cd G_law_cell hr (by omega) rfl (pa_cons (pv 0) (pa_cons pe_int pa_nil))) pe_int) pa_nil)) (pg_tup (n := 2) rfl (pgs_cons (pg_name (i := 5) nd rfl (Or.inl rfl)) (pgs_cons (pg_name (i := 6) nd rfl (Or.inl rfl)) pgs_nil))))
    (pss_cons (ps_mid (ps_if (PW.pt (pw_and (pt_cmpR op_eq (pe_ix ix_str (pv 5) pe_int (fun _ _ => rfl)) pe_str (nomark _)) (pw_and (pt_cmpR op_gt (pv 3) pe_int (nomark _)) (pw_and1 (pt_cmpR op_eq (pe_ix ix_tup (pe_ix ix_list (pv 2) (pe_op op_sub (pv 3) pe_int) (fun _ _ => rfl)) pe_int (fun _ _ => rfl)) pe_str (nomark _)))))) (pss_one (ps_set (i := 4) nd rfl (Or.inl rfl) (pe_op op_add_str (pv 4) pe_str))) pss_nil))
    (pss_cons (ps_set (i := 7) nd rfl (Or.inl rfl) (pe_callB call_len_str rfl B.len bt_len (pa_cons (pv 4) pa_nil)))
    (pss_cons (ps_set (i := 4) nd rfl (Or.inl rfl) (pe_op op_add_str (pv 4) (pv 5)))
    (pss_cons (ps_if (pt_not (pt_val (pv 6))) (pss_one (ps_set (i := 4) nd rfl (Or.inl rfl) (pe_op op_add_str (pe_op op_add_str (pv 4) pe_str) (pe_ix ix_tup (pe_cd G_law_laid hr (by omega) rfl (pa_cons (pe_slice sl_list (pv 2) (po_some (pv 3)) po_none) (pa_cons (pe_op op_fdiv (pe_cd G_law_cell hr (by omega) rfl (pa_cons (pv 0) (pa_cons pe_int pa_nil))) pe_int) pa_nil))) pe_int (fun _ _ => rfl))))) pss_nil)
    (pss_cons (ps_set (i := 8) nd rfl (Or.inl rfl) (pe_cd G_law_refused hr (by omega) rfl (pa_cons (pv 4) pa_nil)))
    (pss_one (ps_ret (pe_and (pe_callB (call_isi (T := "int") (by decide)) rfl B.isinstance bt_isinstance (pa_cons (pv 8) (pa_cons (pe_bltn (v := .ty "int") rfl B.int bt_int rfl) pa_nil))) (pe_and (pe_not (pe_callB (call_isi (T := "bool") (by decide)) rfl B.isinstance bt_isinstance (pa_cons (pv 8) (pa_cons (pe_bltn (v := .ty "bool") rfl B.bool bt_bool rfl) pa_nil)))) (pe_one (pe_cmpR op_eq (pv 8) (pv 7) (nomark _))))))))))))))))), ?_⟩
  rw [show start ["_law_script", "_law_many", "_law_row", "_law_at", "_law_text", "_law_bad_here", "_law_last", "_law_due", "_law_found"] [.ref a] = [some (.ref a), none, none, none, none, none, none, none, none] from rfl]
  walk_at "rd3"
  refine spCell_i hS h63 (by decide) (by decide) fun H1 g1 => ⟨_, rfl, ?_, ?_, ?_⟩
  · have := cellF_lo ns 0; omega
  · have := cellF_lo ns 0; omega
  have c00 := cellF_lo ns 0
  refine comp_rng (fun i zs H2 => Same H H2 ∧ ∃ tks, Tks H2 zs tks ∧ tks.length = i ∧ ∀ t ∈ tks, OkTk t) (by rw [sizeLine_eq]; omega) ⟨g1, [], ⟨rfl, fun i t h => nomatch h⟩, rfl, (fun _ h => nomatch h)⟩ ?_ ?_
  · rintro i zs H2 hi _ ⟨g2, tks, hT, hl, hok⟩
    walk_at "rd3"
    refine spCell_i (g2.seq hS) h63 (by omega) (by omega) fun H3 g3 => ⟨_, rfl, cellF_lo _ _, cellF_hi _ _, fun p t H4 g4 hp ht => ⟨g2.trans (g3.trans g4), tks ++ [t], hT.snoc (g3.trans g4) hp, by simp [hl], fun u hu => ?_⟩⟩
    rcases List.mem_append.mp hu with z | z
    · exact hok u z
    · rw [List.mem_singleton.mp z]; exact ht
  rintro zs H2 _ ⟨g2, tks, hT, hl, hok⟩ p hp
  have s3 := same_new hp (.lst zs)
  have hp2 : upd H2 p (.lst zs) p = some (.lst zs) := upd_same
  have hT3 := hT.same s3
  have G2 := g2.trans s3
  generalize upd H2 p (.lst zs) = H3 at G2 hp2 hT3 ⊢
  refine spCell_i (G2.seq hS) h63 (by decide) (by decide) fun H4 g4 => ?_
  have hxl := hT3.1
  obtain ⟨n, hn, hnl⟩ : ∃ n : Nat, cellF ns 1 % (cellF ns 0 % 16 + 1) = (n : Int) ∧ n ≤ tks.length := ⟨(cellF ns 1 % (cellF ns 0 % 16 + 1)).toNat, by have := Int.emod_nonneg (cellF ns 1) (show cellF ns 0 % 16 + 1 ≠ 0 by omega); omega, by have := Int.emod_lt_of_pos (cellF ns 1) (show 0 < cellF ns 0 % 16 + 1 by omega); omega⟩
  refine ⟨_, rfl, by omega, p, zs, rfl, SqL.of (g4 _ _ hp2), fun p5 hp5 => ?_⟩
  rw [hn, cut_to]
  have s5 := same_new hp5 (.lst (zs.take n))
  have e5 := upd_same (H := H4) (a := p5) (o := .lst (zs.take n))
  generalize upd H4 p5 (.lst (zs.take n)) = H5 at s5 e5 ⊢
  have G5 := G2.trans (g4.trans s5)
  have hT5 : Tks H5 (zs.take n) (tks.take n) := (hT3.same (g4.trans s5)).take n
  refine spCell_i (G5.seq hS) h63 (by decide) (by decide) fun H6 g6 => ⟨p5, _, tks.take n, _, rfl, g6 _ _ e5, hT5.same g6, (fun t ht => hok t (List.mem_of_mem_take ht)), by rw [List.length_take]; omega, cellF_lo _ _, cellF_hi _ _, fun o l r e H7 g7 ho hl7 hrok hch hrm hr24 hLl => ?_⟩
  refine rIxT_i (SqT.of ho) (atI_nat (j := 0) rfl) (spCell_i ((G5.trans (g6.trans g7)).seq hS) h63 (by decide) (by decide) fun H8 g8 => ⟨_, rfl, _, rfl, by have := cellF_lo ns 1; omega, fun p9 b l9 H9 g9 hp9 hb => ?_⟩)
  have G9 := G5.trans (g6.trans (g7.trans (g8.trans g9)))
  have hp9' := (s5.trans (g6.trans (g7.trans (g8.trans g9)))) _ _ (g4 _ _ hp2)
  have hT9 := hT3.same (g4.trans (s5.trans (g6.trans (g7.trans (g8.trans g9)))))
  obtain ⟨hb20, ⟨c, b', hbc, hcl⟩, hbad⟩ := hb
  refine ⟨p9, rfl, _, SqT.of hp9, rfl, _, _, rfl, _, _, rfl, rfl, fun σ' H' => ∃ e', σ' = [some (.ref a), some (.int (cellF ns 0 % 16)), some (.ref p), some (.int n), some (.str (tx (lay r ++ List.replicate e' 32))), some (.str (tx b)), some (.bl l9), none, none] ∧ Same H H' ∧ H' p = some (.lst zs) ∧ Tks H' zs tks ∧ e' ≤ e + 1 ∧ (e' = 0 → ∀ z, r.getLast? = some z → c ∉ runL z.2.1), ?_, ?_⟩
  · walk_at "rd3"
    have hbl : 0 < b.length := by rw [hbc]; exact Nat.succ_pos _
    refine rIxS_i (by rw [tx_len, sizeLine_eq]; omega) (atI_nat (j := 0) (show b[0]? = some c by rw [hbc]; rfl)) ⟨rfl, ?_⟩
    rw [of_q, show Str.ofString "text" = kS 2 from rfl, of_sp]
    simp only [tx1]
    have stay : (∀ z, r.getLast? = some z → c ∉ runL z.2.1) → ∃ e', tx (lay r ++ List.replicate e 32) = tx (lay r ++ List.replicate e' 32) ∧ Same H H9 ∧ H9 p = some (.lst zs) ∧ Tks H9 zs tks ∧ e' ≤ e + 1 ∧ (e' = 0 → ∀ z, r.getLast? = some z → c ∉ runL z.2.1) := fun h => ⟨e, rfl, G9, hp9', hT9, by omega, fun _ => h⟩
    have run_no : ∀ k : Nat, (k = 2 → c ≠ 39) → c ∉ runL k := fun k hk z => by
      unfold runL at z
      split at z
      · exact hcl (List.mem_append_right _ z)
      · split at z
        · exact hcl z
        · split at z
          · rename_i h2; exact hk h2 (List.mem_singleton.mp z)
          · cases z
    by_cases h39 : c = 39
    · refine iP h39 ?_
      by_cases hn0 : (0 : Int) < (n : Int)
      · obtain ⟨u, hu⟩ : ∃ u, tks[n - 1]? = some u := ⟨_, List.getElem?_eq_getElem (by omega)⟩
        obtain ⟨a', hb1, hb2⟩ := hT9.2 (n - 1) u hu
        have huok := hok u (List.mem_of_getElem? hu)
        refine iP hn0 (rIxL_i (SqL.of hp9') (show atI zs ((n : Int) - 1) = some (V.ref a') by rw [show (n : Int) - 1 = ((n - 1 : Nat) : Int) by omega]; exact atI_nat hb1) (rIxT_i (SqT.of hb2) (atI_nat (j := 0) rfl) ⟨rfl, ?_⟩))
        by_cases hu2 : u.1 = 2
        · rw [hu2]
          refine iP rfl ⟨?_, e + 1, ?_, G9, hp9', hT9, Nat.le_refl _, fun z => nomatch z⟩
          · rw [tx_len, tx_len]; simp only [List.length_cons, List.length_nil]; omega
          · rw [app_tx, List.append_assoc, List.replicate_succ']
        · refine iN ?_ (stay fun z hz => run_no _ fun h2 => absurd ?_ hu2)
          · intro z
            have z := V.str.inj z
            rcases huok.2 with ⟨k, _⟩ | ⟨k, _⟩ | ⟨k, _⟩ | ⟨k, _⟩
            · rw [k] at z; exact kS_ne.2.2.2.2.2.2.1 z
            · rw [k] at z; exact kS_ne.2.2.2.2.2.2.2.1 z
            · exact hu2 k
            · rw [k] at z; exact kS_ne.2.2.2.2.2.2.2.2 z
          · have hrl := congrArg List.length hrm
            rw [List.length_map, List.length_take] at hrl
            rw [List.getLast?_eq_getElem?] at hz
            have h1 : (r.map (·.2))[r.length - 1]? = some z.2 := by rw [List.getElem?_map, hz]; rfl
            rw [hrm, show r.length - 1 = n - 1 by omega, List.getElem?_take_of_lt (by omega), hu] at h1
            rw [Option.some.inj h1]; exact h2
      · refine iN hn0 (stay fun z hz => ?_)
        have hn00 : n = 0 := by omega
        rw [hn00, List.take_zero, List.map_eq_nil_iff] at hrm
        rw [hrm] at hz; cases hz
    · exact iN h39 (stay fun z hz => run_no _ fun _ => h39)
  · rintro σ' H' ⟨e', rfl, g', hp', hT', he', hst⟩
    walk_at "rd3"
    have hl1 : (tx (lay r ++ List.replicate e' 32)).length = (lay r).length + e' := by rw [tx_len, List.length_append, List.length_replicate]
    have hle : (lay r).length + e ≤ 10000 := by rw [List.length_append, List.length_replicate] at hLl; exact hLl
    have hbt : (tx b).length = b.length := tx_len b
    refine ⟨by omega, by omega, ?_⟩
    have fin : ∀ (rest : List Nat) (H'' : Hp), rest.length ≤ 10000 → ∀ Q' : VK, (∀ H3, Q' (.int (((lay r).length + e' : Nat) : Int)) H3) → spRef [.str (tx (lay r ++ List.replicate e' 32 ++ (b ++ if l9 = true then [] else 32 :: rest)))] H'' Q' E0 := fun rest H'' hrest Q' hQ => by
      refine ⟨r, e', _, rfl, hrok, hch, by omega, ?_, hbad rest, fun h0 z hz c1 r1 e1 => ?_, fun H3 _ => hQ H3⟩
      · rw [List.length_append, List.length_append, List.length_append, List.length_replicate]
        have : (if l9 = true then ([] : List Nat) else 32 :: rest).length ≤ 10001 := by
          split
          · exact Nat.zero_le _
          · rw [List.length_cons]; omega
        omega
      · rw [hbc, List.cons_append] at e1
        rw [← (List.cons.inj e1).1]
        exact hst h0 z hz
    have last : ∀ H3 : Hp, Q (.bl (decide (V.int (((lay r).length + e' : Nat) : Int) = V.int (((lay r).length + e' : Nat) : Int)))) H3 := fun H3 => by
      rw [decide_eq_true rfl]; exact q H3
    rw [hl1]
    cases l9 with
    | true =>
      refine iN (by decide) ?_
      rw [app_tx]
      have z := fin [] H' (Nat.zero_le _)
      rw [if_pos rfl, List.append_nil] at z
      exact z _ fun H3 => ⟨"int", rfl, iP (by decide +kernel) ⟨"int", rfl, true, by decide +kernel, iP rfl ⟨rfl, last H3⟩⟩⟩
    | false =>
      refine iP rfl ⟨?_, p, zs, rfl, SqL.of hp', fun p10 hp10 => ?_⟩
      · rw [app_tx, tx_len, of_sp, tx_len, List.length_append, List.length_append, List.length_replicate]; simp only [List.length_cons, List.length_nil]; omega
      rw [cut_from]
      have s10 := same_new hp10 (.lst (zs.drop n))
      have e10 := upd_same (H := H') (a := p10) (o := .lst (zs.drop n))
      generalize upd H' p10 (.lst (zs.drop n)) = H10 at s10 e10 ⊢
      have hT10 : Tks H10 (zs.drop n) (tks.drop n) := (hT'.same s10).drop n
      have c2 := cellF_lo ns 2
      have c2' := cellF_hi ns 2
      refine spCell_i ((g'.trans s10).seq hS) h63 (by decide) (by decide) fun H11 g11 => ⟨_, rfl, p10, _, tks.drop n, _, rfl, g11 _ _ e10, hT10.same g11, (fun t ht => hok t (List.mem_of_mem_drop ht)), by rw [List.length_drop]; omega, by omega, by omega, fun o2 l2 r2 e2 H12 g12 ho2 _ _ _ _ _ hLl2 => ?_⟩
      refine rIxT_i (SqT.of ho2) (atI_nat (j := 0) rfl) ⟨_, rfl, ?_, ?_⟩
      · rw [app_tx, of_sp, app_tx, tx_len, tx_len, List.length_append, List.length_append, List.length_append, List.length_replicate]; simp only [List.length_cons, List.length_nil]; omega
      rw [app_tx, of_sp, app_tx, app_tx]
      have z := fin (lay r2 ++ List.replicate e2 32) H12 hLl2
      rw [if_neg Bool.false_ne_true] at z
      have e3 : lay r ++ List.replicate e' 32 ++ b ++ [32] ++ (lay r2 ++ List.replicate e2 32) = lay r ++ List.replicate e' 32 ++ (b ++ 32 :: (lay r2 ++ List.replicate e2 32)) := by simp only [List.append_assoc, List.cons_append, List.nil_append]
      rw [e3]
      exact z _ fun H3 => ⟨"int", rfl, iP (by decide +kernel) ⟨"int", rfl, true, by decide +kernel, iP rfl ⟨rfl, last H3⟩⟩⟩
end
end K22
namespace K22
open PySem L2
theorem all_mk {l : PySem.W.OpenLaw} {w : World} {K : PySem.W.Frag} {h : Heap} {mg : Str → Option Value} {fa f0 f1 f2 f3 f4 f5 f6 f7 f8 f9 f10 f11 f12 f13 f14 f15 f16 f17 f18 : Addr} (X : K.In h) (G : h.Ns mainGlobals mg) (hfa : mg "law" = some (.ref fa))
    {od0 an0 : Option Addr} {sl0 : Array (Option Value)} {oc0 kV0 dc0 pm0 cd0 ct0 : Value}
    {od1 an1 : Option Addr} {sl1 : Array (Option Value)} {oc1 kV1 dc1 pm1 cd1 ct1 : Value}
    {od2 an2 : Option Addr} {sl2 : Array (Option Value)} {oc2 kV2 dc2 pm2 cd2 ct2 : Value}
    {od3 an3 : Option Addr} {sl3 : Array (Option Value)} {oc3 kV3 dc3 pm3 cd3 ct3 : Value}
    {od4 an4 : Option Addr} {sl4 : Array (Option Value)} {oc4 kV4 dc4 pm4 cd4 ct4 : Value}
    {od5 an5 : Option Addr} {sl5 : Array (Option Value)} {oc5 kV5 dc5 pm5 cd5 ct5 : Value}
    {od6 an6 : Option Addr} {sl6 : Array (Option Value)} {oc6 kV6 dc6 pm6 cd6 ct6 : Value}
    {od7 an7 : Option Addr} {sl7 : Array (Option Value)} {oc7 kV7 dc7 pm7 cd7 ct7 : Value}
    {od8 an8 : Option Addr} {sl8 : Array (Option Value)} {oc8 kV8 dc8 pm8 cd8 ct8 : Value}
    {od9 an9 : Option Addr} {sl9 : Array (Option Value)} {oc9 kV9 dc9 pm9 cd9 ct9 : Value}
    {od10 an10 : Option Addr} {sl10 : Array (Option Value)} {oc10 kV10 dc10 pm10 cd10 ct10 : Value}
    {od11 an11 : Option Addr} {sl11 : Array (Option Value)} {oc11 kV11 dc11 pm11 cd11 ct11 : Value}
    {od12 an12 : Option Addr} {sl12 : Array (Option Value)} {oc12 kV12 dc12 pm12 cd12 ct12 : Value}
    {od13 an13 : Option Addr} {sl13 : Array (Option Value)} {oc13 kV13 dc13 pm13 cd13 ct13 : Value}
    {od14 an14 : Option Addr} {sl14 : Array (Option Value)} {oc14 kV14 dc14 pm14 cd14 ct14 : Value}
    {od15 an15 : Option Addr} {sl15 : Array (Option Value)} {oc15 kV15 dc15 pm15 cd15 ct15 : Value}
    {od16 an16 : Option Addr} {sl16 : Array (Option Value)} {oc16 kV16 dc16 pm16 cd16 ct16 : Value}
    {od17 an17 : Option Addr} {sl17 : Array (Option Value)} {oc17 kV17 dc17 pm17 cd17 ct17 : Value}
    {od18 an18 : Option Addr} {sl18 : Array (Option Value)} {oc18 kV18 dc18 pm18 cd18 ct18 : Value}
    {u0 : Tok}
    {u1 : Tok}
    {u2 : Tok}
    {u3 : Tok}
    {xC xB xG xP xN xF xD : Addr} {xq : Str} {xbs : List Value} {xsn : List Str} {xsub : List Value} {xab : Bool} {xcol : Option Bool} {xdd : Option Addr} {xk0 xk1 xk2 xk3 xk5 : Option Value} {xod xan : Option Addr} {xsl : Array (Option Value)} {xoc xkV xdc xpm xcd xct : Value} {xdo : Option Addr} {xdc' xdv : Value} {xdn : Nat} {xds : Array (Option Value)}
    (a0 : PySem.W.nsIn K mainGlobals "is_text_sign" = some (some (.ref f0)))
    (l0 : K.lookup f0 = some ⟨oc0, od0, .func (PySem.W.fnOf "is_text_sign" "is_text_sign" (defArgs sSgn) (defBody sSgn) (defScope sSgn) .none kV0 dc0 pm0 an0 cd0 ct0), sl0⟩)
    (c0 : PySem.W.codeIn K cd0 "is_text_sign" = true)
    (k0 : PySem.W.keepIn K (.ref f0) = true)
    (a1 : PySem.W.nsIn K mainGlobals "tokens" = some (some (.ref f1)))
    (l1 : K.lookup f1 = some ⟨oc1, od1, .func (PySem.W.fnOf "tokens" "tokens" (defArgs sToks) (defBody sToks) (defScope sToks) .none kV1 dc1 pm1 an1 cd1 ct1), sl1⟩)
    (c1 : PySem.W.codeIn K cd1 "tokens" = true)
    (k1 : PySem.W.keepIn K (.ref f1) = true)
    (a2 : PySem.W.nsIn K mainGlobals "kind_at" = some (some (.ref f2)))
    (l2 : K.lookup f2 = some ⟨oc2, od2, .func (PySem.W.fnOf "kind_at" "kind_at" (defArgs sKAt) (defBody sKAt) (defScope sKAt) .none kV2 dc2 pm2 an2 cd2 ct2), sl2⟩)
    (c2 : PySem.W.codeIn K cd2 "kind_at" = true)
    (k2 : PySem.W.keepIn K (.ref f2) = true)
    (a3 : PySem.W.nsIn K mainGlobals "token_end" = some (some (.ref f3)))
    (l3 : K.lookup f3 = some ⟨oc3, od3, .func (PySem.W.fnOf "token_end" "token_end" (defArgs sTkEnd) (defBody sTkEnd) (defScope sTkEnd) .none kV3 dc3 pm3 an3 cd3 ct3), sl3⟩)
    (c3 : PySem.W.codeIn K cd3 "token_end" = true)
    (k3 : PySem.W.keepIn K (.ref f3) = true)
    (a4 : PySem.W.nsIn K mainGlobals "run_end" = some (some (.ref f4)))
    (l4 : K.lookup f4 = some ⟨oc4, od4, .func (PySem.W.fnOf "run_end" "run_end" (defArgs sRun) (defBody sRun) (defScope sRun) .none kV4 dc4 pm4 an4 cd4 ct4), sl4⟩)
    (c4 : PySem.W.codeIn K cd4 "run_end" = true)
    (k4 : PySem.W.keepIn K (.ref f4) = true)
    (a5 : PySem.W.nsIn K mainGlobals "number_end" = some (some (.ref f5)))
    (l5 : K.lookup f5 = some ⟨oc5, od5, .func (PySem.W.fnOf "number_end" "number_end" (defArgs sNEnd) (defBody sNEnd) (defScope sNEnd) .none kV5 dc5 pm5 an5 cd5 ct5), sl5⟩)
    (c5 : PySem.W.codeIn K cd5 "number_end" = true)
    (k5 : PySem.W.keepIn K (.ref f5) = true)
    (a6 : PySem.W.nsIn K mainGlobals "text_end" = some (some (.ref f6)))
    (l6 : K.lookup f6 = some ⟨oc6, od6, .func (PySem.W.fnOf "text_end" "text_end" (defArgs sTEnd) (defBody sTEnd) (defScope sTEnd) .none kV6 dc6 pm6 an6 cd6 ct6), sl6⟩)
    (c6 : PySem.W.codeIn K cd6 "text_end" = true)
    (k6 : PySem.W.keepIn K (.ref f6) = true)
    (a7 : PySem.W.nsIn K mainGlobals "string_of" = some (some (.ref f7)))
    (l7 : K.lookup f7 = some ⟨oc7, od7, .func (PySem.W.fnOf "string_of" "string_of" (defArgs sStrOf) (defBody sStrOf) (defScope sStrOf) .none kV7 dc7 pm7 an7 cd7 ct7), sl7⟩)
    (c7 : PySem.W.codeIn K cd7 "string_of" = true)
    (k7 : PySem.W.keepIn K (.ref f7) = true)
    (a8 : PySem.W.nsIn K mainGlobals "_law_cell" = some (some (.ref f8)))
    (l8 : K.lookup f8 = some ⟨oc8, od8, .func (PySem.W.fnOf "_law_cell" "_law_cell" (defArgs sCell) (defBody sCell) (defScope sCell) .none kV8 dc8 pm8 an8 cd8 ct8), sl8⟩)
    (c8 : PySem.W.codeIn K cd8 "_law_cell" = true)
    (k8 : PySem.W.keepIn K (.ref f8) = true)
    (a9 : PySem.W.nsIn K mainGlobals "_law_signs" = some (some (.ref f9)))
    (l9 : K.lookup f9 = some ⟨oc9, od9, .func (PySem.W.fnOf "_law_signs" "_law_signs" (defArgs sSigns) (defBody sSigns) (defScope sSigns) .none kV9 dc9 pm9 an9 cd9 ct9), sl9⟩)
    (c9 : PySem.W.codeIn K cd9 "_law_signs" = true)
    (k9 : PySem.W.keepIn K (.ref f9) = true)
    (a10 : PySem.W.nsIn K mainGlobals "_law_text_by" = some (some (.ref f10)))
    (l10 : K.lookup f10 = some ⟨oc10, od10, .func (PySem.W.fnOf "_law_text_by" "_law_text_by" (defArgs sText) (defBody sText) (defScope sText) .none kV10 dc10 pm10 an10 cd10 ct10), sl10⟩)
    (c10 : PySem.W.codeIn K cd10 "_law_text_by" = true)
    (k10 : PySem.W.keepIn K (.ref f10) = true)
    (a11 : PySem.W.nsIn K mainGlobals "_law_word_by" = some (some (.ref f11)))
    (l11 : K.lookup f11 = some ⟨oc11, od11, .func (PySem.W.fnOf "_law_word_by" "_law_word_by" (defArgs sWord) (defBody sWord) (defScope sWord) .none kV11 dc11 pm11 an11 cd11 ct11), sl11⟩)
    (c11 : PySem.W.codeIn K cd11 "_law_word_by" = true)
    (k11 : PySem.W.keepIn K (.ref f11) = true)
    (a12 : PySem.W.nsIn K mainGlobals "_law_token_by" = some (some (.ref f12)))
    (l12 : K.lookup f12 = some ⟨oc12, od12, .func (PySem.W.fnOf "_law_token_by" "_law_token_by" (defArgs sTok) (defBody sTok) (defScope sTok) .none kV12 dc12 pm12 an12 cd12 ct12), sl12⟩)
    (c12 : PySem.W.codeIn K cd12 "_law_token_by" = true)
    (k12 : PySem.W.keepIn K (.ref f12) = true)
    (a13 : PySem.W.nsIn K mainGlobals "_law_sticks" = some (some (.ref f13)))
    (l13 : K.lookup f13 = some ⟨oc13, od13, .func (PySem.W.fnOf "_law_sticks" "_law_sticks" (defArgs sSticks) (defBody sSticks) (defScope sSticks) .none kV13 dc13 pm13 an13 cd13 ct13), sl13⟩)
    (c13 : PySem.W.codeIn K cd13 "_law_sticks" = true)
    (k13 : PySem.W.keepIn K (.ref f13) = true)
    (a14 : PySem.W.nsIn K mainGlobals "_law_shown" = some (some (.ref f14)))
    (l14 : K.lookup f14 = some ⟨oc14, od14, .func (PySem.W.fnOf "_law_shown" "_law_shown" (defArgs sShown) (defBody sShown) (defScope sShown) .none kV14 dc14 pm14 an14 cd14 ct14), sl14⟩)
    (c14 : PySem.W.codeIn K cd14 "_law_shown" = true)
    (k14 : PySem.W.keepIn K (.ref f14) = true)
    (a15 : PySem.W.nsIn K mainGlobals "_law_laid" = some (some (.ref f15)))
    (l15 : K.lookup f15 = some ⟨oc15, od15, .func (PySem.W.fnOf "_law_laid" "_law_laid" (defArgs sLaid) (defBody sLaid) (defScope sLaid) .none kV15 dc15 pm15 an15 cd15 ct15), sl15⟩)
    (c15 : PySem.W.codeIn K cd15 "_law_laid" = true)
    (k15 : PySem.W.keepIn K (.ref f15) = true)
    (a16 : PySem.W.nsIn K mainGlobals "_law_bad" = some (some (.ref f16)))
    (l16 : K.lookup f16 = some ⟨oc16, od16, .func (PySem.W.fnOf "_law_bad" "_law_bad" (defArgs sBad) (defBody sBad) (defScope sBad) .none kV16 dc16 pm16 an16 cd16 ct16), sl16⟩)
    (c16 : PySem.W.codeIn K cd16 "_law_bad" = true)
    (k16 : PySem.W.keepIn K (.ref f16) = true)
    (a17 : PySem.W.nsIn K mainGlobals "_law_refused" = some (some (.ref f17)))
    (l17 : K.lookup f17 = some ⟨oc17, od17, .func (PySem.W.fnOf "_law_refused" "_law_refused" (defArgs sRef) (defBody sRef) (defScope sRef) .none kV17 dc17 pm17 an17 cd17 ct17), sl17⟩)
    (c17 : PySem.W.codeIn K cd17 "_law_refused" = true)
    (k17 : PySem.W.keepIn K (.ref f17) = true)
    (a18 : PySem.W.nsIn K mainGlobals "law" = some (some (.ref f18)))
    (l18 : K.lookup f18 = some ⟨oc18, od18, .func (PySem.W.fnOf "law" "law" (defArgs sLaw) (defBody sLaw) (defScope sLaw) .none kV18 dc18 pm18 an18 cd18 ct18), sl18⟩)
    (c18 : PySem.W.codeIn K cd18 "law" = true)
    (k18 : PySem.W.keepIn K (.ref f18) = true)
    (z0 : PySem.W.nsIn K mainGlobals "len" = some none)
    (z1 : PySem.W.nsIn K mainGlobals "range" = some none)
    (z2 : PySem.W.nsIn K mainGlobals "isinstance" = some none)
    (z3 : PySem.W.nsIn K mainGlobals "all" = some none)
    (z4 : PySem.W.nsIn K mainGlobals "sum" = some none)
    (z5 : PySem.W.nsIn K mainGlobals "int" = some none)
    (z6 : PySem.W.nsIn K mainGlobals "str" = some none)
    (z7 : PySem.W.nsIn K mainGlobals "bool" = some none)
    (z8 : PySem.W.nsIn K mainGlobals "list" = some none)
    (z9 : PySem.W.nsIn K mainGlobals "dict" = some none)
    (z10 : PySem.W.nsIn K mainGlobals "tuple" = some none)
    (y0 : PySem.W.nsIn K mainGlobals "max" = some none)
    (y1 : PySem.W.nsIn K mainGlobals "min" = some none)
    (y2 : PySem.W.nsIn K mainGlobals "sorted" = some none)
    (q0 : PySem.W.nsIn K mainGlobals "abs" = some none)
    (q1 : PySem.W.nsIn K mainGlobals "ord" = some none)
    (s0 : PySem.W.nsIn K mainGlobals "LETTERS" = some (some (.str (Str.ofString "abcdefghijklmnopqrstuvwxyz") u0)))
    (s1 : PySem.W.nsIn K mainGlobals "FIGURES" = some (some (.str (Str.ofString "0123456789") u1)))
    (s2 : PySem.W.nsIn K mainGlobals "NAME_SIGNS" = some (some (.str (Str.ofString "abcdefghijklmnopqrstuvwxyz0123456789") u2)))
    (s3 : PySem.W.nsIn K mainGlobals "MARKS" = some (some (.str (Str.ofString "[]{},:") u3)))
    (xa0 : PySem.W.nsIn K mainGlobals "BadText" = some (some (.ref xC)))
    (xa1 : PySem.W.nsIn K mainGlobals "CabinetError" = some (some (.ref xB)))
    (xa2 : PySem.W.nsIn K mainGlobals "TooGreat" = some (some (.ref xG)))
    (xa3 : PySem.W.nsIn K mainGlobals "NoPlace" = some (some (.ref xP)))
    (xb0 : K.lookup xC = some (excClassObj "BadText" xq xC xN xbs (.ref xB :: veMro) true xsn xsub xab xcol xdd xk0 xk1 xk2 xk3 xk5 "ValueError.__new__"))
    (xb1 : PySem.W.tailIn K veMro (.ref xB :: veMro) = true)
    (xb2 : PySem.W.findIn K (.ref xC) "__init__" = some (some (.ref xF)))
    (xb3 : PySem.W.typeIn K (.ref xF) = some (.type "function"))
    (xb4 : PySem.W.findIn K (.ref xC) "__setattr__" = some (some (.builtin "object.__setattr__")))
    (xb5 : PySem.W.findIn K (.ref xC) "at" = some none)
    (xb6 : PySem.W.keepIn K (.ref xC) = true)
    (xc0 : PySem.W.specialIn K (.ref xB) "__getattribute__" = some (some (.builtin "type.__getattribute__")))
    (xc1 : PySem.W.readsIn K xB (.type "type") = true)
    (xc2 : PySem.W.findCls K (.ref xB) (.type "type") "__init__" = some (.val (.builtin "ValueError.__init__")))
    (xd0 : K.lookup xF = some ⟨xoc, xod, .func (PySem.W.fnOf "__init__" "BadText.__init__" (defArgs sBInit) (defBody sBInit) (defScope sBInit) (.ref xD) xkV xdc xpm xan xcd xct), xsl⟩)
    (xd1 : PySem.W.codeIn K xcd "BadText.__init__" = true)
    (xd2 : K.lookup xD = some ⟨xdc', xdo, .seq #[xdv] xdn, xds⟩)
    (xe0 : PySem.W.findIn K (.ref xC) "__getattribute__" = some (some (.builtin "BaseException.__getattribute__")))
    (xe1 : PySem.W.findIn K (.ref xC) "__getattr__" = some none)
    (xe2 : PySem.W.mroIn K xC (.type "BaseException") = some true)
    (xe3 : PySem.W.mroIn K xC (.type "object") = some true)
    (xe4 : PySem.W.hasDictIn K xC = true)
    (xe5 : PySem.W.findIn K (.ref xC) "__class__" = some (some (.builtin "object.__class__")))
    (xe6 : PySem.W.specialIn K (.builtin "object.__class__") "__get__" = some (some (.builtin "getset_descriptor.__get__")))
    (xe7 : PySem.W.takesIn K (.builtin "object.__class__") = some true)
    (xf0 : PySem.W.exmOne K (.ref xC) (.ref xB) = some true)
    (xf1 : PySem.W.kitOne K (.ref xC) (.ref xC) = some true)
    (xf2 : PySem.W.kitOne K (.ref xC) (.ref xG) = some false)
    (xf3 : PySem.W.kitOne K (.ref xC) (.ref xP) = some false) :
    ∃ fd : FuncData, (∀ (s : Shared) (v : Value), BindsTo s fd ⟨[v], []⟩ [("_law_script", v)]) ∧ ∀ base : Heap, K.In base → base.Ns mainGlobals mg → FnOk l.prog w K mg base CX0 7 fa fd ["_law_script"] (spLaw K) := by
  have e := hfa.symm.trans (PySem.W.mg_of X G a18)
  cases e
  have Fis_text_sign := fun_mk (st := sSgn) l0 c0 k0
  have bis_text_sign := Fis_text_sign.binds (ps := ["sign"]) fun _ _ _ _ _ _ us hl => match us, hl with | [_], _ => rfl
  have mis_text_sign := PySem.W.mg_of X G a0
  have pis_text_sign := k0
  have Ftokens := fun_mk (st := sToks) l1 c1 k1
  have btokens := Ftokens.binds (ps := ["text"]) fun _ _ _ _ _ _ us hl => match us, hl with | [_], _ => rfl
  have mtokens := PySem.W.mg_of X G a1
  have ptokens := k1
  have Fkind_at := fun_mk (st := sKAt) l2 c2 k2
  have bkind_at := Fkind_at.binds (ps := ["text", "at"]) fun _ _ _ _ _ _ us hl => match us, hl with | [_, _], _ => rfl
  have mkind_at := PySem.W.mg_of X G a2
  have pkind_at := k2
  have Ftoken_end := fun_mk (st := sTkEnd) l3 c3 k3
  have btoken_end := Ftoken_end.binds (ps := ["kind", "text", "at"]) fun _ _ _ _ _ _ us hl => match us, hl with | [_, _, _], _ => rfl
  have mtoken_end := PySem.W.mg_of X G a3
  have ptoken_end := k3
  have Frun_end := fun_mk (st := sRun) l4 c4 k4
  have brun_end := Frun_end.binds (ps := ["text", "at", "signs"]) fun _ _ _ _ _ _ us hl => match us, hl with | [_, _, _], _ => rfl
  have mrun_end := PySem.W.mg_of X G a4
  have prun_end := k4
  have Fnumber_end := fun_mk (st := sNEnd) l5 c5 k5
  have bnumber_end := Fnumber_end.binds (ps := ["text", "at"]) fun _ _ _ _ _ _ us hl => match us, hl with | [_, _], _ => rfl
  have mnumber_end := PySem.W.mg_of X G a5
  have pnumber_end := k5
  have Ftext_end := fun_mk (st := sTEnd) l6 c6 k6
  have btext_end := Ftext_end.binds (ps := ["text", "at"]) fun _ _ _ _ _ _ us hl => match us, hl with | [_, _], _ => rfl
  have mtext_end := PySem.W.mg_of X G a6
  have ptext_end := k6
  have Fstring_of := fun_mk (st := sStrOf) l7 c7 k7
  have bstring_of := Fstring_of.binds (ps := ["kind", "signs"]) fun _ _ _ _ _ _ us hl => match us, hl with | [_, _], _ => rfl
  have mstring_of := PySem.W.mg_of X G a7
  have pstring_of := k7
  have F_law_cell := fun_mk (st := sCell) l8 c8 k8
  have b_law_cell := F_law_cell.binds (ps := ["_law_script", "_law_k"]) fun _ _ _ _ _ _ us hl => match us, hl with | [_, _], _ => rfl
  have m_law_cell := PySem.W.mg_of X G a8
  have p_law_cell := k8
  have F_law_signs := fun_mk (st := sSigns) l9 c9 k9
  have b_law_signs := F_law_signs.binds (ps := []) fun _ _ _ _ _ _ us hl => match us, hl with | [], _ => rfl
  have m_law_signs := PySem.W.mg_of X G a9
  have p_law_signs := k9
  have F_law_text_by := fun_mk (st := sText) l10 c10 k10
  have b_law_text_by := F_law_text_by.binds (ps := ["_law_more"]) fun _ _ _ _ _ _ us hl => match us, hl with | [_], _ => rfl
  have m_law_text_by := PySem.W.mg_of X G a10
  have p_law_text_by := k10
  have F_law_word_by := fun_mk (st := sWord) l11 c11 k11
  have b_law_word_by := F_law_word_by.binds (ps := ["_law_more"]) fun _ _ _ _ _ _ us hl => match us, hl with | [_], _ => rfl
  have m_law_word_by := PySem.W.mg_of X G a11
  have p_law_word_by := k11
  have F_law_token_by := fun_mk (st := sTok) l12 c12 k12
  have b_law_token_by := F_law_token_by.binds (ps := ["_law_more"]) fun _ _ _ _ _ _ us hl => match us, hl with | [_], _ => rfl
  have m_law_token_by := PySem.W.mg_of X G a12
  have p_law_token_by := k12
  have F_law_sticks := fun_mk (st := sSticks) l13 c13 k13
  have b_law_sticks := F_law_sticks.binds (ps := ["_law_one", "_law_other"]) fun _ _ _ _ _ _ us hl => match us, hl with | [_, _], _ => rfl
  have m_law_sticks := PySem.W.mg_of X G a13
  have p_law_sticks := k13
  have F_law_shown := fun_mk (st := sShown) l14 c14 k14
  have b_law_shown := F_law_shown.binds (ps := ["_law_token"]) fun _ _ _ _ _ _ us hl => match us, hl with | [_], _ => rfl
  have m_law_shown := PySem.W.mg_of X G a14
  have p_law_shown := k14
  have F_law_laid := fun_mk (st := sLaid) l15 c15 k15
  have b_law_laid := F_law_laid.binds (ps := ["_law_row", "_law_cell_here"]) fun _ _ _ _ _ _ us hl => match us, hl with | [_, _], _ => rfl
  have m_law_laid := PySem.W.mg_of X G a15
  have p_law_laid := k15
  have F_law_bad := fun_mk (st := sBad) l16 c16 k16
  have b_law_bad := F_law_bad.binds (ps := ["_law_cell_here"]) fun _ _ _ _ _ _ us hl => match us, hl with | [_], _ => rfl
  have m_law_bad := PySem.W.mg_of X G a16
  have p_law_bad := k16
  have F_law_refused := fun_mk (st := sRef) l17 c17 k17
  have b_law_refused := F_law_refused.binds (ps := ["_law_text"]) fun _ _ _ _ _ _ us hl => match us, hl with | [_], _ => rfl
  have m_law_refused := PySem.W.mg_of X G a17
  have p_law_refused := k17
  have Flaw := fun_mk (st := sLaw) l18 c18 k18
  have blaw := Flaw.binds (ps := ["_law_script"]) fun _ _ _ _ _ _ us hl => match us, hl with | [_], _ => rfl
  have mlaw := PySem.W.mg_of X G a18
  have plaw := k18
  have B : Bl mg := ⟨PySem.W.mg_none_of X G z0, PySem.W.mg_none_of X G z1, PySem.W.mg_none_of X G z2, PySem.W.mg_none_of X G z3, PySem.W.mg_none_of X G z4, PySem.W.mg_none_of X G z5, PySem.W.mg_none_of X G z6, PySem.W.mg_none_of X G z7, PySem.W.mg_none_of X G z8, PySem.W.mg_none_of X G z9, PySem.W.mg_none_of X G z10⟩
  have B2 : Bl2 mg := ⟨B, PySem.W.mg_none_of X G y0, PySem.W.mg_none_of X G y1, PySem.W.mg_none_of X G y2⟩
  have B5 : Bl5 mg := ⟨B2, PySem.W.mg_none_of X G q0, PySem.W.mg_none_of X G q1⟩
  have M : Ms mg := ⟨⟨_, PySem.W.mg_of X G s0⟩, ⟨_, PySem.W.mg_of X G s1⟩, ⟨_, PySem.W.mg_of X G s2⟩, ⟨_, PySem.W.mg_of X G s3⟩⟩
  refine ⟨PySem.W.fnOf "law" "law" (defArgs sLaw) (defBody sLaw) (defScope sLaw) .none kV18 dc18 pm18 an18 cd18 ct18, fun s v => .of_eq rfl, fun base _ _ => ?_⟩
  have Gcell : Dn l.prog w K mg base 1 "_law_cell" ["_law_script", "_law_k"] (spCell K) := ⟨_, _, ok_cell F_law_cell B, b_law_cell, p_law_cell, m_law_cell⟩
  have Gsigns : Dn l.prog w K mg base 1 "_law_signs" [] spSigns := ⟨_, _, ok_signs F_law_signs, b_law_signs, p_law_signs, m_law_signs⟩
  have Gtext : Dn l.prog w K mg base 2 "_law_text_by" ["_law_more"] spText := ⟨_, _, ok_text F_law_text_by B Gsigns, b_law_text_by, p_law_text_by, m_law_text_by⟩
  have Gword : Dn l.prog w K mg base 1 "_law_word_by" ["_law_more"] spWord := ⟨_, _, ok_word F_law_word_by B, b_law_word_by, p_law_word_by, m_law_word_by⟩
  have Gsg : Dn l.prog w K mg base 1 "is_text_sign" ["sign"] spSgn := ⟨_, _, ok_sgn Fis_text_sign B5, bis_text_sign, pis_text_sign, mis_text_sign⟩
  have Grun : Dn l.prog w K mg base 1 "run_end" ["text", "at", "signs"] spRun := ⟨_, _, ok_run Frun_end B, brun_end, prun_end, mrun_end⟩
  have mC := PySem.W.mg_of X G xa0
  have mB := PySem.W.mg_of X G xa1
  have mG := PySem.W.mg_of X G xa2
  have mP := PySem.W.mg_of X G xa3
  have XC : XCls K "BadText" xC xB xF := ⟨⟨xN, _, xb0, _, _, _, _, _, _, _, _, _, _, _, _, _, rfl⟩, ⟨_, by unfold PySem.W.clsIn; rw [xb0], rfl, rfl⟩, xb1, xb2, xb3, xb4, xb5, xb6⟩
  have XB : XBase K xB := ⟨xc0, xc1, xc2⟩
  have XG : XGet K xC := ⟨xe0, xe1, xe2, xe3, xe4, xe5, xe6, xe7⟩
  have RB : Xr l.prog w K mg base 1 "BadText" xC := ⟨_, _, _, _, _, XC, ok_binit xd0 xd1 XC XB mB, binit_binds xd2 rfl rfl, mC⟩
  have RF : Rf K mg xC xB := ⟨mB, mC, xf0, xf1, XG, xb5, ⟨_, mG, xf2⟩, ⟨_, mP, xf3⟩⟩
  have Gkx : Dx l.prog w K mg base 3 "kind_at" ["text", "at"] fun vs H Q E => spKAt vs H Q E ∨ spKAtX xC vs H Q E := ⟨_, _, FnOk.or ((ok_kat Fkind_at B M).mono (by decide)).lift (ok_katx Fkind_at B M RB), bkind_at, pkind_at, mkind_at⟩
  have Gne : Dn l.prog w K mg base 2 "number_end" ["text", "at"] spNEnd := ⟨_, _, ok_nend Fnumber_end B M Grun, bnumber_end, pnumber_end, mnumber_end⟩
  have Gte : Dn l.prog w K mg base 2 "text_end" ["text", "at"] spTEnd := ⟨_, _, ok_tend Ftext_end B Gsg, btext_end, ptext_end, mtext_end⟩
  have Gnx : Dx l.prog w K mg base 3 "number_end" ["text", "at"] (spNEndX xC) := ⟨_, _, ok_nendx Fnumber_end B M Grun RB, bnumber_end, pnumber_end, mnumber_end⟩
  have Gtx : Dx l.prog w K mg base 3 "text_end" ["text", "at"] (spTEndX xC) := ⟨_, _, FnOk.or (ok_tendc Ftext_end B Gsg RB) (ok_tendd Ftext_end B Gsg RB), btext_end, ptext_end, mtext_end⟩
  have Gkx2 : Dx l.prog w K mg base 4 "token_end" ["kind", "text", "at"] fun vs H Q E => spTkEnd vs H Q E ∨ spTkEndX xC vs H Q E := ⟨_, _, FnOk.or ((ok_tkend Ftoken_end M Gne Grun Gte).mono (by decide)).lift (ok_tkendx Ftoken_end M Gnx Grun Gtx), btoken_end, ptoken_end, mtoken_end⟩
  have Gso : Dn l.prog w K mg base 1 "string_of" ["kind", "signs"] spStrOf := ⟨_, _, ok_strof Fstring_of, bstring_of, pstring_of, mstring_of⟩
  have Gto : Dx l.prog w K mg base 5 "tokens" ["text"] (spToksX xC) := ⟨_, _, ok_toksx Ftokens B Grun Gkx Gkx2 Gso, btokens, ptokens, mtokens⟩
  have Gre : Dn l.prog w K mg base 6 "_law_refused" ["_law_text"] spRef := ⟨_, _, ok_ref F_law_refused B RF Gto, b_law_refused, p_law_refused, m_law_refused⟩
  have Gba : Dn l.prog w K mg base 1 "_law_bad" ["_law_cell_here"] spBad := ⟨_, _, ok_bad F_law_bad, b_law_bad, p_law_bad, m_law_bad⟩
  have Gtb : Dn l.prog w K mg base 3 "_law_token_by" ["_law_more"] spTok := ⟨_, _, ok_tok F_law_token_by B Gword Gtext, b_law_token_by, p_law_token_by, m_law_token_by⟩
  have Gst : Dn l.prog w K mg base 1 "_law_sticks" ["_law_one", "_law_other"] spSticks := ⟨_, _, ok_sticks F_law_sticks, b_law_sticks, p_law_sticks, m_law_sticks⟩
  have Gsh : Dn l.prog w K mg base 1 "_law_shown" ["_law_token"] spShown := ⟨_, _, ok_shown F_law_shown B, b_law_shown, p_law_shown, m_law_shown⟩
  have Gla : Dn l.prog w K mg base 2 "_law_laid" ["_law_row", "_law_cell_here"] spLaid := ⟨_, _, ok_laid F_law_laid B2 Gst Gsh, b_law_laid, p_law_laid, m_law_laid⟩
  exact ok_law Flaw B Gcell Gtb Gla Gba Gre
theorem walk {l : PySem.W.OpenLaw} {q : Program} {loose : List Str} {XP : (Str → Option Value) → Heap → Prop} {YP : World → Heap → Prop} {d : DefRec} {K : Params → PySem.W.Frag} (hn : l.most = some 63) (hdf : d.params.defaults = [])
    (hY : ∀ (w : World) (h : Heap), YP w h → (K w.params).In h)
    (F : ∀ (w : World) (mg : Str → Option Value) (fa : Addr) (h : Heap), (K w.params).In h → h.Ns mainGlobals mg → mg d.name = some (.ref fa) →
      ∃ fd : FuncData, (∀ (s : Shared) (u : Value), BindsTo s fd ⟨[u], []⟩ [("_law_script", u)]) ∧ ∀ base : Heap, (K w.params).In base → base.Ns mainGlobals mg → FnOk l.prog w (K w.params) mg base CX0 7 fa fd ["_law_script"] (spLaw (K w.params))) :
    PySem.W.WalkO q loose XP YP l.row.toRowW d [] (fun f vs => PySem.call f vs) :=
  L2.walk_of (n := 63) (k := 7) (x := "_law_script") (CX := fun _ => CX0) (sp := fun w => spLaw (K w.params)) hn (by decide) hdf ⟨rfl, by decide, by decide⟩ hY F (fun _ _ a ns hl _ hS => ⟨a, ns, rfl, hS, hl, fun _ => rfl⟩) fun _ _ _ _ _ z => z
end K22
open PySem PySem.W PyProof.Rows
set_option maxRecDepth 100000 in
set_option maxHeartbeats 0 in
theorem PySem.Challenge.cw_cabinet_k22_no_token_holds : PySem.Challenge.rw_cabinet_k22_no_token.Holds := by
  w_on; o_law; k_head; (case hw => w_witness2)
  k_fill
  refine K22.walk (l := PySem.Challenge.rw_cabinet_k22_no_token) rfl rfl (fun w h Y => PySem.W.kIn_of Y) ?F
  case F =>
    intro w mg fa h KX G hmg
    refine' K22.all_mk KX G hmg ?a0 ?l0 ?c0 ?k0 ?a1 ?l1 ?c1 ?k1 ?a2 ?l2 ?c2 ?k2 ?a3 ?l3 ?c3 ?k3 ?a4 ?l4 ?c4 ?k4 ?a5 ?l5 ?c5 ?k5 ?a6 ?l6 ?c6 ?k6 ?a7 ?l7 ?c7 ?k7 ?a8 ?l8 ?c8 ?k8 ?a9 ?l9 ?c9 ?k9 ?a10 ?l10 ?c10 ?k10 ?a11 ?l11 ?c11 ?k11 ?a12 ?l12 ?c12 ?k12 ?a13 ?l13 ?c13 ?k13 ?a14 ?l14 ?c14 ?k14 ?a15 ?l15 ?c15 ?k15 ?a16 ?l16 ?c16 ?k16 ?a17 ?l17 ?c17 ?k17 ?a18 ?l18 ?c18 ?k18 ?z0 ?z1 ?z2 ?z3 ?z4 ?z5 ?z6 ?z7 ?z8 ?z9 ?z10 ?y0 ?y1 ?y2 ?q0 ?q1 ?s0 ?s1 ?s2 ?s3 ?xa0 ?xa1 ?xa2 ?xa3 ?xb0 ?xb1 ?xb2 ?xb3 ?xb4 ?xb5 ?xb6 ?xc0 ?xc1 ?xc2 ?xd0 ?xd1 ?xd2 ?xe0 ?xe1 ?xe2 ?xe3 ?xe4 ?xe5 ?xe6 ?xe7 ?xf0 ?xf1 ?xf2 ?xf3
    (case a0 => k_is); (case l0 => k_is); (case c0 => k_is); (case k0 => k_is); (case a1 => k_is); (case l1 => k_is); (case c1 => k_is); (case k1 => k_is)
    (case a2 => k_is); (case l2 => k_is); (case c2 => k_is); (case k2 => k_is); (case a3 => k_is); (case l3 => k_is); (case c3 => k_is); (case k3 => k_is)
    (case a4 => k_is); (case l4 => k_is); (case c4 => k_is); (case k4 => k_is); (case a5 => k_is); (case l5 => k_is); (case c5 => k_is); (case k5 => k_is)
    (case a6 => k_is); (case l6 => k_is); (case c6 => k_is); (case k6 => k_is); (case a7 => k_is); (case l7 => k_is); (case c7 => k_is); (case k7 => k_is)
    (case a8 => k_is); (case l8 => k_is); (case c8 => k_is); (case k8 => k_is); (case a9 => k_is); (case l9 => k_is); (case c9 => k_is); (case k9 => k_is)
    (case a10 => k_is); (case l10 => k_is); (case c10 => k_is); (case k10 => k_is); (case a11 => k_is); (case l11 => k_is); (case c11 => k_is); (case k11 => k_is)
    (case a12 => k_is); (case l12 => k_is); (case c12 => k_is); (case k12 => k_is); (case a13 => k_is); (case l13 => k_is); (case c13 => k_is); (case k13 => k_is)
    (case a14 => k_is); (case l14 => k_is); (case c14 => k_is); (case k14 => k_is); (case a15 => k_is); (case l15 => k_is); (case c15 => k_is); (case k15 => k_is)
    (case a16 => k_is); (case l16 => k_is); (case c16 => k_is); (case k16 => k_is); (case a17 => k_is); (case l17 => k_is); (case c17 => k_is); (case k17 => k_is)
    (case a18 => k_is); (case l18 => k_is); (case c18 => k_is); (case k18 => k_is); (case z0 => k_is); (case z1 => k_is); (case z2 => k_is); (case z3 => k_is)
    (case z4 => k_is); (case z5 => k_is); (case z6 => k_is); (case z7 => k_is); (case z8 => k_is); (case z9 => k_is); (case z10 => k_is); (case y0 => k_is)
    (case y1 => k_is); (case y2 => k_is); (case q0 => k_is); (case q1 => k_is); (case s0 => k_is); (case s1 => k_is); (case s2 => k_is); (case s3 => k_is)
    (case xa0 => k_is); (case xa1 => k_is); (case xa2 => k_is); (case xa3 => k_is); (case xb0 => k_is); (case xb1 => first | rfl | kernel_rfl); (case xb2 => k_is); (case xb3 => k_is)
    (case xb4 => k_is); (case xb5 => k_is); (case xb6 => k_is); (case xc0 => k_is); (case xc1 => k_is); (case xc2 => k_is); (case xd0 => k_is); (case xd1 => k_is)
    (case xd2 => k_is); (case xe0 => k_is); (case xe1 => k_is); (case xe2 => k_is); (case xe3 => k_is); (case xe4 => k_is); (case xe5 => k_is); (case xe6 => k_is)
    (case xe7 => k_is); (case xf0 => first | k_is | rfl | decide +kernel); (case xf1 => first | k_is | rfl | decide +kernel); (case xf2 => first | k_is | rfl | decide +kernel); (case xf3 => first | k_is | rfl | decide +kernel)
