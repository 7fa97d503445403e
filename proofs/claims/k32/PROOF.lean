import PyProof.Rows.All
import Wide.All
import OpenK.AllK
import Wide.FinOn
import Lean
import PyProof.EqAt
import PyProof.EqKinds
import PyProof.TupleCall
import PyProof.StrReplace2
import PyProof.DictItems
import PyProof.EnumStmt
import PyProof.EnumFor
import PyProof.DictItemsLoops
import PyProof.ZipIter
import PyProof.IsRules
import PyProof.Rows.SortRev
import KE.KIntText
import OpenK.KRaise
import KE.TryInHelper
import PyProof.RulesRaise
import PyProof.Rows.RaiseClass
import PyProof.RaisesMany
import PyProof.ExcClass3
import PyProof.ExcBaseAll.ValueError
import KE.KTryMore
import PyProof.InstStoreFacts
import OpenK.KMake
import PyProof.ExcAttrAll.ValueError
import KE.KIsAll
import OpenK.KWalk
import OpenK.KDescr
import PyProof.PureStr
import PySem.Challenge.RW_cabinet_k32_paths_read
set_option Elab.async false
set_option linter.all false
set_option maxRecDepth 100000
set_option maxHeartbeats 4000000
namespace L2
open PySem PySem.Spec PyProof.Rows
/-- a key: an int or a str -/
abbrev Key := Sum Int Str
def keyIs : Key → Value → Bool
  | .inl k, v => Value.isInt k v
  | .inr x, v => Value.isStrOf x v
def keyH (w : World) : Key → Int
  | .inl k => hashInt k
  | .inr x => hashStr w x
theorem keyIs_shape : ∀ {k : Key} {v : Value}, keyIs k v = true → (∃ i t, k = Sum.inl i ∧ v = Value.int i t) ∨ (∃ x t, k = Sum.inr x ∧ v = Value.str x t)
  | .inl i, v, h => by
    obtain ⟨t, e⟩ := Value.isInt_shape (k := i) (v := v) h
    exact .inl ⟨i, t, rfl, e⟩
  | .inr x, v, h => by
    obtain ⟨t, e⟩ := Value.isStrOf_shape (x := x) (v := v) h
    exact .inr ⟨x, t, rfl, e⟩
theorem keyIs_int (i : Int) (t : Tok) : keyIs (.inl i) (.int i t) = true := by simp [keyIs, Value.isInt]
theorem keyIs_str (x : Str) (t : Tok) : keyIs (.inr x) (.str x t) = true := by simp [keyIs, Value.isStrOf]
theorem key_ll (a b : Int) : decide ((Sum.inl a : Key) = Sum.inl b) = (a == b) := by
  by_cases e : a = b
  · subst e; simp
  · have h : ¬ (Sum.inl a : Key) = Sum.inl b := fun q => e (Sum.inl.inj q)
    rw [decide_eq_false h]
    exact (beq_eq_false_iff_ne.mpr e).symm
theorem key_rr (a b : Str) : decide ((Sum.inr a : Key) = Sum.inr b) = decide (a = b) := by
  by_cases e : a = b
  · subst e; simp
  · have h : ¬ (Sum.inr a : Key) = Sum.inr b := fun q => e (Sum.inr.inj q)
    rw [decide_eq_false h, decide_eq_false e]
theorem key_lr (a : Int) (b : Str) : decide ((Sum.inl a : Key) = Sum.inr b) = false := decide_eq_false (fun q => nomatch q)
theorem key_rl (a : Str) (b : Int) : decide ((Sum.inr a : Key) = Sum.inl b) = false := decide_eq_false (fun q => nomatch q)
def mixKind (prog : Program) (w : World) : PySem.KeyKind prog w Key where
  is := keyIs
  hash := keyH w
  inj := fun v a b ha hb => by
    rcases keyIs_shape ha with ⟨i, t, rfl, rfl⟩ | ⟨x, t, rfl, rfl⟩
    · rcases keyIs_shape hb with ⟨j, u, rfl, e⟩ | ⟨y, u, rfl, e⟩
      · injection e with e1 _; rw [e1]
      · exact nomatch e
    · rcases keyIs_shape hb with ⟨j, u, rfl, e⟩ | ⟨y, u, rfl, e⟩
      · exact nomatch e
      · injection e with e1 _; rw [e1]
  byValue := fun k v h => by
    rcases keyIs_shape h with ⟨i, t, rfl, rfl⟩ | ⟨x, t, rfl, rfl⟩ <;> rfl
  pyHash := fun hv h => by
    rcases keyIs_shape hv with ⟨i, t, rfl, rfl⟩ | ⟨x, t, rfl, rfl⟩
    · exact wpAny_pyHash_int h
    · exact wpAny_pyHash_str h
  eqBool := fun hu hv h => by
    rcases keyIs_shape hu with ⟨i, t, rfl, rfl⟩ | ⟨x, t, rfl, rfl⟩
    · rcases keyIs_shape hv with ⟨j, u, rfl, rfl⟩ | ⟨y, u, rfl, rfl⟩
      · rw [key_ll] at h; exact wpAny_eqBool_int h
      · rw [key_lr] at h; exact SeqAt.EqAt.int_str i t y u _ _ _ _ h
    · rcases keyIs_shape hv with ⟨j, u, rfl, rfl⟩ | ⟨y, u, rfl, rfl⟩
      · rw [key_rl] at h; exact SeqAt.EqAt.str_int x t j u _ _ _ _ h
      · rw [key_rr] at h; exact wpAny_eqBool_str h
  «strs» := fun k x t v h => by
    rcases keyIs_shape h with ⟨i, u, rfl, e⟩ | ⟨y, u, rfl, e⟩
    · exact nomatch e
    · injection e with e1 _
      subst e1
      cases v <;> rfl
theorem mixKind_int (prog : Program) (w : World) (i : Int) (t : Tok) : (mixKind prog w).is (.inl i) (.int i t) = true := keyIs_int i t
theorem mixKind_str (prog : Program) (w : World) (x : Str) (t : Tok) : (mixKind prog w).is (.inr x) (.str x t) = true := keyIs_str x t
end L2
namespace L2
open PySem PySem.Spec PyProof.Rows
/-- a value, without the heap -/
inductive V where
  | non | bl (b : Bool) | int (i : Int) | str (x : Str) | byt (b : Array UInt8) | flt (b : UInt64) | ref (a : Addr) | ty (n : String)
  deriving DecidableEq
def RelV : V → Value → Prop
  | .non, u => u = Value.none
  | .bl b, u => u = Value.bool b
  | .int i, u => ∃ t, u = Value.int i t
  | .str x, u => ∃ t, u = Value.str x t
  | .byt b, u => ∃ t, u = Value.bytes b t
  | .flt b, u => ∃ t, u = Value.float b t
  | .ref a, u => u = Value.ref a
  | .ty n, u => u = Value.type n
abbrev Vals : List V → List Value → Prop := Paired RelV
theorem Vals.length {xs : List V} {us : List Value} (r : Vals xs us) : xs.length = us.length := Paired.length r
theorem Vals.get : ∀ {xs : List V} {us : List Value} {i : Nat} {x : V}, Vals xs us → xs[i]? = some x → ∃ u, us[i]? = some u ∧ RelV x u
  | _, _, _, _, .nil, e => by simp at e
  | _, _, 0, _, .cons r _, e => by simp at e; subst e; exact ⟨_, rfl, r⟩
  | _, _, i + 1, x, .cons _ t, e => by
    obtain ⟨u, h1, h2⟩ := Vals.get (i := i) (x := x) t (by simpa using e)
    exact ⟨u, by simpa using h1, h2⟩
theorem Vals.set {x : V} {u : Value} (r : RelV x u) : ∀ {xs : List V} {us : List Value} (i : Nat), Vals xs us → Vals (xs.set i x) (us.set i u)
  | _, _, _, .nil => .nil
  | _, _, 0, .cons _ t => .cons r t
  | _, _, i + 1, .cons q t => .cons q (Vals.set r i t)
theorem Vals.append : ∀ {xs ys : List V} {us ws : List Value}, Vals xs us → Vals ys ws → Vals (xs ++ ys) (us ++ ws)
  | _, _, _, _, .nil, s => s
  | _, _, _, _, .cons r t, s => .cons r (Vals.append t s)
theorem Vals.take : ∀ {xs : List V} {us : List Value} (n : Nat), Vals xs us → Vals (xs.take n) (us.take n)
  | _, _, 0, _ => .nil
  | _, _, _ + 1, .nil => .nil
  | _, _, n + 1, .cons r t => .cons r (Vals.take n t)
theorem Vals.drop : ∀ {xs : List V} {us : List Value} (n : Nat), Vals xs us → Vals (xs.drop n) (us.drop n)
  | _, _, 0, r => r
  | _, _, _ + 1, .nil => .nil
  | _, _, n + 1, .cons _ t => Vals.drop n t
theorem Vals.none_of : ∀ {xs : List V} {us : List Value} {i : Nat}, Vals xs us → xs[i]? = none → us[i]? = none := fun {xs us i} r e => by
  have h1 := r.length
  have h2 : xs.length ≤ i := List.getElem?_eq_none_iff.mp e
  exact List.getElem?_eq_none_iff.mpr (by omega)
def RelO : Option V → Option Value → Prop
  | some v, some u => RelV v u
  | none, none => True
  | _, _ => False
def KV {κ : Type} : List (κ × V) → List (κ × Value) → Prop := Paired fun (p : κ × V) (q : κ × Value) => p.1 = q.1 ∧ RelV p.2 q.2
/-- a key of a dict (00_mix): an int or a text -/
def kV : Key → V
  | .inl i => .int i
  | .inr x => .str x
/-- what stands at a tracked address -/
inductive HO where
  /-- a list -/
  | lst (xs : List V)
  /-- a tuple (never changes) -/
  | tup (xs : List V)
  /-- a dict whose keys are ints and texts; one whose keys are tuples of ints and texts (the empty one is both) -/
  | dK (kvs : List (Key × V)) | dT (kvs : List (List Key × V))
  /-- a set of ints: its members, its size -/
  | set (S : Int → Bool) (n : Nat)
  /-- an instance of the class at C, its dict at dx, its attributes -/
  | ins (C dx : Addr) (fs : List (Str × V))
  /-- the dict of the instance at x -/
  | own (x : Addr)
  /-- the dict of an exception -/
  | xd (fs : List (Str × V))
  /-- a bound method, f of x -/
  | met (f x : Addr)
  /-- a range object lo, lo + 1, .. below hi -/
  | rng (lo hi : Int)
  /-- a thing that is known to the object (the script; a dict while a loop walks it): read, never written while it is so -/
  | frz (o : Obj) (u : HO)
  /-- a code object's table -/
  | tbl (ps : Array Value)
  /-- any other thing, by what is true of its one object (a def of one's own: SetO a S n := HO.ext fun h => ..) -/
  | ext (φ : Heap → Prop)
abbrev Hp := Addr → Option HO
def upd (H : Hp) (a : Addr) (o : HO) : Hp := fun b => if b = a then some o else H b
theorem upd_same {H : Hp} {a : Addr} {o : HO} : upd H a o a = some o := by unfold upd; rw [if_pos rfl]
theorem upd_ne {H : Hp} {a b : Addr} {o : HO} (h : b ≠ a) : upd H a o b = H b := by unfold upd; rw [if_neg h]
theorem ne_of_none {H : Hp} {a b : Addr} {o : HO} (h : H a = some o) (h' : H b = none) : a ≠ b := by
  intro e; subst e; rw [h] at h'; cases h'
section
variable (P : Program) (w : World)
def ObjOk (H : Hp) (h : Heap) (a : Addr) : HO → Prop
  | .lst xs => xs.length ≤ sizeLine ∧ ∃ (its : List Value) (n : Nat), Vals xs its ∧ h.get? a = some { cls := .type "list", data := .seq its.toArray n }
  | .tup xs => xs.length ≤ sizeLine ∧ ∃ its : List Value, Vals xs its ∧ IsTup h a its.toArray
  | .dK kvs => kvs.length ≤ sizeLine ∧ (a == sysModules) = false ∧ ∃ vs, KV kvs vs ∧ h.DictOf (mixKind P w) a vs
  | .dT kvs => kvs.length ≤ sizeLine ∧ (a == sysModules) = false ∧ ∃ xs : List (List Key × Addr × Value),
      Paired (fun (p : List Key × V) (q : List Key × Addr × Value) => p.1 = q.1 ∧ H q.2.1 = some (.tup (p.1.map kV)) ∧ RelV p.2 q.2.2) kvs xs ∧
      ∃ o es ep, h.get? a = some o ∧ o.ExactDict ∧ o.data = .dict es ep ∧ es.toList = xs.map (entryOfKey (tupleKind (mixKind P w))) ∧ (xs.map (·.1)).Nodup
  | .set S n => h.SetOf (intKind P w) a S n
  | .ins C dx fs => H dx = some (.own a) ∧ fs.length ≤ 1000 ∧ dx ≠ a ∧ h.get? a = some (PySem.W.instObj C dx) ∧
      ∃ mA, h.Ns1 dx mA ∧ (∀ f, RelO (fs.lookup f) (mA f)) ∧ PySem.Within mA (fs.map (·.1))
  | .own _ => ∃ o, h.get? a = some o
  | .xd fs => ∃ mA, h.Ns1 a mA ∧ ∀ f, RelO (fs.lookup f) (mA f)
  | .rng lo hi => ∃ t u v, h.get? a = some { cls := .type "range", data := .fields #[.int lo t, .int hi u, .int 1 v] }
  | .frz o u => h.get? a = some o ∧ ObjOk H h a u
  | .tbl ps => h.get? a = some { cls := .none, data := .fields ps }
  | .met f x => h.get? a = some (PySem.W.methodObj (.ref f) (.ref x))
  | .ext φ => φ h ∧ (∃ o, h.get? a = some o) ∧ ∀ h1 h2 : Heap, φ h1 → (∀ o, h1.get? a = some o → h2.get? a = some o) → φ h2
/-- the abstract heap is held -/
def HOk (H : Hp) (h : Heap) : Prop := ∀ a o, H a = some o → ObjOk P w H h a o
end
section
variable {P : Program} {w : World} {H H' : Hp} {h h' : Heap} {a : Addr} {o : HO}
theorem ObjOk.lt (x : ObjOk P w H h a o) : a < h.objs.size := by
  cases o with
  | lst xs => obtain ⟨_, _, _, _, e⟩ := x; exact Heap.lt_size e
  | tup xs => obtain ⟨_, _, _, p⟩ := x; exact p.lt
  | dK kvs => obtain ⟨_, _, _, _, o, _, _, e, _⟩ := x; exact Heap.lt_size e
  | dT kvs => obtain ⟨_, _, _, _, o, _, _, e, _⟩ := x; exact Heap.lt_size e
  | set S n => obtain ⟨o, _, _, _, e, _⟩ := x; exact Heap.lt_size e
  | ins C dx fs => obtain ⟨_, _, _, e, _⟩ := x; exact Heap.lt_size e
  | own y => obtain ⟨_, e⟩ := x; exact Heap.lt_size e
  | xd fs => obtain ⟨_, ⟨_, _, _, e, _⟩, _⟩ := x; exact Heap.lt_size e
  | rng lo hi => obtain ⟨_, _, _, e⟩ := x; exact Heap.lt_size e
  | frz ob u => obtain ⟨e, _⟩ := x; exact Heap.lt_size e
  | tbl ps => exact Heap.lt_size (show h.get? a = some _ from x)
  | met f y => exact Heap.lt_size (show h.get? a = some _ from x)
  | ext φ => obtain ⟨_, ⟨_, e⟩, _⟩ := x; exact Heap.lt_size e
theorem Paired.mapP {α β : Type} {F G : α → β → Prop} : ∀ {l₁ : List α} {l₂ : List β}, Paired F l₁ l₂ → (∀ a b, F a b → G a b) → Paired G l₁ l₂
  | _, _, .nil, _ => .nil
  | _, _, .cons r t, f => .cons (f _ _ r) (Paired.mapP t f)
/-- what an object's description leans on: its own object, its own dict, the tuples -/
theorem ObjOk.stay (x : ObjOk P w H h a o) (k : ∀ b u, (b = a ∨ H b = some (.own a)) → h.get? b = some u → h'.get? b = some u)
    (ho : ∀ b, H b = some (.own a) → H' b = some (.own a)) (ht : ∀ b xs, H b = some (.tup xs) → H' b = some (.tup xs)) : ObjOk P w H' h' a o := by
  induction o with
  | lst xs => obtain ⟨z, its, n, r, e⟩ := x; exact ⟨z, its, n, r, k _ _ (.inl rfl) e⟩
  | tup xs => obtain ⟨z, its, r, ob, e, c⟩ := x; exact ⟨z, its, r, ob, k _ _ (.inl rfl) e, c⟩
  | dK kvs => obtain ⟨z, y, vs, r, ob, es, ep, e, c⟩ := x; exact ⟨z, y, vs, r, ob, es, ep, k _ _ (.inl rfl) e, c⟩
  | dT kvs =>
    obtain ⟨z, y, xs, r, ob, es, ep, e, c⟩ := x
    exact ⟨z, y, xs, Paired.mapP r fun p q z => ⟨z.1, ht _ _ z.2.1, z.2.2⟩, ob, es, ep, k _ _ (.inl rfl) e, c⟩
  | set S n => obtain ⟨ob, es, ep, t, e, c⟩ := x; exact ⟨ob, es, ep, t, k _ _ (.inl rfl) e, c⟩
  | ins C dx fs =>
    obtain ⟨d, z, ne, e, mA, ⟨od, es, ep, e2, c⟩, r⟩ := x
    exact ⟨ho _ d, z, ne, k _ _ (.inl rfl) e, mA, ⟨od, es, ep, k _ _ (.inr d) e2, c⟩, r⟩
  | own y => obtain ⟨ob, e⟩ := x; exact ⟨ob, k _ _ (.inl rfl) e⟩
  | xd fs => obtain ⟨mA, ⟨od, es, ep, e, c⟩, r⟩ := x; exact ⟨mA, ⟨od, es, ep, k _ _ (.inl rfl) e, c⟩, r⟩
  | rng lo hi => obtain ⟨t, u, v, e⟩ := x; exact ⟨t, u, v, k _ _ (.inl rfl) e⟩
  | frz ob u ih => obtain ⟨e, q⟩ := x; exact ⟨k _ _ (.inl rfl) e, ih q⟩
  | tbl ps =>
    have e : h.get? a = some { cls := .none, data := .fields ps } := x
    show h'.get? a = some { cls := .none, data := .fields ps }
    exact k a _ (.inl rfl) e
  | met f y =>
    have e : h.get? a = some (PySem.W.methodObj (.ref f) (.ref y)) := x
    show h'.get? a = some (PySem.W.methodObj (.ref f) (.ref y))
    exact k a _ (.inl rfl) e
  | ext φ => obtain ⟨p, ⟨o, e⟩, st⟩ := x; exact ⟨st _ _ p fun o q => k _ _ (.inl rfl) q, ⟨o, k _ _ (.inl rfl) e⟩, st⟩
theorem HOk.lt (x : HOk P w H h) (e : H a = some o) : a < h.objs.size := (x a o e).lt
theorem HOk.fresh (x : HOk P w H h) (e : h.objs.size ≤ a) : H a = none := by
  cases q : H a with
  | none => rfl
  | some u => exact absurd (Nat.lt_of_lt_of_le (x.lt q) e) (Nat.lt_irrefl _)
/-- every object of the heap is kept -/
theorem HOk.kept (x : HOk P w H h) (k : ∀ b u, h.get? b = some u → h'.get? b = some u) : HOk P w H h' := fun a o e =>
  (x a o e).stay (fun b u _ q => k b u q) (fun _ q => q) fun _ _ q => q
/-- a new object is laid and tracked -/
theorem HOk.laid (x : HOk P w H h) (k : ∀ b u, h.get? b = some u → h'.get? b = some u) (hp : h.objs.size ≤ a) (new : ObjOk P w (upd H a o) h' a o) : HOk P w (upd H a o) h' := fun b u e => by
  have hn := x.fresh hp
  by_cases hb : b = a
  · subst hb; rw [upd_same] at e; cases e; exact new
  · rw [upd_ne hb] at e
    exact (x b u e).stay (fun c v _ q => k c v q) (fun c q => by rw [upd_ne (ne_of_none q hn)]; exact q) fun c xs q => by rw [upd_ne (ne_of_none q hn)]; exact q
end
/-- what may be read as u: it is u, or a known u -/
def Rd (H : Hp) (a : Addr) (u : HO) : Prop := H a = some u ∨ ∃ o, H a = some (.frz o u)
theorem Rd.of {H : Hp} {a : Addr} {u : HO} (h : H a = some u) : Rd H a u := .inl h
theorem Rd.ok {P : Program} {w : World} {H : Hp} {h : Heap} {a : Addr} {u : HO} (r : Rd H a u) (x : HOk P w H h) : ObjOk P w H h a u := by
  rcases r with r | ⟨o, r⟩
  · exact x a u r
  · obtain ⟨_, q⟩ := x a _ r
    exact q
/-- what may be written -/
def Mut : Option HO → Prop
  | some (.lst _) => True
  | some (.dK _) => True
  | some (.dT _) => True
  | some (.set _ _) => True
  | some (.ins _ _ _) => True
  | some (.ext _) => True
  | _ => False
section
variable {P : Program} {w : World} {H : Hp} {h h' : Heap} {x e : Addr} {o' : HO}
/-- the object at e is changed: x itself, or the dict of the instance x -/
theorem HOk.write (ok : HOk P w H h) (mu : Mut (H x)) (he : e = x ∨ H e = some (.own x)) (k : ∀ b u, b ≠ e → h.get? b = some u → h'.get? b = some u) (heo : ∃ u, h'.get? e = some u)
    (new : ObjOk P w (upd H x o') h' x o') : HOk P w (upd H x o') h' := fun b u q => by
  have nown : ∀ c y, H c = some (.own y) → c ≠ x := fun c y r z => by subst z; rw [r] at mu; exact mu
  have ntup : ∀ c xs, H c = some (.tup xs) → c ≠ x := fun c xs r z => by subst z; rw [r] at mu; exact mu
  by_cases hb : b = x
  · subst hb; rw [upd_same] at q; cases q; exact new
  · rw [upd_ne hb] at q
    by_cases hbe : b = e
    · have q' : H b = some (.own x) := by
        rcases he with z | z
        · exact absurd (hbe.trans z) hb
        · rw [hbe]; exact z
      rw [q] at q'; cases q'
      obtain ⟨v, hv⟩ := heo
      exact ⟨v, by rw [hbe]; exact hv⟩
    · refine (ok b u q).stay (fun c v hc r => k c v ?_ r) (fun c r => by rw [upd_ne (nown c b r)]; exact r) fun c xs r => by rw [upd_ne (ntup c xs r)]; exact r
      rcases hc with rfl | hc
      · exact hbe
      · rintro rfl
        rcases he with z | z
        · exact nown c b hc z
        · rw [hc] at z; cases z; exact hb rfl
end
structure Un (fs ex : List Addr) (H H' : Hp) (h h' : Heap) : Prop where
  keep : ∀ b o, h.get? b = some o → H b = none → b ∉ fs → b ∉ ex → h'.get? b = some o
  slot : ∀ b o, h.get? b = some o → H b = none → b ∈ fs → b ∉ ex → ∃ sl, h'.get? b = some { o with slots := sl }
  free : ∀ b o, h.get? b = some o → H b = none → b ∉ ex → H' b = none
  there : ∀ b o, h.get? b = some o → b ∉ ex → ∃ o', h'.get? b = some o'
  tups : ∀ b xs, H b = some (.tup xs) → H' b = some (.tup xs)
  frzs : ∀ b o u, H b = some (.frz o u) → H' b = some (.frz o u)
  tbls : ∀ b ps, H b = some (.tbl ps) → ∃ more, H' b = some (.tbl (ps ++ more))
section
variable {fs fs' ex ex' : List Addr} {H H1 H2 : Hp} {h h1 h2 h' : Heap} {a x e : Addr} {o : HO}
theorem Un.any (u : Un fs ex H H1 h h1) {b : Addr} {ob : Obj} (q : h.get? b = some ob) (n : H b = none) (hx : b ∉ ex) : ∃ sl, h1.get? b = some { ob with slots := sl } := by
  by_cases hb : b ∈ fs
  · exact u.slot b ob q n hb hx
  · exact ⟨ob.slots, u.keep b ob q n hb hx⟩
theorem Un.trans (a : Un fs ex H H1 h h1) (b : Un fs ex H1 H2 h1 h2) : Un fs ex H H2 h h2 where
  keep := fun c ob q n hc hx => b.keep c ob (a.keep c ob q n hc hx) (a.free c ob q n hx) hc hx
  slot := fun c ob q n hc hx => by
    obtain ⟨sl, e1⟩ := a.slot c ob q n hc hx
    obtain ⟨sl', e2⟩ := b.slot c _ e1 (a.free c ob q n hx) hc hx
    exact ⟨sl', e2⟩
  free := fun c ob q n hx => by
    obtain ⟨o', e1⟩ := a.there c ob q hx
    exact b.free c o' e1 (a.free c ob q n hx) hx
  there := fun c ob q hx => by
    obtain ⟨o', e1⟩ := a.there c ob q hx
    exact b.there c o' e1 hx
  tups := fun c xs q => b.tups c xs (a.tups c xs q)
  frzs := fun c ob xs q => b.frzs c ob xs (a.frzs c ob xs q)
  tbls := fun c ps q => by
    obtain ⟨m1, e1⟩ := a.tbls c ps q
    obtain ⟨m2, e2⟩ := b.tbls c _ e1
    exact ⟨m1 ++ m2, by rw [e2, Array.append_assoc]⟩
theorem Un.kept (k : ∀ b u, h.get? b = some u → h'.get? b = some u) : Un fs ex H H h h' :=
  ⟨fun b ob q _ _ _ => k b ob q, fun b ob q _ _ _ => ⟨ob.slots, k b ob q⟩, fun _ _ _ n _ => n, fun b ob q _ => ⟨ob, k b ob q⟩, fun _ _ q => q, fun _ _ _ q => q, fun _ ps q => ⟨#[], by rw [q]; simp⟩⟩
theorem Un.refl : Un fs ex H H h h := Un.kept fun _ _ q => q
theorem Un.laid (k : ∀ b u, h.get? b = some u → h'.get? b = some u) (hp : h.objs.size ≤ a) (hn : H a = none) : Un fs ex H (upd H a o) h h' where
  keep := fun b u q _ _ _ => k b u q
  slot := fun b u q _ _ _ => ⟨u.slots, k b u q⟩
  free := fun b u q n _ => by rw [upd_ne (Nat.ne_of_lt (Nat.lt_of_lt_of_le (Heap.lt_size q) hp))]; exact n
  there := fun b u q _ => ⟨u, k b u q⟩
  tups := fun b xs q => by rw [upd_ne (ne_of_none q hn)]; exact q
  frzs := fun b u xs q => by rw [upd_ne (ne_of_none q hn)]; exact q
  tbls := fun b ps q => ⟨#[], by rw [upd_ne (ne_of_none q hn), q]; simp⟩
theorem Un.write (mu : Mut (H x)) (he : e = x ∨ H e = some (.own x)) (k : ∀ b u, b ≠ e → h.get? b = some u → h'.get? b = some u) (heo : ∃ u, h'.get? e = some u) : Un fs ex H (upd H x o) h h' := by
  have hx : ∀ b, H b = none → b ≠ x := fun b n z => by subst z; rw [n] at mu; exact mu
  have hb : ∀ b, H b = none → b ≠ e := fun b n z => by
    subst z
    rcases he with r | r
    · exact hx b n r
    · rw [n] at r; cases r
  have hm : ∀ b u, H b = some u → ¬ Mut (some u) → b ≠ x := fun b u q nm z => by subst z; rw [q] at mu; exact nm mu
  refine ⟨fun b u q n _ _ => k b u (hb b n) q, fun b u q n _ _ => ⟨u.slots, k b u (hb b n) q⟩, fun b u q n _ => by rw [upd_ne (hx b n)]; exact n, fun b u q _ => ?_,
    fun b xs q => by rw [upd_ne (hm b _ q fun z => z)]; exact q, fun b u xs q => by rw [upd_ne (hm b _ q fun z => z)]; exact q, fun b ps q => ⟨#[], by rw [upd_ne (hm b _ q fun z => z), q]; simp⟩⟩
  by_cases hbe : b = e
  · subst hbe; exact heo
  · exact ⟨u, k b u hbe q⟩
theorem Un.mono (u : Un fs ex H H1 h h1) (hs : ∀ b ∈ fs, b ∈ fs') (hx : ∀ b ∈ ex, b ∈ ex') : Un fs' ex' H H1 h h1 :=
  ⟨fun b ob q n hb he => u.keep b ob q n (fun z => hb (hs b z)) fun z => he (hx b z), fun _ _ q n _ he => u.any q n fun z => he (hx _ z), fun b ob q n he => u.free b ob q n fun z => he (hx b z), fun b ob q he => u.there b ob q fun z => he (hx b z), u.tups, u.frzs, u.tbls⟩
end
def trk (h : Heap) (H : Hp) : List Addr := (List.range h.objs.size).filter fun a => (H a).isSome
def hidT (h : Heap) (H : Hp) : Heap := PySem.W.hideAll h (trk h H)
theorem hidT_size (h : Heap) (H : Hp) : (hidT h H).objs.size = h.objs.size := PySem.W.hideAll_size _ _
theorem hidT_get {h : Heap} {H : Hp} {b : Addr} {o : Obj} (e : h.get? b = some o) (n : H b = none) : (hidT h H).get? b = some o :=
  PySem.W.hideAll_get _ e fun hm => by
    have q : (H b).isSome = true := (List.mem_filter.mp hm).2
    rw [n] at q; simp at q
theorem of_hidT {h : Heap} {H : Hp} {b : Addr} {o : Obj} (e : (hidT h H).get? b = some o) : h.get? b = some o ∧ H b = none := by
  have e' : h.get? b = some o := PySem.W.of_hideAll (trk h H) e
  refine ⟨e', ?_⟩
  cases q : H b with
  | none => rfl
  | some x =>
    have hm : b ∈ trk h H := List.mem_filter.mpr ⟨List.mem_range.mpr (Heap.lt_size e'), by simp [q]⟩
    have z : (hidT h H).get? b = none := PySem.W.hideAll_none (trk h H) hm
    rw [z] at e; cases e
def allNews (g h : Heap) (L : Addr) : List (Addr × Obj) := (List.range h.objs.size).filterMap fun a => if a = L ∨ (g.get? a).isSome = true then none else (h.get? a).map fun o => (a, o)
def rest (g h : Heap) (L d : Addr) : List (Addr × Obj) := (allNews g h L).filter fun p => decide (p.1 ≠ d)
end L2
namespace L2
open PySem PySem.Spec PyProof.Rows
/-- the module's facts, over the base: the heap at the law's entry without what is tracked there -/
structure Mod (K : PySem.W.Frag) (mg : Str → Option Value) (base : Heap) : Prop where
  kin : K.In base
  glob : base.Ns mainGlobals mg
  blt : ∃ mb, base.Ns builtinsNs mb ∧ ∀ x : Str, x ≠ "__name__" → mb x = bootBuiltins x
  nolimit : base.NoLimit
/-- the context: a def's body (or a comprehension's block) running. base: fixed through the whole law; s₀, H₀: the entry; outer: the frames whose slots others may change (a def's callers); stack: all frames that run;
   ex: iterators that were made ahead of the entry and are walked here (a comprehension's); fn: the names whose cells were made at the entry (a def: all; a comprehension's block: its own); calm: not within an except suite; pn: pins that every state bears; xe: what is wanted of an exception that leaves the code -/
structure Cx where
  prog : Program
  w : World
  K : PySem.W.Frag
  mg : Str → Option Value
  base : Heap
  A : Around
  N : List Str
  s₀ : Shared
  H₀ : Hp
  env : Env
  outer : List Env
  stack : List Env
  ex : List Addr
  fn : Str → Bool
  calm : Bool
  pn : List (Addr × Obj)
  xe : Value → Shared → Prop
/-- the callers' frames -/
def frs (l : List Env) : List Addr := l.filterMap (·.frame)
abbrev Cx.fs (X : Cx) : List Addr := frs X.outer
def Vis (sc : Scope) (x : Str) : Prop := sc.names.lookup x = some .local ∨ sc.names.lookup x = some .cell ∨ sc.names.lookup x = some .free
def Loc (sc : Scope) (x : Str) : Prop := sc.names.lookup x = some .local ∨ sc.names.lookup x = some .cell
def Look (env : Env) (h : Heap) (m : Str → Option Value) (x : Str) (u : Value) : Prop :=
  (env.kindOf x = some .local ∧ m x = some u) ∨ ((env.kindOf x = some .cell ∨ env.kindOf x = some .free) ∧ ∃ c, env.cells.lookup x = some c ∧ h.IsCell c (some u))
structure Cx.Ok (X : Cx) : Prop where
  mod : Mod X.K X.mg X.base
  kind : X.env.scope.kind = .function
  glob : X.env.globals = mainGlobals
  blt : X.env.builtins = builtinsNs
  above : X.s₀.heap.objs.size ≤ X.env.locals
  inj : ∀ x y c, X.env.cells.lookup x = some c → X.env.cells.lookup y = some c → x = y
  has : ∀ x, (X.env.kindOf x = some .cell ∨ X.env.kindOf x = some .free) → ∃ c, X.env.cells.lookup x = some c
  cab : ∀ x c, X.fn x = true → X.env.cells.lookup x = some c → X.s₀.heap.objs.size ≤ c
  hd : X.calm = true → X.A.handled = none
  frames : X.A.frames = some X.stack
  stk : X.stack = X.outer ∨ (X.stack = X.env :: X.outer ∧ X.env.frame = some X.env.locals)
  exf : ∀ b ∈ X.ex, b ≠ X.env.locals ∧ ∀ x c, X.env.cells.lookup x = some c → c ≠ b
  bs : ∀ b o, X.base.get? b = some o → X.s₀.heap.get? b = some o ∧ X.H₀ b = none
  bsz : X.base.objs.size ≤ X.s₀.heap.objs.size
  noex : ∀ b o, X.base.get? b = some o → b ∉ X.ex
  exfs : ∀ b ∈ X.ex, b ∉ X.fs
  funs : X.s₀.heap.FunFrames X.base X.outer
  frf : ∀ b ∈ X.fs, X.H₀ b = none
structure Inv (X : Cx) (pins : List (Addr × Obj)) (σ : List (Option V)) (H : Hp) (s : Shared) : Prop where
  ok : X.Ok
  os : s.os = X.s₀.os
  bare : AllBare s.gens
  base : Un X.fs X.ex X.H₀ H X.s₀.heap s.heap
  loc : ∃ m, s.heap.Ns X.env.locals m ∧ ∀ (i : Nat) (x : Str) (v : V), X.N[i]? = some x → σ[i]? = some (some v) → Vis X.env.scope x → ∃ u, RelV v u ∧ Look X.env s.heap m x u
  cell : ∀ x c, X.env.cells.lookup x = some c → ∃ v, s.heap.IsCell c v
  free : H X.env.locals = none
  freeC : ∀ x c, X.env.cells.lookup x = some c → H c = none
  pin : ∀ p ∈ X.pn ++ pins, s.heap.get? p.1 = some p.2 ∧ H p.1 = none ∧ p.1 ≠ X.env.locals ∧ p.1 ∉ X.fs ∧ ∀ v, p.2.data ≠ .cell v
  hok : HOk X.prog X.w H s.heap
  len : σ.length = X.N.length
section
variable {X : Cx} {pins : List (Addr × Obj)} {σ : List (Option V)} {H H' : Hp} {s : Shared} {h' : Heap}
theorem Cx.Ok.nofr (ok : X.Ok) {b : Addr} {o : Obj} (e : X.base.get? b = some o) : b ∉ X.fs := fun hb => by
  have := (ok.funs.mem hb).1
  rw [e] at this; cases this
theorem Inv.bs (I : Inv X pins σ H s) : ∀ b o, X.base.get? b = some o → s.heap.get? b = some o ∧ H b = none := fun b o e =>
  ⟨I.base.keep b o (I.ok.bs b o e).1 (I.ok.bs b o e).2 (I.ok.nofr e) (I.ok.noex b o e), I.base.free b o (I.ok.bs b o e).1 (I.ok.bs b o e).2 (I.ok.noex b o e)⟩
theorem Inv.bk (I : Inv X pins σ H s) : ∀ b o, X.base.get? b = some o → s.heap.get? b = some o := fun b o e => (I.bs b o e).1
theorem Inv.mod (I : Inv X pins σ H s) : Mod X.K X.mg X.base := I.ok.mod
theorem Inv.kIn (I : Inv X pins σ H s) : X.K.In s.heap := I.ok.mod.kin.keeps I.bk
theorem Inv.nolimit (I : Inv X pins σ H s) : s.heap.NoLimit := I.ok.mod.nolimit.keeps I.bk
/-- the frame over the base: for OpenK's rules (K.In X.base is I.mod.kin) -/
theorem Inv.fr (I : Inv X pins σ H s) : ∃ m, Fr X.base X.env.locals s.heap m :=
  let ⟨m, hn, _⟩ := I.loc
  ⟨m, hn, I.bk, Nat.le_trans I.ok.bsz I.ok.above⟩
theorem Inv.lt (I : Inv X pins σ H s) : X.env.locals < s.heap.objs.size := let ⟨_, hn, _⟩ := I.loc; hn.lt
theorem Inv.sz (I : Inv X pins σ H s) : X.s₀.heap.objs.size ≤ s.heap.objs.size := Nat.le_trans I.ok.above (Nat.le_of_lt I.lt)
theorem Inv.nofs (I : Inv X pins σ H s) {a : Addr} (h : s.heap.objs.size ≤ a) : a ∉ X.fs := fun hb => by
  obtain ⟨_, o, ho, _⟩ := I.ok.funs.mem hb
  exact absurd (Nat.lt_of_lt_of_le (Heap.lt_size ho) (Nat.le_trans I.sz h)) (Nat.lt_irrefl _)
theorem Inv.cne (I : Inv X pins σ H s) : ∀ x c, X.env.cells.lookup x = some c → c ≠ X.env.locals := fun x c e z => by
  obtain ⟨v, o, ho, hd⟩ := I.cell x c e
  obtain ⟨m, ⟨o', es, ep, ho', hd', _⟩, _⟩ := I.loc
  rw [z, ho'] at ho; cases ho; rw [hd'] at hd; cases hd
theorem Inv.funs (I : Inv X pins σ H s) : s.heap.FunFrames X.base X.outer := by
  have all : ∀ (l : List Env), (∀ b ∈ frs l, b ∈ X.fs) → X.s₀.heap.FunFrames X.base l → s.heap.FunFrames X.base l := by
    intro l
    induction l with
    | nil => intro _ _; trivial
    | cons env r ih =>
      intro hs hl
      obtain ⟨hk, ⟨L, o, hf, hn, ho, hd⟩, hr⟩ := hl
      have hL : L ∈ X.fs := hs L (by unfold frs; rw [List.filterMap_cons, hf]; exact List.mem_cons_self)
      obtain ⟨sl, e⟩ := I.base.slot L o ho (I.ok.frf L hL) hL fun z => I.ok.exfs L z hL
      exact ⟨hk, ⟨L, _, hf, hn, e, hd⟩, ih (fun b hb => hs b (by unfold frs; rw [List.filterMap_cons, hf]; exact List.mem_cons_of_mem _ hb)) hr⟩
  exact all X.outer (fun _ hb => hb) I.ok.funs
/-- the frames that run, for a call -/
theorem Inv.stack (I : Inv X pins σ H s) : s.heap.FunFrames X.base X.stack := by
  rcases I.ok.stk with e | ⟨e, hf⟩
  · rw [e]; exact I.funs
  · rw [e]
    obtain ⟨m, hn, _⟩ := I.loc
    refine .cons (by rw [I.ok.kind]; decide) hf hn ?_ I.funs
    exact Heap.get?_none_of_le (Nat.le_trans I.ok.bsz I.ok.above)
theorem Inv.stkSub (I : Inv X pins σ H s) : ∀ b ∈ frs X.stack, b ∈ X.env.locals :: X.fs := fun b hb => by
  rcases I.ok.stk with e | ⟨e, hf⟩
  · rw [e] at hb; exact List.mem_cons_of_mem _ hb
  · rw [e] at hb
    unfold frs at hb
    rw [List.filterMap_cons, hf] at hb
    exact hb
theorem Inv.stkFree (I : Inv X pins σ H s) : ∀ b ∈ frs X.stack, H b = none := fun b hb => by
  rcases List.mem_cons.mp (I.stkSub b hb) with e | hb
  · rw [e]; exact I.free
  · obtain ⟨_, o, ho, _⟩ := I.ok.funs.mem hb
    exact I.base.free b o ho (I.ok.frf b hb) fun z => I.ok.exfs b z hb
/-- THE STEP: the untracked objects but the frame and the records at ch are kept (the callers' frames up to slots), the frame's map is kept, the new abstract heap is held -/
theorem Inv.step {g' : Array GenState} {t' : Nat} {d' : Drawn} {ch : List Addr} (I : Inv X pins σ H s)
    (hch : ∀ b ∈ ch, (b ∈ X.ex ∨ X.s₀.heap.objs.size ≤ b) ∧ b ≠ X.env.locals ∧ (∀ x c, X.env.cells.lookup x = some c → c ≠ b) ∧ ∀ p ∈ X.pn ++ pins, p.1 ≠ b)
    (keep : ∀ b o, b ≠ X.env.locals → b ∉ X.fs → b ∉ ch → s.heap.get? b = some o → H b = none → h'.get? b = some o)
    (slot : ∀ b o, b ≠ X.env.locals → b ∈ X.fs → b ∉ ch → s.heap.get? b = some o → H b = none → ∃ sl, h'.get? b = some { o with slots := sl }) (free : ∀ b o, b ∉ ch → s.heap.get? b = some o → H b = none → H' b = none)
    (there : ∀ b o, b ∉ ch → s.heap.get? b = some o → ∃ o', h'.get? b = some o')
    (tups : ∀ b xs, H b = some (.tup xs) → H' b = some (.tup xs)) (frzs : ∀ b o u, H b = some (.frz o u) → H' b = some (.frz o u)) (tbls : ∀ b ps, H b = some (.tbl ps) → ∃ more, H' b = some (.tbl (ps ++ more)))
    (ns : ∀ m, s.heap.Ns X.env.locals m → h'.Ns X.env.locals m) (hok : HOk X.prog X.w H' h') (hg : AllBare g') :
    Inv X pins σ H' { s with heap := h', gens := g', drawn := d', toks := t' } := by
  have neL : ∀ b o, X.s₀.heap.get? b = some o → b ≠ X.env.locals := fun b o e => Nat.ne_of_lt (Nat.lt_of_lt_of_le (Heap.lt_size e) I.ok.above)
  have neC : ∀ b o, X.s₀.heap.get? b = some o → b ∉ X.ex → b ∉ ch := fun b o e hx hb => by
    rcases (hch b hb).1 with z | z
    · exact hx z
    · exact absurd (Nat.lt_of_lt_of_le (Heap.lt_size e) z) (Nat.lt_irrefl _)
  have cellK : ∀ x c, X.env.cells.lookup x = some c → ∀ v, s.heap.IsCell c v → h'.IsCell c v := fun x c e v ⟨o, ho, hd⟩ => by
    have nch : c ∉ ch := fun z => (hch c z).2.2.1 x c e rfl
    by_cases hc : c ∈ X.fs
    · obtain ⟨sl, q⟩ := slot c o (I.cne x c e) hc nch ho (I.freeC x c e)
      exact ⟨_, q, hd⟩
    · exact ⟨o, keep c o (I.cne x c e) hc nch ho (I.freeC x c e), hd⟩
  refine ⟨I.ok, I.os, hg, ⟨fun b o e n hb hx => ?_, fun b o e n hb hx => ?_, fun b o e n hx => ?_, fun b o e hx => ?_, fun b xs e => tups b xs (I.base.tups b xs e), fun b o xs e => frzs b o xs (I.base.frzs b o xs e), fun b ps e => ?_⟩, ?_, fun x c e => ?_, ?_, fun x c e => ?_, fun p hp => ?_, hok, I.len⟩
  · exact keep b o (neL b o e) hb (neC b o e hx) (I.base.keep b o e n hb hx) (I.base.free b o e n hx)
  · obtain ⟨sl, e1⟩ := I.base.slot b o e n hb hx
    obtain ⟨sl', e2⟩ := slot b _ (neL b o e) hb (neC b o e hx) e1 (I.base.free b o e n hx)
    exact ⟨sl', e2⟩
  · obtain ⟨o', e1⟩ := I.base.there b o e hx
    exact free b o' (neC b o e hx) e1 (I.base.free b o e n hx)
  · obtain ⟨o', e1⟩ := I.base.there b o e hx
    exact there b o' (neC b o e hx) e1
  · obtain ⟨m1, e1⟩ := I.base.tbls b ps e
    obtain ⟨m2, e2⟩ := tbls b _ e1
    exact ⟨m1 ++ m2, by rw [e2, Array.append_assoc]⟩
  · obtain ⟨m, hn, hl⟩ := I.loc
    refine ⟨m, ns m hn, fun i x v e1 e2 e3 => ?_⟩
    obtain ⟨u, r, l⟩ := hl i x v e1 e2 e3
    refine ⟨u, r, ?_⟩
    rcases l with l | ⟨k, c, e, z⟩
    · exact .inl l
    · exact .inr ⟨k, c, e, cellK x c e _ z⟩
  · obtain ⟨v, z⟩ := I.cell x c e
    exact ⟨v, cellK x c e v z⟩
  · obtain ⟨m, ⟨o, _, _, ho, _⟩, _⟩ := I.loc
    exact free _ o (fun z => (hch _ z).2.1 rfl) ho I.free
  · obtain ⟨v, o, ho, hd⟩ := I.cell x c e
    exact free c o (fun z => (hch c z).2.2.1 x c e rfl) ho (I.freeC x c e)
  · obtain ⟨e, n, ne, nf, d⟩ := I.pin p hp
    have nch : p.1 ∉ ch := fun z => (hch p.1 z).2.2.2 p hp rfl
    exact ⟨keep p.1 p.2 ne nf nch e n, free p.1 p.2 nch e n, ne, nf, d⟩
/-- .. where the frame's own object is kept too -/
theorem Inv.un {t' : Nat} (I : Inv X pins σ H s) (u : Un X.fs [] H H' s.heap h') (hok : HOk X.prog X.w H' h') : Inv X pins σ H' { s with heap := h', toks := t' } := by
  obtain ⟨m, ⟨o, es, ep, ho, r⟩, _⟩ := id I.loc
  obtain ⟨sl, hL⟩ := u.any ho I.free (by simp)
  exact I.step (g' := s.gens) (d' := s.drawn) (ch := []) (fun _ z => nomatch z) (fun b o _ hb _ e n => u.keep b o e n hb (by simp)) (fun b o _ hb _ e n => u.slot b o e n hb (by simp)) (fun b o _ e n => u.free b o e n (by simp)) (fun b o _ e => u.there b o e (by simp)) u.tups u.frzs u.tbls (fun m' hm => by
    obtain ⟨o', es', ep', ho', r'⟩ := hm
    rw [ho] at ho'; cases ho'
    exact ⟨_, es', ep', hL, r'⟩) hok I.bare
/-- behind a call (or a comprehension's block): the slots of this frame may have changed too, the records at ch may have turned -/
theorem Inv.call {g' : Array GenState} {t' : Nat} {d' : Drawn} {ch : List Addr} (I : Inv X pins σ H s) (u : Un (frs X.stack) ch H H' s.heap h') (hok : HOk X.prog X.w H' h') (hg : AllBare g')
    (hch : ∀ b ∈ ch, (b ∈ X.ex ∨ X.s₀.heap.objs.size ≤ b) ∧ b ≠ X.env.locals ∧ (∀ x c, X.env.cells.lookup x = some c → c ≠ b) ∧ ∀ p ∈ X.pn ++ pins, p.1 ≠ b) :
    Inv X pins σ H' { s with heap := h', gens := g', drawn := d', toks := t' } := by
  obtain ⟨m, ⟨o, es, ep, ho, r⟩, _⟩ := id I.loc
  obtain ⟨sl, hL⟩ := u.any ho I.free fun z => (hch _ z).2.1 rfl
  exact I.step (ch := ch) hch (fun b o hL hb hc e n => u.keep b o e n (fun z => (List.mem_cons.mp (I.stkSub b z)).elim hL hb) hc) (fun b o _ _ hc e n => u.any e n hc) (fun b o hc e n => u.free b o e n hc) (fun b o hc e => u.there b o e hc) u.tups u.frzs u.tbls (fun m' hm => by
    obtain ⟨o', es', ep', ho', r'⟩ := hm
    rw [ho] at ho'; cases ho'
    exact ⟨_, es', ep', hL, r'⟩) hok hg
/-- an untracked record of ours (an iterator) has turned -/
theorem Inv.turned {t' : Nat} {it : Addr} (I : Inv X pins σ H s) (k : ∀ b o, b ≠ it → s.heap.get? b = some o → h'.get? b = some o) (hn : H it = none) (hL : it ≠ X.env.locals)
    (h1 : it ∈ X.ex ∨ X.s₀.heap.objs.size ≤ it) (h2 : ∀ x c, X.env.cells.lookup x = some c → c ≠ it) (h3 : ∀ p ∈ X.pn ++ pins, p.1 ≠ it) : Inv X pins σ H { s with heap := h', toks := t' } := by
  have nit : ∀ b u, H b = some u → b ≠ it := fun b u e z => by rw [z, hn] at e; cases e
  refine I.step (g' := s.gens) (d' := s.drawn) (ch := [it]) (fun b hb => ?_) (fun b o _ _ hc e _ => k b o (fun z => hc (by simp [z])) e) (fun b o _ _ hc e _ => ⟨o.slots, k b o (fun z => hc (by simp [z])) e⟩) (fun _ _ _ _ n => n)
    (fun b o hc e => ⟨o, k b o (fun z => hc (by simp [z])) e⟩) (fun _ _ e => e) (fun _ _ _ e => e) (fun b ps e => ⟨#[], by rw [e]; simp⟩) (fun m hm => ?_) (fun b u e => ?_) I.bare
  · have e : b = it := by simpa using hb
    subst e
    exact ⟨h1, hL, h2, h3⟩
  · obtain ⟨o, es, ep, ho, r⟩ := hm
    exact ⟨o, es, ep, k _ o (Ne.symm hL) ho, r⟩
  · refine (I.hok b u e).stay (fun c v hc q => k c v ?_ q) (fun _ q => q) fun _ _ q => q
    rcases hc with z | z
    · rw [z]; exact nit b u e
    · exact nit c _ z
theorem Inv.tok (I : Inv X pins σ H s) (t : Nat) : Inv X pins σ H { s with toks := t } := I.un (h' := s.heap) (t' := t) Un.refl I.hok
/-- all objects kept -/
theorem Inv.kept {t' : Nat} (I : Inv X pins σ H s) (k : ∀ b u, s.heap.get? b = some u → h'.get? b = some u) : Inv X pins σ H { s with heap := h', toks := t' } := I.un (Un.kept k) (I.hok.kept k)
/-- a new object laid and tracked -/
theorem Inv.laid {a : Addr} {o : HO} {t' : Nat} (I : Inv X pins σ H s) (k : ∀ b u, s.heap.get? b = some u → h'.get? b = some u) (hp : s.heap.objs.size ≤ a) (new : ObjOk X.prog X.w (upd H a o) h' a o) :
    Inv X pins σ (upd H a o) { s with heap := h', toks := t' } := I.un (Un.laid k hp (I.hok.fresh hp)) (I.hok.laid k hp new)
/-- an object written -/
theorem Inv.write {x e : Addr} {o : HO} {t' : Nat} (I : Inv X pins σ H s) (mu : Mut (H x)) (he : e = x ∨ H e = some (.own x)) (k : ∀ b u, b ≠ e → s.heap.get? b = some u → h'.get? b = some u) (heo : ∃ u, h'.get? e = some u)
    (new : ObjOk X.prog X.w (upd H x o) h' x o) : Inv X pins σ (upd H x o) { s with heap := h', toks := t' } := I.un (Un.write mu he k heo) (I.hok.write mu he k heo new)
/-- forgetting slots, pins -/
theorem Inv.weak {σ' : List (Option V)} (I : Inv X pins σ H s) (hl : σ'.length = σ.length) (w : ∀ (i : Nat) v, σ'[i]? = some (some v) → σ[i]? = some (some v)) : Inv X pins σ' H s :=
  ⟨I.ok, I.os, I.bare, I.base, let ⟨m, hn, hl'⟩ := I.loc; ⟨m, hn, fun i x v e1 e2 e3 => hl' i x v e1 (w i v e2) e3⟩, I.cell, I.free, I.freeC, I.pin, I.hok, hl.trans I.len⟩
theorem Inv.pins_of {pins' : List (Addr × Obj)} (I : Inv X pins σ H s) (h : ∀ p ∈ pins', s.heap.get? p.1 = some p.2 ∧ H p.1 = none ∧ p.1 ≠ X.env.locals ∧ p.1 ∉ X.fs ∧ ∀ v, p.2.data ≠ .cell v) : Inv X pins' σ H s :=
  ⟨I.ok, I.os, I.bare, I.base, I.loc, I.cell, I.free, I.freeC, fun p hp => (List.mem_append.mp hp).elim (fun z => I.pin p (List.mem_append_left _ z)) (h p), I.hok, I.len⟩
theorem nodup_ix {N : List Str} (hN : N.Nodup) {i j : Nat} {x : Str} (a : N[i]? = some x) (b : N[j]? = some x) : i = j := by
  obtain ⟨h1, e1⟩ := List.getElem?_eq_some_iff.mp a
  obtain ⟨h2, e2⟩ := List.getElem?_eq_some_iff.mp b
  exact (List.getElem_inj hN).mp (e1.trans e2.symm)
/-- a name is stored; what changed -/
theorem store_ok2 {M : Model} {A : Around} {E : Value → Shared → Prop} {i : Nat} {x : Str} {v : V} {u : Value} {Q : Unit → Shared → Prop} (I : Inv X pins σ H s) (hN : X.N.Nodup) (hi : X.N[i]? = some x) (hx : Loc X.env.scope x) (r : RelV v u)
    (h : ∀ s', Inv X pins (σ.set i (some v)) H s' → (∃ a, Heap.SameBut a s.heap s'.heap ∧ (a = X.env.locals ∨ X.env.cells.lookup x = some a)) → Q () s') (hf : X.fn x = true ∨ X.env.scope.names.lookup x = some .local := by first | exact .inl rfl | exact .inr rfl | assumption) : wpAny M A (storeName X.env x u) Q E s := by
  obtain ⟨m, hn, hl⟩ := id I.loc
  have hcls : (X.env.scope.kind == .class || (X.env.scope.kind == .module && X.env.locals != X.env.globals)) = false := by rw [I.ok.kind]; rfl
  have hiσ : i < σ.length := by rw [I.len]; exact (List.getElem?_eq_some_iff.mp hi).1
  have cne := I.cne
  have tracked : ∀ {a : Addr} {h' : Heap}, (∃ o, s.heap.get? a = some o ∧ H a = none) → Heap.SameBut a s.heap h' → HOk X.prog X.w H h' := fun {a h'} ha hs b ob e => by
    obtain ⟨_, _, hfree⟩ := ha
    refine (I.hok b ob e).stay (fun c w' hc q => (hs.2 c ?_).trans q) (fun _ q => q) fun _ _ q => q
    rintro rfl
    rcases hc with rfl | hc
    · rw [hfree] at e; cases e
    · rw [hfree] at hc; cases hc
  rcases hx with hk | hk
  · refine wpAny_storeName_local hk hn (fun h' hn' hs => ?_) hcls
    obtain ⟨oL, _, _, hoL, _⟩ := id hn
    refine h _ ⟨I.ok, I.os, I.bare, ⟨fun b o e n hb hx => ?_, fun b o e n hb hx => ?_, I.base.free, fun b o e hx => ?_, I.base.tups, I.base.frzs, I.base.tbls⟩, ⟨_, hn', fun j y v' e1 e2 e3 => ?_⟩, fun y c e => ?_, I.free, I.freeC, fun p hp => ?_, tracked ⟨oL, hoL, I.free⟩ hs, by simpa using I.len⟩ ⟨_, hs, .inl rfl⟩
    · exact (hs.2 b (Nat.ne_of_lt (Nat.lt_of_lt_of_le (Heap.lt_size e) I.ok.above))).trans (I.base.keep b o e n hb hx)
    · obtain ⟨sl, e1⟩ := I.base.slot b o e n hb hx
      exact ⟨sl, (hs.2 b (Nat.ne_of_lt (Nat.lt_of_lt_of_le (Heap.lt_size e) I.ok.above))).trans e1⟩
    · obtain ⟨o', e1⟩ := I.base.there b o e hx
      exact ⟨o', (hs.2 b (Nat.ne_of_lt (Nat.lt_of_lt_of_le (Heap.lt_size e) I.ok.above))).trans e1⟩
    · by_cases hj : j = i
      · subst hj
        rw [hi] at e1; cases e1
        rw [List.getElem?_set_self hiσ] at e2
        cases e2
        exact ⟨u, r, .inl ⟨hk, by simp⟩⟩
      · rw [List.getElem?_set_ne (Ne.symm hj)] at e2
        obtain ⟨u', r', q⟩ := hl j y v' e1 e2 e3
        refine ⟨u', r', ?_⟩
        rcases q with ⟨k, e⟩ | ⟨k, c, e, z⟩
        · refine .inl ⟨k, ?_⟩
          have : y ≠ x := fun e => hj (nodup_ix hN e1 (e ▸ hi))
          simp [this, e]
        · exact .inr ⟨k, c, e, z.sameBut hs (cne y c e)⟩
    · obtain ⟨w', z⟩ := I.cell y c e
      exact ⟨w', z.sameBut hs (cne y c e)⟩
    · obtain ⟨e, n, ne, nf, d⟩ := I.pin p hp
      exact ⟨(hs.2 p.1 ne).trans e, n, ne, nf, d⟩
  · have hfn : X.fn x = true := by
      rcases hf with z | z
      · exact z
      · rw [z] at hk; cases hk
    obtain ⟨c, hc⟩ := I.ok.has x (.inl hk)
    obtain ⟨w', z⟩ := I.cell x c hc
    refine wpAny_storeName_cell I.ok.kind hk hc z (fun h' hc' hs => ?_)
    obtain ⟨oc, hoc, hocd⟩ := id z
    refine h { s with heap := h' } ⟨I.ok, I.os, I.bare, ⟨fun b o e n hb hx => ?_, fun b o e n hb hx => ?_, I.base.free, fun b o e hx => ?_, I.base.tups, I.base.frzs, I.base.tbls⟩, ⟨m, hn.sameBut hs (Ne.symm (cne x c hc)), fun j y v' e1 e2 e3 => ?_⟩, fun y c' e => ?_, I.free, I.freeC, fun p hp => ?_, tracked ⟨oc, hoc, I.freeC x c hc⟩ hs, by simpa using I.len⟩ ⟨c, hs, .inr hc⟩
    · exact (hs.2 b (Nat.ne_of_lt (Nat.lt_of_lt_of_le (Heap.lt_size e) (I.ok.cab x c hfn hc)))).trans (I.base.keep b o e n hb hx)
    · obtain ⟨sl, e1⟩ := I.base.slot b o e n hb hx
      exact ⟨sl, (hs.2 b (Nat.ne_of_lt (Nat.lt_of_lt_of_le (Heap.lt_size e) (I.ok.cab x c hfn hc)))).trans e1⟩
    · obtain ⟨o', e1⟩ := I.base.there b o e hx
      exact ⟨o', (hs.2 b (Nat.ne_of_lt (Nat.lt_of_lt_of_le (Heap.lt_size e) (I.ok.cab x c hfn hc)))).trans e1⟩
    · by_cases hj : j = i
      · subst hj
        rw [hi] at e1; cases e1
        rw [List.getElem?_set_self hiσ] at e2
        cases e2
        exact ⟨u, r, .inr ⟨.inl hk, c, hc, hc'⟩⟩
      · rw [List.getElem?_set_ne (Ne.symm hj)] at e2
        obtain ⟨u', r', q⟩ := hl j y v' e1 e2 e3
        refine ⟨u', r', ?_⟩
        rcases q with q | ⟨k, c', e, z'⟩
        · exact .inl q
        · refine .inr ⟨k, c', e, z'.sameBut hs ?_⟩
          rintro rfl
          exact hj (nodup_ix hN e1 (I.ok.inj _ _ _ e hc ▸ hi))
    · by_cases hcc : c' = c
      · subst hcc; exact ⟨_, hc'⟩
      · obtain ⟨w2, z2⟩ := I.cell y c' e
        exact ⟨w2, z2.sameBut hs hcc⟩
    · obtain ⟨e, n, ne, nf, d⟩ := I.pin p hp
      refine ⟨(hs.2 p.1 ?_).trans e, n, ne, nf, d⟩
      intro q
      rw [q, hoc] at e
      have q' : oc = p.2 := Option.some.inj e
      exact d w' (by rw [← q']; exact hocd)
theorem store_ok {M : Model} {A : Around} {E : Value → Shared → Prop} {i : Nat} {x : Str} {v : V} {u : Value} {Q : Unit → Shared → Prop} (I : Inv X pins σ H s) (hN : X.N.Nodup) (hi : X.N[i]? = some x) (hx : Loc X.env.scope x) (r : RelV v u)
    (h : ∀ s', Inv X pins (σ.set i (some v)) H s' → Q () s') (hf : X.fn x = true ∨ X.env.scope.names.lookup x = some .local := by first | exact .inl rfl | exact .inr rfl | assumption) : wpAny M A (storeName X.env x u) Q E s :=
  store_ok2 I hN hi hx r (fun s' I' _ => h s' I') hf
/-- behind a call or a block, the state as it is -/
theorem Inv.call' {s' : Shared} {ch : List Addr} (I : Inv X pins σ H s) (ho : s'.os = s.os) (u : Un (frs X.stack) ch H H' s.heap s'.heap) (hok : HOk X.prog X.w H' s'.heap) (hg : AllBare s'.gens)
    (hch : ∀ b ∈ ch, (b ∈ X.ex ∨ X.s₀.heap.objs.size ≤ b) ∧ b ≠ X.env.locals ∧ (∀ x c, X.env.cells.lookup x = some c → c ≠ b) ∧ ∀ p ∈ X.pn ++ pins, p.1 ≠ b) : Inv X pins σ H' s' := by
  obtain ⟨h', g', d', t', o'⟩ := s'
  have e : o' = s.os := ho
  subst e
  exact I.call (g' := g') (t' := t') (d' := d') u hok hg hch
end
/-- an exception: its class, its own dict's address (where it has one), the abstract heap behind it -/
abbrev XK := Value → Option Addr → Hp → Prop
abbrev St := List (Option V)
abbrev VK := V → Hp → Prop
/-- an expression's reading; a test's; an argument list's -/
abbrev TE := St → Hp → VK → Prop
abbrev TT := St → Hp → (Bool → Hp → Prop) → Prop
abbrev TA := St → Hp → (List V → Hp → Prop) → Prop
/-- what is wanted behind a statement -/
structure Ends where
  nx : St → Hp → Prop
  rt : VK
  bk : St → Hp → Prop := fun _ _ => False
  ct : St → Hp → Prop := fun _ _ => False
abbrev TS := Ends → St → Hp → Prop
def EP (X : Cx) (pins : List (Addr × Obj)) (σ : St) (Q : VK) (u : Value) (s' : Shared) : Prop := ∃ v H', Inv X pins σ H' s' ∧ RelV v u ∧ Q v H'
def TP (X : Cx) (pins : List (Addr × Obj)) (σ : St) (Q : Bool → Hp → Prop) (b : Bool) (s' : Shared) : Prop := ∃ H', Inv X pins σ H' s' ∧ Q b H'
def AP (X : Cx) (pins : List (Addr × Obj)) (σ : St) (Q : List V → Hp → Prop) (us : List Value) (s' : Shared) : Prop := ∃ vs H', Inv X pins σ H' s' ∧ Vals vs us ∧ Q vs H'
def SP (X : Cx) (pins : List (Addr × Obj)) (D : Ends) (f : Flow) (s' : Shared) : Prop :=
  match f with
  | .next => ∃ σ' H', Inv X pins σ' H' s' ∧ D.nx σ' H'
  | .brk => ∃ σ' H', Inv X pins σ' H' s' ∧ D.bk σ' H'
  | .cont => ∃ σ' H', Inv X pins σ' H' s' ∧ D.ct σ' H'
  | .ret u => ∃ v σ' H', Inv X pins σ' H' s' ∧ RelV v u ∧ D.rt v H'
def PE (X : Cx) (e : Expr) (t : TE) : Prop :=
  ∀ (pins : List (Addr × Obj)) (s : Shared) (σ : St) (H : Hp) (Q : VK), Inv X pins σ H s → t σ H Q → wpAny (model X.prog X.w) X.A (eval e X.env) (EP X pins σ Q) X.xe s
def PT (X : Cx) (e : Expr) (t : TT) : Prop :=
  ∀ (pins : List (Addr × Obj)) (s : Shared) (σ : St) (H : Hp) (Q : Bool → Hp → Prop), Inv X pins σ H s → t σ H Q → wpAny (model X.prog X.w) X.A (isTrue e X.env (eval e X.env)) (TP X pins σ Q) X.xe s
/-- a test whatever its 'whole' is (and, or) -/
def PW (X : Cx) (e : Expr) (t : TT) : Prop :=
  ∀ (whole : Sem Value) (pins : List (Addr × Obj)) (s : Shared) (σ : St) (H : Hp) (Q : Bool → Hp → Prop), Inv X pins σ H s → t σ H Q → wpAny (model X.prog X.w) X.A (isTrue e X.env whole) (TP X pins σ Q) X.xe s
theorem PW.pt {X : Cx} {e : Expr} {t : TT} (h : PW X e t) : PT X e t := h _
/-- an argument list (no star), from the left -/
def PA (X : Cx) (es : List Expr) (t : TA) : Prop :=
  ∀ (pos : Pos) (pins : List (Addr × Obj)) (s : Shared) (σ : St) (H : Hp) (Q : List V → Hp → Prop), Inv X pins σ H s → t σ H Q → wpAny (model X.prog X.w) X.A (spliced (backTo pos (starEach es X.env))) (AP X pins σ Q) X.xe s
def PS (X : Cx) (st : Stmt) (t : TS) : Prop :=
  ∀ (pins : List (Addr × Obj)) (s : Shared) (σ : St) (H : Hp) (D : Ends), Inv X pins σ H s → t D σ H → wpAny (model X.prog X.w) X.A (exec st X.env) (SP X pins D) X.xe s
def PSs (X : Cx) (st : List Stmt) (t : TS) : Prop :=
  ∀ (pins : List (Addr × Obj)) (s : Shared) (σ : St) (H : Hp) (D : Ends), Inv X pins σ H s → t D σ H → wpAny (model X.prog X.w) X.A (execs st X.env) (SP X pins D) X.xe s
/-- weaken the end -/
theorem thn {α : Type} {t : Sem α} {Q Q' : α → Shared → Prop} {M : Model} {A : Around} {E : Value → Shared → Prop} {s : Shared} (h : wpAny M A t Q E s) (hQ : ∀ a s, Q a s → Q' a s) : wpAny M A t Q' E s := wpAny_mono h hQ fun _ _ x => x
end L2
namespace L2
open PySem PySem.Spec PyProof.Rows
section
variable {X : Cx}
def tVar (i : Nat) : TE := fun σ H Q => ∃ v, σ[i]? = some (some v) ∧ Q v H
def tC (v : V) : TE := fun _ H Q => Q v H
theorem pe_var {i : Nat} {x : Str} {pos : Pos} (hN : X.N[i]? = some x) (hv : Vis X.env.scope x) (hd : (x == ("__debug__" : Str)) = false := by decide) (hcd : (x == ("__classdict__" : Str)) = false := by decide) : PE X (.Name x pos) (tVar i) := by
  intro pins s σ H Q I h
  obtain ⟨v, e, h⟩ := h
  obtain ⟨m, hn, hl⟩ := I.loc
  obtain ⟨u, r, l⟩ := hl i x v hN e hv
  have fin : EP X pins σ Q u s := ⟨v, H, I, r, h⟩
  rcases l with ⟨hk, hm⟩ | ⟨hk, c, hc, hcell⟩
  · exact wpAny_Name (wpAny_loadName_local I.ok.kind hk hn hm fin) hd
  · rcases hk with hk | hk
    · exact wpAny_Name (wpAny_loadName_cell I.ok.kind hk hc hcell fin) hd
    · exact wpAny_Name (wpAny_loadName_free I.ok.kind hk hc hcell fin hcd) hd
theorem pe_int {i j pos} : PE X (.Constant (.int i) j pos) (tC (.int i)) := fun _ _ _ H _ I h => wpAny_Constant_int ⟨.int i, H, I.tok _, ⟨_, rfl⟩, h⟩
theorem pe_bl {b j pos} : PE X (.Constant (.bool b) j pos) (tC (.bl b)) := fun _ _ _ H _ I h => Constant_bool ⟨.bl b, H, I, rfl, h⟩
theorem pe_non {j pos} : PE X (.Constant .none j pos) (tC .non) := fun _ _ _ H _ I h => Constant_none ⟨.non, H, I, rfl, h⟩
theorem pe_str {x j pos} : PE X (.Constant (.str x) j pos) (tC (.str x)) := fun _ _ _ H _ I h => Calls.Constant_str ⟨.str x, H, I.tok _, ⟨_, rfl⟩, h⟩
/-- a global name of the def -/
def Gl (X : Cx) (x : Str) : Prop := X.env.kindOf x = some .globalImplicit
theorem ld_glob {E : Value → Shared → Prop} {pins : List (Addr × Obj)} {s : Shared} {σ : St} {H : Hp} {x : Str} {u : Value} {pos : Pos} {Q : Value → Shared → Prop} (I : Inv X pins σ H s) (hg : Gl X x) (hm : X.mg x = some u) (h : Q u s)
    (hd : (x == ("__debug__" : Str)) = false := by decide) : wpAny (model X.prog X.w) X.A (eval (.Name x pos) X.env) Q E s :=
  Calls.Name_function_global I.ok.kind hg (Calls.loadGlobal_global (by rw [I.ok.glob]; exact I.mod.glob.keeps I.bk) hm h) hd
theorem ld_blt {E : Value → Shared → Prop} {pins : List (Addr × Obj)} {s : Shared} {σ : St} {H : Hp} {x : Str} {u : Value} {pos : Pos} {Q : Value → Shared → Prop} (I : Inv X pins σ H s) (hg : Gl X x) (hm : X.mg x = none) (hv : bootBuiltins x = some u) (h : Q u s)
    (hn : x ≠ "__name__" := by decide) (hd : (x == ("__debug__" : Str)) = false := by decide) : wpAny (model X.prog X.w) X.A (eval (.Name x pos) X.env) Q E s := by
  obtain ⟨mb, h1, h2⟩ := I.mod.blt
  exact Calls.Name_function_global I.ok.kind hg (Calls.loadGlobal_builtin (by rw [I.ok.glob]; exact I.mod.glob.keeps I.bk) hm (by rw [I.ok.blt]; exact h1.keeps I.bk) ((h2 x hn).trans hv) h) hd
/-- a module's constant, a class, a function, as a value -/
theorem pe_glob {x : Str} {v : V} {u : Value} {pos : Pos} (hg : Gl X x) (hm : X.mg x = some u) (r : RelV v u) (hd : (x == ("__debug__" : Str)) = false := by decide) : PE X (.Name x pos) (tC v) :=
  fun _ _ _ H _ I h => ld_glob I hg hm ⟨v, H, I, r, h⟩ hd
theorem pe_bltn {x : Str} {v : V} {u : Value} {pos : Pos} (hg : Gl X x) (hm : X.mg x = none) (hv : bootBuiltins x = some u) (r : RelV v u) (hn : x ≠ "__name__" := by decide) (hd : (x == ("__debug__" : Str)) = false := by decide) : PE X (.Name x pos) (tC v) :=
  fun _ _ _ H _ I h => ld_blt I hg hm hv ⟨v, H, I, r, h⟩ hn hd
variable {a b : Expr} {ta tb : TE} {pos : Pos}
def PC (X : Cx) (op : CmpOp) (a b : Expr) (t : TE) : Prop :=
  ∀ (pins : List (Addr × Obj)) (s : Shared) (σ : St) (H : Hp) (Q : VK), Inv X pins σ H s → t σ H Q →
    wpAny (model X.prog X.w) X.A (eval a X.env) (fun v s₁ => wpAny (model X.prog X.w) X.A (eval b X.env) (fun u s₂ => wpAny (model X.prog X.w) X.A (compareOp op v u) (EP X pins σ Q) X.xe s₂) X.xe s₁) X.xe s
theorem nobehind (b : Expr) {op : CmpOp} (h : op ≠ .In) (h2 : op ≠ .NotIn) : behindInMarks op b = false := by
  have e1 : (op == CmpOp.In) = false := by cases op <;> first | rfl | exact absurd rfl h
  have e2 : (op == CmpOp.NotIn) = false := by cases op <;> first | rfl | exact absurd rfl h2
  cases b <;> simp [behindInMarks, e1, e2]
/-- is None -/
def tIsN (ta : TE) : TE := fun σ H Q => ta σ H fun x H1 => Q (.bl (decide (x = .non))) H1
def tNotN (ta : TE) : TE := fun σ H Q => ta σ H fun x H1 => Q (.bl (!decide (x = .non))) H1
theorem RelV.none_iff {x : V} {v : Value} (r : RelV x v) : (v == Value.none) = decide (x = .non) := by
  cases x with
  | non => cases r; rfl
  | bl _ => cases r; rfl
  | int _ => obtain ⟨t, rfl⟩ := r; rfl
  | str _ => obtain ⟨t, rfl⟩ := r; rfl
  | byt _ => obtain ⟨t, rfl⟩ := r; rfl
  | flt _ => obtain ⟨t, rfl⟩ := r; rfl
  | ref _ => cases r; rfl
  | ty _ => cases r; rfl
theorem pc_isN {j pos'} (ha : PE X a ta) : PC X .Is a (.Constant .none j pos') (tIsN ta) := by
  intro pins s σ H Q I h
  refine thn (ha pins s σ H _ I h) fun v s1 ⟨x, H1, I1, r1, q1⟩ => ?_
  exact Constant_none (is_none_gen ⟨.bl _, H1, I1, by rw [r1.none_iff]; rfl, q1⟩)
/-- a comparison as a value, as a test -/
def tB (t : TE) : TT := fun σ H Q => t σ H fun x H1 => ∃ c, x = .bl c ∧ Q c H1
theorem pe_cmp {op : CmpOp} {t : TE} (h : PC X op a b t) (h1 : behindInMarks op b = false := by first | exact nobehind _ (by decide) (by decide) | rfl) : PE X (.Compare a [op] [b] pos) t := fun pins s σ H Q I hw => wpAny_Compare1 (h pins s σ H Q I hw) h1
theorem pt_cmp {op : CmpOp} {t : TE} (h : PC X op a b t) (h1 : behindInMarks op b = false := by first | exact nobehind _ (by decide) (by decide) | rfl) : PT X (.Compare a [op] [b] pos) (tB t) := by
  intro pins s σ H Q I hw
  refine wpAny_isTrue_Compare1 (thn (h pins s σ H _ I hw) fun v s1 h1 => thn h1 fun u s2 h2 => thn h2 fun c s3 ⟨x, H1, I1, r1, q1⟩ => ?_) h1
  obtain ⟨d, rfl, q⟩ := q1
  cases r1
  exact wpAny_truthy_bool ⟨H1, I1, q⟩
/-- an expression whose value is a bool, as a test -/
theorem pt_val {e : Expr} {t : TE} (h : PE X e t) (he : ∀ whole, isTrue e X.env whole = (do let v ← whole; standAt e.pos; holding [v] (truthy v)) := by intro _; rfl) : PT X e (tB t) := by
  intro pins s σ H Q I hw
  refine isTrue_plain (thn (h pins s σ H _ I hw) fun v s1 ⟨x, H1, I1, r1, q1⟩ => ?_) (he _)
  obtain ⟨d, rfl, q⟩ := q1
  cases r1
  exact wpAny_truthy_bool ⟨H1, I1, q⟩
variable {tA tB' : TT} {rest : List Expr}
def tAnd (t u : TT) : TT := fun σ H Q => t σ H fun c H1 => if c = true then u σ H1 Q else Q false H1
def tOr (t u : TT) : TT := fun σ H Q => t σ H fun c H1 => if c = true then Q true H1 else u σ H1 Q
def tNot (t : TT) : TT := fun σ H Q => t σ H fun c H1 => Q (!c) H1
theorem pw_and1 (ha : PT X a tA) : PW X (.BoolOp .And [a] pos) tA := by
  intro wh pins s σ H Q I h
  refine isTrue_and (thn (ha pins s σ H Q I h) fun c s1 e => ?_)
  cases c with
  | true => exact isTrue_and_nil e
  | false => exact e
theorem pw_or1 (ha : PT X a tA) : PW X (.BoolOp .Or [a] pos) tA := by
  intro wh pins s σ H Q I h
  refine isTrue_or (thn (ha pins s σ H Q I h) fun c s1 e => ?_)
  cases c with
  | false => exact isTrue_or_nil e
  | true => exact e
theorem pw_and (ha : PT X a tA) (hb : PW X (.BoolOp .And (b :: rest) pos) tB') : PW X (.BoolOp .And (a :: b :: rest) pos) (tAnd tA tB') := by
  intro wh pins s σ H Q I h
  refine isTrue_and (thn (ha pins s σ H _ I h) fun c s1 ⟨H1, I1, q1⟩ => ?_)
  cases c with
  | true => exact hb wh pins s1 σ H1 Q I1 q1
  | false => exact ⟨H1, I1, q1⟩
theorem pw_or (ha : PT X a tA) (hb : PW X (.BoolOp .Or (b :: rest) pos) tB') : PW X (.BoolOp .Or (a :: b :: rest) pos) (tOr tA tB') := by
  intro wh pins s σ H Q I h
  refine isTrue_or (thn (ha pins s σ H _ I h) fun c s1 ⟨H1, I1, q1⟩ => ?_)
  cases c with
  | true => exact ⟨H1, I1, q1⟩
  | false => exact hb wh pins s1 σ H1 Q I1 q1
theorem pt_not (ha : PT X a tA) : PT X (.UnaryOp .Not a pos) (tNot tA) := by
  intro pins s σ H Q I h
  exact isTrue_not (ha pins s σ H (fun c H1 => Q (!c) H1) I h)
/-- .. as values (bools) -/
def tAndV (ta tb : TE) : TE := fun σ H Q => ta σ H fun x H1 => ∃ c, x = .bl c ∧ if c = true then tb σ H1 Q else Q (.bl false) H1
def tOrV (ta tb : TE) : TE := fun σ H Q => ta σ H fun x H1 => ∃ c, x = .bl c ∧ if c = true then Q (.bl true) H1 else tb σ H1 Q
def tNotV (ta : TE) : TE := fun σ H Q => ta σ H fun x H1 => ∃ c, x = .bl c ∧ Q (.bl (!c)) H1
theorem pe_one {op} {t : TE} (h : PE X a t) : PE X (.BoolOp op [a] pos) t := fun pins s σ H Q I hw => BoolOp_one (h pins s σ H Q I hw)
theorem pe_and (ha : PE X a ta) (hb : PE X (.BoolOp .And (b :: rest) pos) tb) : PE X (.BoolOp .And (a :: b :: rest) pos) (tAndV ta tb) := by
  intro pins s σ H Q I h
  refine BoolOp_and (thn (ha pins s σ H _ I h) fun v s1 ⟨x, H1, I1, r1, q1⟩ => ?_)
  obtain ⟨c, rfl, q1⟩ := q1
  cases r1
  refine wpAny_truthy_bool ?_
  cases c with
  | true => exact hb pins s1 σ H1 Q I1 q1
  | false => exact ⟨.bl false, H1, I1, rfl, q1⟩
theorem pe_not (ha : PE X a ta) : PE X (.UnaryOp .Not a pos) (tNotV ta) := by
  intro pins s σ H Q I h
  refine UnaryOp_ (thn (ha pins s σ H _ I h) fun v s1 ⟨x, H1, I1, r1, q1⟩ => ?_)
  obtain ⟨c, rfl, q1⟩ := q1
  cases r1
  exact not_of (wpAny_truthy_bool ⟨.bl (!c), H1, I1, rfl, q1⟩)
/-- a if t else b -/
def tIf (t : TT) (ta tb : TE) : TE := fun σ H Q => t σ H fun c H1 => if c = true then ta σ H1 Q else tb σ H1 Q
theorem pe_ifExp {c : Expr} (hc : PT X c tA) (ha : PE X a ta) (hb : PE X b tb) : PE X (.IfExp c a b pos) (tIf tA ta tb) := by
  intro pins s σ H Q I h
  refine wpAny_IfExp (thn (hc pins s σ H _ I h) fun d s1 ⟨H1, I1, q1⟩ => ?_)
  cases d with
  | true => exact ha pins s1 σ H1 Q I1 q1
  | false => exact hb pins s1 σ H1 Q I1 q1
end
end L2
namespace L2
open PySem PySem.Spec PyProof.Rows
def SqL (K : PySem.W.Frag) (H : Hp) (a : Addr) (xs : List V) : Prop :=
  Rd H a (.lst xs) ∨
    ∃ (o : Obj) (its : Array Value) (n : Nat), K.lookup a = some o ∧ o.cls = .type "list" ∧ o.dict = none ∧ o.data = .seq its n ∧ its.size ≤ sizeLine ∧ Vals xs its.toList
def SqT (K : PySem.W.Frag) (H : Hp) (a : Addr) (xs : List V) : Prop :=
  Rd H a (.tup xs) ∨
    ∃ (o : Obj) (its : Array Value) (n : Nat), K.lookup a = some o ∧ o.cls = .type "tuple" ∧ o.data = .seq its n ∧ its.size ≤ sizeLine ∧ Vals xs its.toList
def absV : Value → Option V
  | .none => some .non
  | .bool b => some (.bl b)
  | .int i _ => some (.int i)
  | .str x _ => some (.str x)
  | .bytes b _ => some (.byt b)
  | .float b _ => some (.flt b)
  | .ref a => some (.ref a)
  | .type n => some (.ty n)
  | _ => none
theorem RelV.abs {x : V} {u : Value} (r : RelV x u) : absV u = some x := by
  cases x with
  | non => cases r; rfl
  | bl _ => cases r; rfl
  | int _ => obtain ⟨t, rfl⟩ := r; rfl
  | str _ => obtain ⟨t, rfl⟩ := r; rfl
  | byt _ => obtain ⟨t, rfl⟩ := r; rfl
  | flt _ => obtain ⟨t, rfl⟩ := r; rfl
  | ref _ => cases r; rfl
  | ty _ => cases r; rfl
theorem RelV.inj {x y : V} {u : Value} (r : RelV x u) (q : RelV y u) : x = y := Option.some.inj (r.abs.symm.trans q.abs)
theorem Vals.inj : ∀ {xs ys : List V} {us : List Value}, Vals xs us → Vals ys us → xs = ys
  | _, _, _, .nil, .nil => rfl
  | _, _, _, .cons r t, .cons r' t' => by rw [r.inj r', Vals.inj t t']
section
variable {X : Cx} {pins : List (Addr × Obj)} {σ : St} {H : Hp} {s : Shared} {a : Addr} {xs ys : List V}
theorem SqL.of {K : PySem.W.Frag} (h : H a = some (.lst xs)) : SqL K H a xs := .inl (.inl h)
theorem SqT.of {K : PySem.W.Frag} (h : H a = some (.tup xs)) : SqT K H a xs := .inl (.inl h)
theorem Inv.list (I : Inv X pins σ H s) (h : SqL X.K H a xs) : ∃ its : List Value, Vals xs its ∧ PlainL s.heap a its.toArray ∧ xs.length ≤ sizeLine := by
  rcases h with h | ⟨o, its, n, hk, hc, hd, hs, hz, r⟩
  · obtain ⟨z, its, n, r, e⟩ := h.ok I.hok
    exact ⟨its, r, ⟨_, n, e, rfl, rfl, rfl⟩, z⟩
  · refine ⟨its.toList, r, ⟨o, n, I.kIn a o hk, hc, hd, by simpa using hs⟩, ?_⟩
    have e := r.length
    simp only [Array.length_toList] at e
    omega
theorem Inv.tuple (I : Inv X pins σ H s) (h : SqT X.K H a xs) : ∃ its : List Value, Vals xs its ∧ IsTup s.heap a its.toArray ∧ xs.length ≤ sizeLine := by
  rcases h with h | ⟨o, its, n, hk, hc, hs, hz, r⟩
  · obtain ⟨z, its, r, p⟩ := h.ok I.hok
    exact ⟨its, r, p, z⟩
  · refine ⟨its.toList, r, ⟨o, I.kIn a o hk, hc, n, by simpa using hs⟩, ?_⟩
    have e := r.length
    simp only [Array.length_toList] at e
    omega
theorem Inv.list_inj (I : Inv X pins σ H s) (h : SqL X.K H a xs) (h' : SqL X.K H a ys) : xs = ys := by
  obtain ⟨its, r, ⟨o, n, e, _, _, d⟩, _⟩ := I.list h
  obtain ⟨its', r', ⟨o', n', e', _, _, d'⟩, _⟩ := I.list h'
  rw [e] at e'; cases e'
  rw [d] at d'
  injection d' with d1 _
  have : its = its' := by simpa using congrArg Array.toList d1
  subst this
  exact r.inj r'
end
abbrev Cx.wish (X : Cx) (E : Value → Shared → Prop) : Cx := { X with xe := E }
/-- no exception leaves -/
abbrev Cx.nox (X : Cx) : Cx := X.wish fun _ _ => False
theorem Cx.Ok.wish {X : Cx} (ok : X.Ok) (E : Value → Shared → Prop) : (X.wish E).Ok :=
  ⟨ok.mod, ok.kind, ok.glob, ok.blt, ok.above, ok.inj, ok.has, ok.cab, ok.hd, ok.frames, ok.stk, ok.exf, ok.bs, ok.bsz, ok.noex, ok.exfs, ok.funs, ok.frf⟩
theorem Cx.Ok.unwish {X : Cx} {E : Value → Shared → Prop} (ok : (X.wish E).Ok) : X.Ok :=
  ⟨ok.mod, ok.kind, ok.glob, ok.blt, ok.above, ok.inj, ok.has, ok.cab, ok.hd, ok.frames, ok.stk, ok.exf, ok.bs, ok.bsz, ok.noex, ok.exfs, ok.funs, ok.frf⟩
section
variable {X : Cx} {pins : List (Addr × Obj)} {σ : St} {H : Hp} {s : Shared} {E : Value → Shared → Prop}
theorem Inv.wish (I : Inv X pins σ H s) (E : Value → Shared → Prop) : Inv (X.wish E) pins σ H s := ⟨I.ok.wish E, I.os, I.bare, I.base, I.loc, I.cell, I.free, I.freeC, I.pin, I.hok, I.len⟩
theorem Inv.unwish (I : Inv (X.wish E) pins σ H s) : Inv X pins σ H s := ⟨I.ok.unwish, I.os, I.bare, I.base, I.loc, I.cell, I.free, I.freeC, I.pin, I.hok, I.len⟩
theorem SP.unwish {D : Ends} {f : Flow} {s' : Shared} (h : SP (X.wish E) pins D f s') : SP X pins D f s' := by
  cases f with
  | next => obtain ⟨σ', H', I, q⟩ := h; exact ⟨σ', H', I.unwish, q⟩
  | brk => obtain ⟨σ', H', I, q⟩ := h; exact ⟨σ', H', I.unwish, q⟩
  | cont => obtain ⟨σ', H', I, q⟩ := h; exact ⟨σ', H', I.unwish, q⟩
  | ret u => obtain ⟨v, σ', H', I, r, q⟩ := h; exact ⟨v, σ', H', I.unwish, r, q⟩
theorem PE.nox {e : Expr} {t : TE} (h : PE X.nox e t) : PE X e t := fun pins s σ H Q I hw =>
  wpAny_mono (h pins s σ H Q (I.wish _) hw) (fun _ _ ⟨v, H', I', r, q⟩ => ⟨v, H', I'.unwish, r, q⟩) fun _ _ z => False.elim z
theorem PT.nox {e : Expr} {t : TT} (h : PT X.nox e t) : PT X e t := fun pins s σ H Q I hw =>
  wpAny_mono (h pins s σ H Q (I.wish _) hw) (fun _ _ ⟨H', I', q⟩ => ⟨H', I'.unwish, q⟩) fun _ _ z => False.elim z
theorem PSs.nox {st : List Stmt} {t : TS} (h : PSs X.nox st t) : PSs X st t := fun pins s σ H D I hw =>
  wpAny_mono (h pins s σ H D (I.wish _) hw) (fun _ _ q => q.unwish) fun _ _ z => False.elim z
end
section
variable {X : Cx} {st : Stmt} {rest : List Stmt} {t u : TS} {e : Expr} {te : TE} {pos : Pos}
def tNext : TS := fun D σ H => D.nx σ H
def tSeq (t u : TS) : TS := fun D σ H => t { D with nx := u D } σ H
theorem pss_nil : PSs X [] tNext := fun _ _ σ H _ I h => wpAny_execs_nil ⟨σ, H, I, h⟩
theorem pss_cons (h1 : PS X st t) (h2 : PSs X rest u) : PSs X (st :: rest) (tSeq t u) := by
  intro pins s σ H D I h
  refine wpAny_execs_cons (thn (h1 pins s σ H { D with nx := u D } I h) fun f s1 q => ?_)
  cases f with
  | next =>
    obtain ⟨σ', H', I', q⟩ := q
    exact h2 pins s1 σ' H' D I' q
  | ret v => exact q
  | brk => exact q
  | cont => exact q
theorem pss_one (h1 : PS X st t) : PSs X [st] t := by
  intro pins s σ H D I h
  refine wpAny_execs_cons (thn (h1 pins s σ H D I h) fun f s1 q => ?_)
  cases f with
  | next => exact wpAny_execs_nil q
  | ret v => exact q
  | brk => exact q
  | cont => exact q
/-- in a def's body nothing is shown -/
theorem Inv.quiet {pins : List (Addr × Obj)} {σ : St} {H : Hp} {s : Shared} (I : Inv X pins σ H s) : interactive X.env = false := by simp [interactive, I.ok.kind]
/-- an expression whose value is dropped -/
def tDrop (te : TE) : TS := fun D σ H => te σ H fun _ H1 => D.nx σ H1
theorem ps_expr (he : PE X e te) (hs : swapsWith e none pos.line X.env = pure false := by rfl) : PS X (.Expr e pos) (tDrop te) := by
  intro pins s σ H D I h
  exact wpAny_Expr_any (thn (he pins s σ H _ I h) fun v s1 ⟨x, H1, I1, r1, q1⟩ => ⟨σ, H1, I1, q1⟩) I.quiet hs
def tRet (te : TE) : TS := fun D σ H => te σ H D.rt
theorem ps_ret (he : PE X e te) : PS X (.Return (some e) pos) (tRet te) := by
  intro pins s σ H D I h
  exact wpAny_Return_some (thn (he pins s σ H _ I h) fun v s1 ⟨x, H1, I1, r1, q1⟩ => ⟨x, σ, H1, I1, r1, q1⟩)
def tRetN : TS := fun D _ H => D.rt .non H
def tIfS (c : TT) (t u : TS) : TS := fun D σ H => c σ H fun b H1 => if b = true then t D σ H1 else u D σ H1
theorem ps_if {c : Expr} {a b : List Stmt} {tc : TT} (hc : PT X c tc) (ha : PSs X a t) (hb : PSs X b u) : PS X (.If c a b pos) (tIfS tc t u) := by
  intro pins s σ H D I h
  refine wpAny_If (thn (hc pins s σ H _ I h) fun d s1 ⟨H1, I1, q1⟩ => ?_)
  cases d with
  | true => exact ha pins s1 σ H1 D I1 q1
  | false => exact hb pins s1 σ H1 D I1 q1
/-- code that the proof never comes to -/
def tNever : TS := fun _ _ _ => False
theorem pss_never {sts : List Stmt} : PSs X sts tNever := fun _ _ _ _ _ _ h => h.elim
end
abbrev TG := V → St → Hp → (St → Hp → Prop) → Prop
abbrev TGs := List V → St → Hp → (St → Hp → Prop) → Prop
def PG (X : Cx) (target : Expr) (t : TG) : Prop :=
  ∀ (pins : List (Addr × Obj)) (s : Shared) (σ : St) (H : Hp) (v : V) (u : Value) (Q : St → Hp → Prop), Inv X pins σ H s → RelV v u → t v σ H Q →
    wpAny (model X.prog X.w) X.A (assign target X.env u) (fun _ s' => ∃ σ' H', Inv X pins σ' H' s' ∧ Q σ' H') X.xe s
/-- several targets, one after another -/
def PGs (X : Cx) (ts : List Expr) (t : TGs) : Prop :=
  ∀ (pins : List (Addr × Obj)) (s : Shared) (σ : St) (H : Hp) (vs : List V) (us : List Value) (Q : St → Hp → Prop), Inv X pins σ H s → Vals vs us → t vs σ H Q →
    wpAny (model X.prog X.w) X.A (assignInOrder ((assignEach ts X.env).map (·.2)) us) (fun _ s' => ∃ σ' H', Inv X pins σ' H' s' ∧ Q σ' H') X.xe s
section
variable {X : Cx} {pos : Pos}
def gName (i : Nat) : TG := fun v σ H Q => Q (σ.set i (some v)) H
theorem pg_name {i : Nat} {x : Str} (hN : X.N.Nodup) (hi : X.N[i]? = some x) (hx : Loc X.env.scope x) (hf : X.fn x = true ∨ X.env.scope.names.lookup x = some .local := by first | exact .inl rfl | exact .inr rfl | assumption) : PG X (.Name x pos) (gName i) := by
  intro pins s σ H v u Q I r h
  exact wpAny_assign_Name (store_ok I hN hi hx r (fun s' I' => ⟨_, H, I', h⟩) hf)
def gNil : TGs := fun vs σ H Q => vs = [] ∧ Q σ H
def gCons (t : TG) (u : TGs) : TGs := fun vs σ H Q => ∃ v r, vs = v :: r ∧ t v σ H fun σ' H' => u r σ' H' Q
/-- (a, b, ..) = a tuple of that length -/
def gTup (K : PySem.W.Frag) (n : Nat) (t : TGs) : TG := fun v σ H Q => ∃ a xs, v = .ref a ∧ SqT K H a xs ∧ xs.length = n ∧ t xs σ H Q
/-- target = value -/
def tAsg (te : TE) (g : TG) : TS := fun D σ H => te σ H fun x H1 => g x σ H1 D.nx
/-- name = value -/
theorem ps_set {i : Nat} {x : Str} {e : Expr} {te : TE} {pos' : Pos} (hN : X.N.Nodup) (hi : X.N[i]? = some x) (hx : Loc X.env.scope x) (he : PE X e te) (hs : swapsWith e (some (.Name x pos')) pos.line X.env = pure false := by rfl) (hf : X.fn x = true ∨ X.env.scope.names.lookup x = some .local := by first | exact .inl rfl | exact .inr rfl | assumption) :
    PS X (.Assign [.Name x pos'] e pos) (tAsg te (gName i)) := by
  intro pins s σ H D I h
  refine wpAny_Assign_Name (thn (he pins s σ H _ I h) fun v s1 ⟨y, H1, I1, r1, q1⟩ => ?_) hs
  exact store_ok I1 hN hi hx r1 (fun s2 I2 => ⟨_, H1, I2, q1⟩) hf
end
section
variable {X : Cx} {pos : Pos}
end
/-- at turn i: it yields x (the heap may grow), or it stops -/
structure It where
  go : Nat → Hp → Prop
  yld : Nat → Hp → V → Hp → Prop
  stop : Nat → Hp → Prop
/-- the iterator's own objects may turn: they are not the frame's, not pinned, younger than the entry (or a comprehension's own) -/
def FpOk (X : Cx) (pins : List (Addr × Obj)) (H : Hp) (b : Addr) : Prop :=
  H b = none ∧ b ≠ X.env.locals ∧ b ∉ X.fs ∧ (b ∈ X.ex ∨ X.s₀.heap.objs.size ≤ b) ∧ (∀ x c, X.env.cells.lookup x = some c → c ≠ b) ∧ ∀ p ∈ X.pn ++ pins, p.1 ≠ b
theorem Inv.fpOk {X : Cx} {pins : List (Addr × Obj)} {σ : St} {H H' : Hp} {s : Shared} {b : Addr} (I : Inv X pins σ H s) (hb : s.heap.objs.size ≤ b) (hn : H' b = none) : FpOk X pins H' b := by
  refine ⟨hn, Nat.ne_of_gt (Nat.lt_of_lt_of_le I.lt hb), I.nofs hb, .inr (Nat.le_trans I.sz hb), fun x c e z => ?_, fun p hp z => ?_⟩
  · obtain ⟨v, q⟩ := I.cell x c e
    exact absurd (Nat.lt_of_lt_of_le q.lt (by rw [z]; exact hb)) (Nat.lt_irrefl _)
  · exact absurd (Nat.lt_of_lt_of_le (Heap.lt_size (I.pin p hp).1) (by rw [z]; exact hb)) (Nat.lt_irrefl _)
structure Turn (P : Program) (w : World) (K : PySem.W.Frag) (tg : Expr) (J : It) (fp : List Addr) (it : Addr) (tn : Nat → Heap → Prop) : Prop where
  mem : it ∈ fp
  obj : ∀ i h, tn i h → ∀ b ∈ fp, ∃ o, h.get? b = some o ∧ ∀ v, o.data ≠ .cell v
  keep : ∀ i h h', tn i h → (∀ b ∈ fp, ∀ o, h.get? b = some o → h'.get? b = some o) → tn i h'
  item : ∀ (X : Cx), X.prog = P → X.w = w → X.K = K → X.calm = true → ∀ (i : Nat) (pins : List (Addr × Obj)) (s : Shared) (σ : St) (H : Hp) (E : Value → Shared → Prop), Inv X pins σ H s → (∀ b ∈ fp, FpOk X pins H b) → tn i s.heap → J.go i H →
    wpAny (model P w) X.A (pyNext (.ref it)) (fun r s1 => ∃ u, r = some u ∧
      wpAny (model P w) X.A (letOwnedTupleGo tg (.ref it) u) (fun _ s2 => ∃ x H', Inv X pins σ H' s2 ∧ RelV x u ∧ J.yld i H x H' ∧ tn (i + 1) s2.heap ∧ ∀ b ∈ fp, H' b = none) E s1) E s
  done : ∀ (X : Cx), X.prog = P → X.w = w → X.K = K → X.calm = true → ∀ (i : Nat) (pins : List (Addr × Obj)) (s : Shared) (σ : St) (H : Hp) (E : Value → Shared → Prop), Inv X pins σ H s → (∀ b ∈ fp, FpOk X pins H b) → tn i s.heap → J.stop i H →
    wpAny (model P w) X.A (pyNext (.ref it)) (fun r s1 => r = none ∧ Inv X pins σ H s1) E s
  self : ∀ (A : Around) (i : Nat) (s : Shared) (Q : Value → Shared → Prop) (E : Value → Shared → Prop), tn i s.heap → Q (.ref it) s → wpAny (model P w) A (pyIter (.ref it)) Q E s
abbrev TI := St → Hp → (It → Hp → Prop) → Prop
/-- an iterator has come -/
def PIE (X : Cx) (pins : List (Addr × Obj)) (σ : St) (tg : Expr) (R : It → Hp → Prop) (itv : Value) (s2 : Shared) : Prop :=
  ∃ (it : Addr) (fp : List Addr) (tn : Nat → Heap → Prop) (J : It) (H' : Hp), itv = .ref it ∧ Inv X pins σ H' s2 ∧ Turn X.prog X.w X.K tg J fp it tn ∧ tn 0 s2.heap ∧ (∀ b ∈ fp, FpOk X pins H' b) ∧ R J H'
def PI (X : Cx) (tg iter : Expr) (wi : TI) : Prop :=
  ∀ (pins : List (Addr × Obj)) (s : Shared) (σ : St) (H : Hp) (R : It → Hp → Prop), Inv X pins σ H s → wi σ H R →
    wpAny (model X.prog X.w) X.A (eval iter X.env) (fun v s1 => wpAny (model X.prog X.w) X.A (pyIter v) (PIE X pins σ tg R) X.xe s1) X.xe s
/-- the step ahead of the store is nothing for an iterator that keeps no tuple -/
theorem go_of {M : Model} {A : Around} {E : Value → Shared → Prop} {s : Shared} {tg : Expr} {it : Addr} {u : Value} {o : Obj} {n : String} {vs : Array Value} {Q : Unit → Shared → Prop} (ho : s.heap.get? it = some o) (hc : o.cls = .type n) (hd : o.data = .fields vs)
    (hn : ["enumerate", "zip", "dict_itemiterator", "dict_reverseitemiterator", "odict_iterator", "itertools.zip_longest", "itertools.pairwise"].contains n = false) (hQ : Q () s) : wpAny M A (letOwnedTupleGo tg (.ref it) u) Q E s := by
  unfold letOwnedTupleGo
  cases tg <;> first
    | exact wpAny_pure hQ
    | (cases u <;> first
        | exact wpAny_pure hQ
        | (refine wpAny_bind (wpAny_load ho ?_)
           rw [hc, hd]
           show wpAny M A (if (["enumerate", "zip", "dict_itemiterator", "dict_reverseitemiterator", "odict_iterator", "itertools.zip_longest", "itertools.pairwise"].contains n && vs[0]? == some (rawInt _)) = true then _ else _) Q E s
           rw [if_neg (by intro h; rw [hn, Bool.false_and] at h; cases h)]
           exact wpAny_pure hQ))
/-- the list at a, as it stands at each turn (a loop may append to it) -/
def Itl (K : PySem.W.Frag) (a : Addr) : It :=
  ⟨fun i H => ∃ xs x, SqL K H a xs ∧ xs[i]? = some x, fun i H x H' => H' = H ∧ ∀ xs, SqL K H a xs → xs[i]? = some x, fun i H => ∃ xs, SqL K H a xs ∧ xs.length ≤ i⟩
/-- lo, lo + 1, .. (n of them) -/
def Itr (lo : Int) (n : Nat) : It := ⟨fun i _ => i < n, fun i H x H' => H' = H ∧ x = .int (lo + i), fun i _ => n ≤ i⟩
theorem turn_list {P : Program} {w : World} {K : PySem.W.Frag} {tg : Expr} (a it : Addr) : Turn P w K tg (Itl K a) [it] it (fun i h => h.IsListIter it a i) where
  mem := by simp
  obj := fun i h st b hb => by
    have e : b = it := by simpa using hb
    subst e
    obtain ⟨o, e, c, d⟩ := st
    exact ⟨o, e, fun v z => by rw [d] at z; cases z⟩
  keep := fun i h h' st k => st.at fun o e => k it (by simp) o e
  item := by
    intro X hP hw hK hc i pins s σ H E I hf st hg
    subst hP hw hK
    obtain ⟨xs, x, hq, hx⟩ := hg
    obtain ⟨its, rv, p, hz⟩ := I.list hq
    obtain ⟨u, hu, ru⟩ := rv.get hx
    obtain ⟨f0, f1, f2, f3, f4, f5⟩ := hf it (by simp)
    refine wpAny_pyNext_list_item st p.isList (x := u) (by simpa using hu) fun h' st' sb => ?_
    have I1 : Inv X pins σ H { s with heap := h' } := I.turned (t' := s.toks) (fun b o hb e => (sb.2 b hb).trans e) f0 f1 f3 f4 f5
    obtain ⟨o, e, c, d⟩ := id st'
    exact ⟨u, rfl, go_of (s := { s with heap := h' }) e c d (by decide) ⟨x, H, I1, ru, ⟨rfl, fun ys hy => by rw [I.list_inj hy hq]; exact hx⟩, st', fun b hb => (hf b hb).1⟩⟩
  done := by
    intro X hP hw hK hc i pins s σ H E I hf st hg
    subst hP hw hK
    obtain ⟨xs, hq, hx⟩ := hg
    obtain ⟨its, rv, p, hz⟩ := I.list hq
    obtain ⟨f0, f1, f2, f3, f4, f5⟩ := hf it (by simp)
    have hl := rv.length
    exact wpAny_pyNext_list_end (I.ok.hd hc) st p.isList (by simp; omega) fun h' eb => ⟨rfl, I.turned (t' := s.toks) (fun b o hb e => eb b o hb e) f0 f1 f3 f4 f5⟩
  self := fun _ _ _ _ _ st h => wpAny_pyIter_listiter st h
theorem turn_range {P : Program} {w : World} {K : PySem.W.Frag} {tg : Expr} (it : Addr) (lo : Int) (n : Nat) : Turn P w K tg (Itr lo n) [it] it (fun i h => IsRangeIter h it (lo + (i : Nat) * 1) ((n : Int) - (i : Nat)) 1) where
  mem := by simp
  obj := fun i h st b hb => by
    have e : b = it := by simpa using hb
    subst e
    exact ⟨_, st, fun v z => by
      have z' : Data.fields _ = Data.cell v := z
      cases z'⟩
  keep := fun i h h' st k => k it (by simp) _ st
  item := by
    intro X hP hw hK hc i pins s σ H E I hf st hg
    subst hP hw hK
    obtain ⟨f0, f1, f2, f3, f4, f5⟩ := hf it (by simp)
    have W := Walks.range (prog := X.prog) (w := X.w) (I.ok.hd hc) it lo 1 n
    refine W.item i s _ _ hg st fun v h' tk hv st' kk => ?_
    obtain ⟨t, rfl⟩ := hv
    have I1 : Inv X pins σ H { s with heap := h', toks := tk } := I.turned (fun b o hb e => kk b o (by simpa using hb) e) f0 f1 f3 f4 f5
    refine ⟨_, rfl, go_of (s := { s with heap := h', toks := tk }) (n := "range_iterator") st' rfl rfl (by decide) ⟨.int (lo + i), H, I1, ⟨t, ?_⟩, ⟨rfl, rfl⟩, st', fun b hb => (hf b hb).1⟩⟩
    rw [Int.mul_one]
  done := by
    intro X hP hw hK hc i pins s σ H E I hf st hg
    subst hP hw hK
    obtain ⟨f0, f1, f2, f3, f4, f5⟩ := hf it (by simp)
    exact wpAny_pyNext_range_end (I.ok.hd hc) st (by have : n ≤ i := hg; omega) fun h' eb => ⟨rfl, I.turned (t' := s.toks) (fun b o hb e => eb b o hb e) f0 f1 f3 f4 f5⟩
  self := fun _ _ _ _ _ st h => wpAny_pyIter_rangeiter st h
end L2
namespace L2
open PySem PySem.Spec PyProof.Rows
section
variable {X : Cx} {tg : Expr}
def iList (K : PySem.W.Frag) (tl : TE) : TI := fun σ H R => tl σ H fun x H1 => ∃ a, x = .ref a ∧ (∃ xs, SqL K H1 a xs) ∧ R (Itl K a) H1
theorem pi_list {l : Expr} {tl : TE} (hl : PE X l tl) : PI X tg l (iList X.K tl) := by
  intro pins s σ H R I h
  refine thn (hl pins s σ H _ I h) fun v s1 ⟨x, H1, I1, r1, q1⟩ => ?_
  obtain ⟨a, e, ⟨xs, hq⟩, q⟩ := q1
  subst e
  cases r1
  obtain ⟨its, rv, p, hz⟩ := I1.list hq
  refine wpAny_pyIter_list p.isList ?_
  refine ⟨s1.heap.objs.size, [s1.heap.objs.size], _, _, H1, rfl, I1.kept (t' := s1.toks) fun b o e => Heap.get?_push_of_some _ e, turn_list a _, ⟨_, Heap.get?_push_size _ rfl, rfl, rfl⟩, fun b hb => ?_, q⟩
  have e : b = s1.heap.objs.size := by simpa using hb
  subst e
  exact I1.fpOk (Nat.le_refl _) (I1.hok.fresh (Nat.le_refl _))
/-- a range object just made, walked -/
theorem range_it {pins : List (Addr × Obj)} {σ : St} {H : Hp} {s : Shared} {R : It → Hp → Prop} {E : Value → Shared → Prop} {lo hi : Int} {t u v : Tok} {tk : Nat} (I : Inv X pins σ H s) (h1 : -(2 ^ 62) ≤ lo) (h2 : lo < 2 ^ 62) (h3 : -(2 ^ 62) ≤ hi) (h4 : hi < 2 ^ 62)
    (q : R (Itr lo (hi - lo).toNat) H) : wpAny (model X.prog X.w) X.A (pyIter (.ref s.heap.objs.size)) (PIE X pins σ tg R) E { s with heap := s.heap.push { cls := .type "range", data := .fields #[.int lo t, .int hi u, .int 1 v] }, toks := tk } := by
  refine wpAny_pyIter_range (IsRange.new ..) (small_one h1 h2 h3 h4) ?_
  have I1 : Inv X pins σ H { s with heap := s.heap.push { cls := .type "range", data := .fields #[.int lo t, .int hi u, .int 1 v] }, toks := tk } := I.kept fun b o e => Heap.get?_push_of_some _ e
  refine ⟨(s.heap.push { cls := .type "range", data := .fields #[.int lo t, .int hi u, .int 1 v] }).objs.size, [(s.heap.push { cls := .type "range", data := .fields #[.int lo t, .int hi u, .int 1 v] }).objs.size], _, _, H, rfl,
    I1.kept (t' := tk) fun b o e => Heap.get?_push_of_some _ e, turn_range _ lo (hi - lo).toNat, ?_, fun b hb => ?_, q⟩
  · have e1 : lo + ((0 : Nat) : Int) * 1 = lo := by simp
    have e2 : (((hi - lo).toNat : Nat) : Int) - ((0 : Nat) : Int) = Builtin.Range.rangeSize lo hi 1 := by rw [rangeSize_one]; split <;> omega
    show IsRangeIter _ _ (lo + ((0 : Nat) : Int) * 1) ((((hi - lo).toNat : Nat) : Int) - ((0 : Nat) : Int)) 1
    rw [e1, e2]
    exact Heap.get?_push_size _ rfl
  · have e : b = (s.heap.push { cls := .type "range", data := .fields #[.int lo t, .int hi u, .int 1 v] }).objs.size := by simpa using hb
    subst e
    exact I1.fpOk (Nat.le_refl _) (I1.hok.fresh (Nat.le_refl _))
def iRng1 (ta : TA) : TI := fun σ H R => ta σ H fun vs H1 => ∃ j : Int, vs = [.int j] ∧ -(2 ^ 62) ≤ j ∧ j < 2 ^ 62 ∧ R (Itr 0 j.toNat) H1
theorem pi_range1 {a : Expr} {ta : TA} {p pos : Pos} (hg : Gl X "range") (hm : X.mg "range" = none) (ha : PA X [a] ta) (hs : starEach [a] X.env = [(false, eval a X.env)] := by rfl) : PI X tg (.Call (.Name "range" p) [a] [] pos) (iRng1 ta) := by
  intro pins s σ H R I h
  refine Call_ (ld_blt I hg hm boot_range (PyProof.Rows.callWith_type1 (thn (ha pos pins s σ H _ I h) fun us s1 ⟨vs, H1, I1, r1, q1⟩ => ?_) hs rfl))
  obtain ⟨j, e, q1, q2, q⟩ := q1
  subst e
  cases r1 with
  | cons r rr =>
    cases rr
    obtain ⟨t, rfl⟩ := r
    exact call_range_1 (range_it I1 (by omega) (by omega) q1 q2 (by simpa using q))
/-- W: the invariant by the turn and a measure; N: what the body is to reach -/
def tFor (wi : TI) (g : TG) (tb : TS) : TS := fun D σ H => wi σ H fun J H1 => ∃ W : Nat → Nat → St → Hp → Prop, (∃ m, W 0 m σ H1) ∧ ∀ i m σ H, W i m σ H →
  (J.stop i H ∧ D.nx σ H) ∨ (J.go i H ∧ ∃ N : St → Hp → Prop, (∀ σ' H', N σ' H' → ∃ m', m' < m ∧ W (i + 1) m' σ' H') ∧ ∀ x H', J.yld i H x H' → g x σ H' fun σ2 H2 => tb { D with nx := N, ct := N, bk := D.nx } σ2 H2)
/-- the records at fp as they stand -/
def pinsAt (fp : List Addr) (h : Heap) : List (Addr × Obj) := fp.filterMap fun b => (h.get? b).map fun o => (b, o)
theorem mem_pinsAt {fp : List Addr} {h : Heap} {b : Addr} {o : Obj} (hb : b ∈ fp) (e : h.get? b = some o) : (b, o) ∈ pinsAt fp h := List.mem_filterMap.mpr ⟨b, hb, by rw [e]; rfl⟩
theorem of_pinsAt {fp : List Addr} {h : Heap} {p : Addr × Obj} (hp : p ∈ pinsAt fp h) : p.1 ∈ fp ∧ h.get? p.1 = some p.2 := by
  obtain ⟨b, hb, e⟩ := List.mem_filterMap.mp hp
  cases q : h.get? b with
  | none => rw [q] at e; cases e
  | some o =>
    rw [q] at e
    have e' : (b, o) = p := Option.some.inj e
    subst e'
    exact ⟨hb, q⟩
theorem Inv.pinned {pins : List (Addr × Obj)} {σ : St} {H : Hp} {s : Shared} {fp : List Addr} (I : Inv X pins σ H s) (hf : ∀ b ∈ fp, FpOk X pins H b) (ho : ∀ b ∈ fp, ∃ o, s.heap.get? b = some o ∧ ∀ v, o.data ≠ .cell v) : Inv X (pins ++ pinsAt fp s.heap) σ H s :=
  I.pins_of fun p hp => (List.mem_append.mp hp).elim (fun z => I.pin p (List.mem_append_right _ z)) fun z => by
    obtain ⟨hb, e⟩ := of_pinsAt z
    obtain ⟨f0, f1, f2, _⟩ := hf p.1 hb
    obtain ⟨o, e', d⟩ := ho p.1 hb
    rw [e] at e'; cases e'
    exact ⟨e, f0, f1, f2, d⟩
theorem Inv.unpinned {pins pl : List (Addr × Obj)} {σ : St} {H : Hp} {s : Shared} (I : Inv X (pins ++ pl) σ H s) : Inv X pins σ H s := I.pins_of fun p hp => I.pin p (List.mem_append_right _ (List.mem_append_left _ hp))
theorem ps_for {iter : Expr} {body : List Stmt} {wi : TI} {g : TG} {tb : TS} {pos : Pos} (hp : PassesOwn (model X.prog X.w) X.A X.env X.xe) (hc : X.calm = true) (hi : PI X tg iter wi) (hg : PG X tg g) (hb : PSs X body tb)
    (hs : ∀ x, foldedSetIterable iter X.env x = pure x := by intro _; rfl) : PS X (.For tg iter body [] pos) (tFor wi g tb) := by
  intro pins s σ H D I h
  refine wpAny_For (thn (hi pins s σ H _ I h) fun v s1 h1 => thn h1 fun itv s2 h2 => ?_) hs
  obtain ⟨it, fp, tn, J, H2, e, I2, T, st2, f2, W, ⟨m0, w0⟩, turn⟩ := h2
  subst e
  -- what stays true of the iterator's objects through the loop
  have stat : ∀ {H' : Hp}, (∀ b ∈ fp, H' b = none) → ∀ b ∈ fp, FpOk X pins H' b := fun hn b hb => ⟨hn b hb, (f2 b hb).2⟩
  refine codeAny_forLoop_any (fun n s' => ∃ i σ' H', Inv X pins σ' H' s' ∧ tn i s'.heap ∧ (∀ b ∈ fp, H' b = none) ∧ W i n σ' H') ?_ m0 ⟨0, σ, H2, I2, st2, fun b hb => (f2 b hb).1, w0⟩
  rintro n s3 ⟨i, σ3, H3, I3, st3, fr3, w3⟩
  rcases turn i n σ3 H3 w3 with ⟨stop, qn⟩ | ⟨go, N, hN, step⟩
  · refine wpAny_passesOwn hp (thn (T.done X rfl rfl rfl hc i pins s3 σ3 H3 X.xe I3 (stat fr3) st3 stop) fun r s4 ⟨hr, I4⟩ => ?_)
    subst hr
    exact wpAny_execs_nil ⟨σ3, H3, I4, qn⟩
  · refine wpAny_passesOwn hp (thn (T.item X rfl rfl rfl hc i pins s3 σ3 H3 X.xe I3 (stat fr3) st3 go) fun r s4 ⟨u, hr, h4⟩ => ?_)
    subst hr
    refine wpAny_passesOwn hp (thn h4 fun _ s5 ⟨x, H5, I5, r5, y5, st5, fr5⟩ => ?_)
    have I5' := I5.pinned (stat fr5) (T.obj _ _ st5)
    refine wpAny_passesOwn hp (thn (hg _ s5 σ3 H5 x u _ I5' r5 (step x H5 y5)) fun _ s6 ⟨σ6, H6, I6, q6⟩ => ?_)
    refine wpAny_passesOwn hp (thn (hb _ s6 σ6 H6 _ I6 q6) fun f s7 q7 => ?_)
    have again : ∀ {σ7 : St} {H7 : Hp}, Inv X (pins ++ pinsAt fp s5.heap) σ7 H7 s7 → N σ7 H7 → ∃ m, m < n ∧ ∃ i σ' H', Inv X pins σ' H' s7 ∧ tn i s7.heap ∧ (∀ b ∈ fp, H' b = none) ∧ W i m σ' H' := fun {σ7 H7} I7 n7 => by
      obtain ⟨m', hm, w7⟩ := hN σ7 H7 n7
      refine ⟨m', hm, i + 1, σ7, H7, I7.unpinned, T.keep _ _ _ st5 fun b hb o e => (I7.pin (b, o) (List.mem_append_right _ (List.mem_append_right _ (mem_pinsAt hb e)))).1, fun b hb => ?_, w7⟩
      obtain ⟨o, e, d⟩ := T.obj _ _ st5 b hb
      exact (I7.pin (b, o) (List.mem_append_right _ (List.mem_append_right _ (mem_pinsAt hb e)))).2.1
    cases f with
    | next => obtain ⟨σ7, H7, I7, n7⟩ := q7; exact again I7 n7
    | cont => obtain ⟨σ7, H7, I7, n7⟩ := q7; exact again I7 n7
    | brk => obtain ⟨σ7, H7, I7, q7⟩ := q7; exact ⟨σ7, H7, I7.unpinned, q7⟩
    | ret v => obtain ⟨x7, σ7, H7, I7, r7, q7⟩ := q7; exact ⟨x7, σ7, H7, I7.unpinned, r7, q7⟩
end
/-- over a list that the body leaves as it is -/
theorem for_list {K : PySem.W.Frag} {a : Addr} {xs : List V} {g : TG} {tb : TS} {D : Ends} {σ : St} {H : Hp} (Pv : Nat → St → Hp → Prop) (h0 : Pv 0 σ H) (hl : ∀ i σ H, i ≤ xs.length → Pv i σ H → SqL K H a xs)
    (hs : ∀ i x σ H, xs[i]? = some x → Pv i σ H → g x σ H fun σ2 H2 => tb { D with nx := Pv (i + 1), ct := Pv (i + 1), bk := D.nx } σ2 H2) (hd : ∀ σ H, Pv xs.length σ H → D.nx σ H) :
    ∃ W : Nat → Nat → St → Hp → Prop, (∃ m, W 0 m σ H) ∧ ∀ i m σ H, W i m σ H →
      ((Itl K a).stop i H ∧ D.nx σ H) ∨ ((Itl K a).go i H ∧ ∃ N : St → Hp → Prop, (∀ σ' H', N σ' H' → ∃ m', m' < m ∧ W (i + 1) m' σ' H') ∧ ∀ x H', (Itl K a).yld i H x H' → g x σ H' fun σ2 H2 => tb { D with nx := N, ct := N, bk := D.nx } σ2 H2) := by
  refine ⟨fun i m σ H => m = xs.length - i ∧ i ≤ xs.length ∧ Pv i σ H, ⟨xs.length, by simp, Nat.zero_le _, h0⟩, ?_⟩
  rintro i m σ H ⟨rfl, hi, p⟩
  have q := hl i σ H hi p
  by_cases hlt : i < xs.length
  · refine .inr ⟨⟨xs, xs[i], q, by simp [hlt]⟩, Pv (i + 1), fun σ' H' p' => ⟨xs.length - (i + 1), by omega, rfl, hlt, p'⟩, fun x H' y => ?_⟩
    obtain ⟨e, y⟩ := y
    subst e
    exact hs i x σ _ (y xs q) p
  · have e : i = xs.length := by omega
    subst e
    exact .inl ⟨⟨xs, q, Nat.le_refl _⟩, hd σ H p⟩
theorem for_range {lo : Int} {n : Nat} {g : TG} {tb : TS} {D : Ends} {σ : St} {H : Hp} (Pv : Nat → St → Hp → Prop) (h0 : Pv 0 σ H)
    (hs : ∀ i σ H, i < n → Pv i σ H → g (.int (lo + i)) σ H fun σ2 H2 => tb { D with nx := Pv (i + 1), ct := Pv (i + 1), bk := D.nx } σ2 H2) (hd : ∀ σ H, Pv n σ H → D.nx σ H) :
    ∃ W : Nat → Nat → St → Hp → Prop, (∃ m, W 0 m σ H) ∧ ∀ i m σ H, W i m σ H →
      ((Itr lo n).stop i H ∧ D.nx σ H) ∨ ((Itr lo n).go i H ∧ ∃ N : St → Hp → Prop, (∀ σ' H', N σ' H' → ∃ m', m' < m ∧ W (i + 1) m' σ' H') ∧ ∀ x H', (Itr lo n).yld i H x H' → g x σ H' fun σ2 H2 => tb { D with nx := N, ct := N, bk := D.nx } σ2 H2) := by
  refine ⟨fun i m σ H => m = n - i ∧ i ≤ n ∧ Pv i σ H, ⟨n, by simp, Nat.zero_le _, h0⟩, ?_⟩
  rintro i m σ H ⟨rfl, hi, p⟩
  by_cases hlt : i < n
  · refine .inr ⟨hlt, Pv (i + 1), fun σ' H' p' => ⟨n - (i + 1), by omega, rfl, hlt, p'⟩, fun x H' y => ?_⟩
    obtain ⟨e, y⟩ := y
    subst e y
    exact hs i σ _ hlt p
  · have e : i = n := by omega
    subst e
    exact .inl ⟨Nat.le_refl _, hd σ H p⟩
end L2
namespace L2
open PySem PySem.Spec PyProof.Rows
abbrev R2 := V → V → Hp → VK → Prop
/-- a two-place operation on values: f is binaryOp op, inplaceOp op or compareOp op -/
def OpR (X : Cx) (f : Value → Value → Sem Value) (r : R2) : Prop :=
  ∀ (pins : List (Addr × Obj)) (s : Shared) (σ : St) (H : Hp) (x y : V) (v u : Value) (Q : VK), Inv X pins σ H s → RelV x v → RelV y u → r x y H Q →
    wpAny (model X.prog X.w) X.A (f v u) (EP X pins σ Q) X.xe s
/-- a one-place operation -/
def UnR (X : Cx) (f : Value → Sem Value) (r : V → Hp → VK → Prop) : Prop :=
  ∀ (pins : List (Addr × Obj)) (s : Shared) (σ : St) (H : Hp) (x : V) (v : Value) (Q : VK), Inv X pins σ H s → RelV x v → r x H Q →
    wpAny (model X.prog X.w) X.A (f v) (EP X pins σ Q) X.xe s
/-- a call of a value that is known (a builtin, a type) with values -/
def CallR (X : Cx) (f : Value) (r : List V → Hp → VK → Prop) : Prop :=
  ∀ (pins : List (Addr × Obj)) (s : Shared) (σ : St) (H : Hp) (xs : List V) (us : List Value) (Q : VK), Inv X pins σ H s → Vals xs us → r xs H Q →
    wpAny (model X.prog X.w) X.A (call f us) (EP X pins σ Q) X.xe s
def tOp (r : R2) (ta tb : TE) : TE := fun σ H Q => ta σ H fun x H1 => tb σ H1 fun y H2 => r x y H2 Q
def tUn (r : V → Hp → VK → Prop) (ta : TE) : TE := fun σ H Q => ta σ H fun x H1 => r x H1 Q
/-- ints in, under C, and a value out -/
def rI (C : Int → Int → Prop) (g : Int → Int → V) : R2 := fun x y H Q => ∃ i j, x = .int i ∧ y = .int j ∧ C i j ∧ Q (g i j) H
def rI0 (g : Int → Int → V) : R2 := fun x y H Q => ∃ i j, x = .int i ∧ y = .int j ∧ Q (g i j) H
def rU (g : Int → V) : V → Hp → VK → Prop := fun x H Q => ∃ i, x = .int i ∧ Q (g i) H
section
variable {X : Cx} {a b c : Expr} {ta tb tc : TE} {pos : Pos}
theorem binT (ha : PE X a ta) (hb : PE X b tb) {pins : List (Addr × Obj)} {s : Shared} {σ : St} {H : Hp} {R : V → V → Hp → Prop} (I : Inv X pins σ H s)
    (h : ta σ H fun x H1 => tb σ H1 fun y H2 => R x y H2) {Q : Value → Shared → Prop} {f : Value → Value → Sem Value}
    (hf : ∀ v u s2 x y H2, Inv X pins σ H2 s2 → RelV x v → RelV y u → R x y H2 → wpAny (model X.prog X.w) X.A (f v u) Q X.xe s2) :
    wpAny (model X.prog X.w) X.A (eval a X.env) (fun v s₁ => wpAny (model X.prog X.w) X.A (eval b X.env) (fun u s₂ => wpAny (model X.prog X.w) X.A (f v u) Q X.xe s₂) X.xe s₁) X.xe s := by
  refine thn (ha pins s σ H _ I h) fun v s1 ⟨x, H1, I1, r1, q1⟩ => ?_
  refine thn (hb pins s1 σ H1 _ I1 q1) fun u s2 ⟨y, H2, I2, r2, q2⟩ => ?_
  exact hf v u s2 x y H2 I2 r1 r2 q2
theorem pe_op {op : Operator} {r : R2} (ho : OpR X (binaryOp op) r) (ha : PE X a ta) (hb : PE X b tb) : PE X (.BinOp a op b pos) (tOp r ta tb) := by
  intro pins s σ H Q I h
  exact wpAny_BinOp (binT ha hb I h fun v u s2 x y H2 I2 rx ry q => ho pins s2 σ H2 x y v u Q I2 rx ry q)
theorem pe_un {op : UnaryOp} {r : V → Hp → VK → Prop} (ho : UnR X (unaryOp op) r) (ha : PE X a ta) : PE X (.UnaryOp op a pos) (tUn r ta) := by
  intro pins s σ H Q I h
  exact UnaryOp_ (thn (ha pins s σ H _ I h) fun v s1 ⟨x, H1, I1, r1, q1⟩ => ho pins s1 σ H1 x v Q I1 r1 q1)
theorem opI {f : Value → Value → Sem Value} {C : Int → Int → Prop} {g : Int → Int → Int}
    (rule : ∀ (i j : Int) (t u : Tok) (s : Shared) (Q : Value → Shared → Prop) (E : Value → Shared → Prop), C i j → Q (.int (g i j) s.toks) { s with toks := s.toks + 1 } → wpAny (model X.prog X.w) X.A (f (.int i t) (.int j u)) Q E s) :
    OpR X f (rI C fun i j => .int (g i j)) := by
  intro pins s σ H x y v u Q I rx ry h
  obtain ⟨i, j, rfl, rfl, hc, q⟩ := h
  obtain ⟨t, rfl⟩ := rx
  obtain ⟨t', rfl⟩ := ry
  exact rule i j t t' s _ _ hc ⟨.int (g i j), H, I.tok _, ⟨_, rfl⟩, q⟩
theorem opI0 {f : Value → Value → Sem Value} {g : Int → Int → Int}
    (rule : ∀ (i j : Int) (t u : Tok) (s : Shared) (Q : Value → Shared → Prop) (E : Value → Shared → Prop), Q (.int (g i j) s.toks) { s with toks := s.toks + 1 } → wpAny (model X.prog X.w) X.A (f (.int i t) (.int j u)) Q E s) :
    OpR X f (rI0 fun i j => .int (g i j)) := by
  intro pins s σ H x y v u Q I rx ry h
  obtain ⟨i, j, rfl, rfl, q⟩ := h
  obtain ⟨t, rfl⟩ := rx
  obtain ⟨t', rfl⟩ := ry
  exact rule i j t t' s _ _ ⟨.int (g i j), H, I.tok _, ⟨_, rfl⟩, q⟩
theorem opB0 {f : Value → Value → Sem Value} {g : Int → Int → Bool}
    (rule : ∀ (i j : Int) (t u : Tok) (s : Shared) (Q : Value → Shared → Prop) (E : Value → Shared → Prop), Q (.bool (g i j)) s → wpAny (model X.prog X.w) X.A (f (.int i t) (.int j u)) Q E s) :
    OpR X f (rI0 fun i j => .bl (g i j)) := by
  intro pins s σ H x y v u Q I rx ry h
  obtain ⟨i, j, rfl, rfl, q⟩ := h
  obtain ⟨t, rfl⟩ := rx
  obtain ⟨t', rfl⟩ := ry
  exact rule i j t t' s _ _ ⟨.bl (g i j), H, I, rfl, q⟩
def CDiv (i j : Int) : Prop := 0 < j ∧ j < 1073741824
def CPow (i j : Int) : Prop := 0 ≤ j ∧ j ≤ 1000000 ∧ i.natAbs < 2 ^ 64
def CMul (i j : Int) : Prop := (-(2 ^ 64) < i ∧ i < 2 ^ 64) ∨ (-(2 ^ 64) < j ∧ j < 2 ^ 64)
theorem CMul.ok {i j : Int} (h : CMul i j) : IntMulOk i j := by
  rcases h with ⟨h1, h2⟩ | ⟨h1, h2⟩
  · exact .of_left (intBits_le_64 h1 h2)
  · exact .of_right (intBits_le_64 h1 h2)
theorem op_add : OpR X (binaryOp .Add) (rI0 fun i j => .int (i + j)) := opI0 fun _ _ _ _ _ _ _ q => add_int q
theorem op_sub : OpR X (binaryOp .Sub) (rI0 fun i j => .int (i - j)) := opI0 fun _ _ _ _ _ _ _ q => sub_int q
theorem op_mul : OpR X (binaryOp .Mult) (rI CMul fun i j => .int (i * j)) := opI fun _ _ _ _ _ _ _ hc q => mul_int q hc.ok
/-- // by a positive divisor -/
theorem op_fdiv : OpR X (binaryOp .FloorDiv) (rI CDiv fun i j => .int (i / j)) := opI fun i j _ _ _ _ _ hc q => by
  have h1 : (0 : Int) < j := hc.1
  have h2 : j < 1073741824 := hc.2
  exact floordiv_int (by omega) (by rw [Int.fdiv_eq_ediv_of_nonneg i (by omega)]; exact q) (.inl (PyProof.noPylong_small (by omega)))
/-- % by a positive divisor of any size -/
theorem op_mod : OpR X (binaryOp .Mod) (rI (fun _ j => 0 < j) fun i j => .int (i % j)) := opI fun i j _ _ _ _ _ hc q => by
  have h1 : (0 : Int) < j := hc
  exact mod_int' (by omega) (by rw [Int.fmod_eq_emod_of_nonneg i (by omega)]; exact q)
theorem unI {f : Value → Sem Value} {g : Int → Int}
    (rule : ∀ (i : Int) (t : Tok) (s : Shared) (Q : Value → Shared → Prop) (E : Value → Shared → Prop), Q (.int (g i) s.toks) { s with toks := s.toks + 1 } → wpAny (model X.prog X.w) X.A (f (.int i t)) Q E s) :
    UnR X f (rU fun i => .int (g i)) := by
  intro pins s σ H x v Q I rx h
  obtain ⟨i, rfl, q⟩ := h
  obtain ⟨t, rfl⟩ := rx
  exact rule i t s _ _ ⟨.int (g i), H, I.tok _, ⟨_, rfl⟩, q⟩
theorem un_neg : UnR X (unaryOp .USub) (rU fun i => .int (-i)) := unI fun _ _ _ _ _ q => neg_int q
end
/-- the scalars that == tells apart as data does -/
def scal : V → V → Bool
  | .non, .non => true | .non, .int _ => true | .int _, .non => true | .non, .bl _ => true | .bl _, .non => true | .non, .str _ => true | .str _, .non => true
  | .int _, .int _ => true | .bl _, .bl _ => true | .str _, .str _ => true | .byt _, .byt _ => true
  | .int _, .str _ => true | .str _, .int _ => true | .bl _, .str _ => true | .str _, .bl _ => true
  | _, _ => false
def rEq : R2 := fun x y H Q => scal x y = true ∧ Q (.bl (decide (x = y))) H
def rNe : R2 := fun x y H Q => scal x y = true ∧ Q (.bl (!decide (x = y))) H
theorem dec_int {i j : Int} : decide (V.int i = V.int j) = (i == j) := by
  rw [Bool.eq_iff_iff]
  simp
theorem dec_bl {i j : Bool} : decide (V.bl i = V.bl j) = (i == j) := by
  rw [Bool.eq_iff_iff]
  simp
theorem dec_str {i j : Str} : decide (V.str i = V.str j) = (i == j) := by
  rw [Bool.eq_iff_iff]
  simp
theorem dec_byt {i j : Array UInt8} : decide (V.byt i = V.byt j) = (i.toList == j.toList) := by
  rw [Bool.eq_iff_iff]
  cases i
  cases j
  simp
section
variable {X : Cx} {a b c : Expr} {ta tb tc : TE} {pos : Pos}
theorem fin_bl {pins : List (Addr × Obj)} {σ : St} {H : Hp} {s : Shared} {Q : VK} {k k' : Bool} (I : Inv X pins σ H s) (q : Q (.bl k) H) (e : k = k') : EP X pins σ Q (.bool k') s := by
  subst e
  exact ⟨.bl k, H, I, rfl, q⟩
theorem op_eq : OpR X (compareOp .Eq) rEq := by
  intro pins s σ H x y v u Q I rx ry h
  obtain ⟨hs, q⟩ := h
  cases x with
  | non =>
    cases rx
    cases y with
    | non => cases ry; exact PySem.EqNone.eq_none_none (fin_bl I q (by simp))
    | bl j => cases ry; exact PySem.EqNone.eq_none_bool (fin_bl I q (by simp))
    | int j => obtain ⟨t', rfl⟩ := ry; exact PySem.EqNone.eq_none_int (fin_bl I q (by simp))
    | str j => obtain ⟨t', rfl⟩ := ry; exact PySem.EqNone.eq_none_str (fin_bl I q (by simp))
    | _ => exact absurd (show false = true from hs) Bool.false_ne_true
  | bl i =>
    cases rx
    cases y with
    | non => cases ry; exact PySem.EqNone.eq_bool_none (fin_bl I q (by simp))
    | bl j => cases ry; exact eq_bool (fin_bl I q dec_bl)
    | str j => obtain ⟨t', rfl⟩ := ry; exact PySem.EqMixed.eq_bool_str (fin_bl I q (by simp))
    | _ => exact absurd (show false = true from hs) Bool.false_ne_true
  | int i =>
    obtain ⟨t, rfl⟩ := rx
    cases y with
    | non => cases ry; exact PySem.EqNone.eq_int_none (fin_bl I q (by simp))
    | int j => obtain ⟨t', rfl⟩ := ry; exact eq_int (fin_bl I q dec_int)
    | str j => obtain ⟨t', rfl⟩ := ry; exact PySem.EqMixed.eq_int_str (fin_bl I q (by simp))
    | _ => exact absurd (show false = true from hs) Bool.false_ne_true
  | str i =>
    obtain ⟨t, rfl⟩ := rx
    cases y with
    | non => cases ry; exact PySem.EqNone.eq_str_none (fin_bl I q (by simp))
    | bl j => cases ry; exact PySem.EqMixed.eq_str_bool (fin_bl I q (by simp))
    | int j => obtain ⟨t', rfl⟩ := ry; exact PySem.EqMixed.eq_str_int (fin_bl I q (by simp))
    | str j => obtain ⟨t', rfl⟩ := ry; exact eq_str (fin_bl I q dec_str)
    | _ => exact absurd (show false = true from hs) Bool.false_ne_true
  | byt i =>
    obtain ⟨t, rfl⟩ := rx
    cases y with
    | byt j => obtain ⟨t', rfl⟩ := ry; exact PySem.W.eq_bytes (fin_bl I q dec_byt)
    | _ => exact absurd (show false = true from hs) Bool.false_ne_true
  | _ => cases y <;> exact absurd (show false = true from hs) Bool.false_ne_true
theorem op_ne : OpR X (compareOp .NotEq) rNe := by
  intro pins s σ H x y v u Q I rx ry h
  obtain ⟨hs, q⟩ := h
  cases x with
  | non =>
    cases rx
    cases y with
    | non => cases ry; exact PySem.EqNone.ne_none_none (fin_bl I q (by simp))
    | bl j => cases ry; exact PySem.EqNone.ne_none_bool (fin_bl I q (by simp))
    | int j => obtain ⟨t', rfl⟩ := ry; exact PySem.EqNone.ne_none_int (fin_bl I q (by simp))
    | str j => obtain ⟨t', rfl⟩ := ry; exact PySem.EqNone.ne_none_str (fin_bl I q (by simp))
    | _ => exact absurd (show false = true from hs) Bool.false_ne_true
  | bl i =>
    cases rx
    cases y with
    | non => cases ry; exact PySem.EqNone.ne_bool_none (fin_bl I q (by simp))
    | bl j => cases ry; exact ne_bool (fin_bl I q (congrArg not dec_bl))
    | str j => obtain ⟨t', rfl⟩ := ry; exact PySem.EqMixed.ne_bool_str (fin_bl I q (by simp))
    | _ => exact absurd (show false = true from hs) Bool.false_ne_true
  | int i =>
    obtain ⟨t, rfl⟩ := rx
    cases y with
    | non => cases ry; exact PySem.EqNone.ne_int_none (fin_bl I q (by simp))
    | int j => obtain ⟨t', rfl⟩ := ry; exact ne_int (fin_bl I q (congrArg not dec_int))
    | str j => obtain ⟨t', rfl⟩ := ry; exact PySem.EqMixed.ne_int_str (fin_bl I q (by simp))
    | _ => exact absurd (show false = true from hs) Bool.false_ne_true
  | str i =>
    obtain ⟨t, rfl⟩ := rx
    cases y with
    | non => cases ry; exact PySem.EqNone.ne_str_none (fin_bl I q (by simp))
    | bl j => cases ry; exact PySem.EqMixed.ne_str_bool (fin_bl I q (by simp))
    | int j => obtain ⟨t', rfl⟩ := ry; exact PySem.EqMixed.ne_str_int (fin_bl I q (by simp))
    | str j => obtain ⟨t', rfl⟩ := ry; exact ne_str (fin_bl I q (congrArg not dec_str))
    | _ => exact absurd (show false = true from hs) Bool.false_ne_true
  | byt i =>
    obtain ⟨t, rfl⟩ := rx
    cases y with
    | byt j => obtain ⟨t', rfl⟩ := ry; exact PySem.W.ne_bytes (fin_bl I q (congrArg not dec_byt))
    | _ => exact absurd (show false = true from hs) Bool.false_ne_true
  | _ => cases y <;> exact absurd (show false = true from hs) Bool.false_ne_true
theorem op_lt : OpR X (compareOp .Lt) (rI0 fun i j => .bl (decide (i < j))) := opB0 fun _ _ _ _ _ _ _ q => lt_int q
theorem op_le : OpR X (compareOp .LtE) (rI0 fun i j => .bl (decide (i ≤ j))) := opB0 fun _ _ _ _ _ _ _ q => le_int q
theorem op_gt : OpR X (compareOp .Gt) (rI0 fun i j => .bl (decide (j < i))) := opB0 fun _ _ _ _ _ _ _ q => gt_int q
/-- the one string within the other -/
theorem op_in_str : OpR X (compareOp .In) (fun x y H Q => ∃ i j, x = .str i ∧ y = .str j ∧ Q (.bl (!(Builtin.Str.occurrences j i 0 j.length 1).isEmpty)) H) := by
  intro pins s σ H x y v u Q I rx ry h
  obtain ⟨i, j, rfl, rfl, q⟩ := h
  obtain ⟨t, rfl⟩ := rx
  obtain ⟨t', rfl⟩ := ry
  exact in_str (fin_bl I q rfl)
theorem op_notin_str : OpR X (compareOp .NotIn) (fun x y H Q => ∃ i j, x = .str i ∧ y = .str j ∧ Q (.bl (!(!(Builtin.Str.occurrences j i 0 j.length 1).isEmpty))) H) := by
  intro pins s σ H x y v u Q I rx ry h
  obtain ⟨i, j, rfl, rfl, q⟩ := h
  obtain ⟨t, rfl⟩ := rx
  obtain ⟨t', rfl⟩ := ry
  exact notIn_str (fin_bl I q rfl)
/-- two rules for one operation: by cases -/
theorem OpR.or {f : Value → Value → Sem Value} {r r' : R2} (h : OpR X f r) (h' : OpR X f r') : OpR X f (fun x y H Q => r x y H Q ∨ r' x y H Q) := by
  intro pins s σ H x y v u Q I rx ry q
  rcases q with q | q
  · exact h pins s σ H x y v u Q I rx ry q
  · exact h' pins s σ H x y v u Q I rx ry q
theorem nomark (b : Expr) {op : CmpOp} (h : op ≠ .In := by decide) (h2 : op ≠ .NotIn := by decide) : behindInMarks op b = false := by
  have e1 : (op == CmpOp.In) = false := by cases op <;> first | rfl | exact absurd rfl h
  have e2 : (op == CmpOp.NotIn) = false := by cases op <;> first | rfl | exact absurd rfl h2
  cases b <;> simp [behindInMarks, e1, e2]
/-- a comparison as a value; hm: nomark b, or (for in, not in) by with_unfolding_all rfl -/
theorem pe_cmpR {op : CmpOp} {r : R2} (ho : OpR X (compareOp op) r) (ha : PE X a ta) (hb : PE X b tb) (hm : behindInMarks op b = false) : PE X (.Compare a [op] [b] pos) (tOp r ta tb) := by
  intro pins s σ H Q I h
  exact wpAny_Compare1 (binT ha hb I h fun v u s2 x y H2 I2 rx ry q => ho pins s2 σ H2 x y v u Q I2 rx ry q) hm
/-- a reading of a value as a test -/
def tTest (t : TE) : TT := fun σ H Q => t σ H fun x H' => ∃ k, x = .bl k ∧ Q k H'
theorem pt_cmpR {op : CmpOp} {r : R2} (ho : OpR X (compareOp op) r) (ha : PE X a ta) (hb : PE X b tb) (hm : behindInMarks op b = false) : PT X (.Compare a [op] [b] pos) (tTest (tOp r ta tb)) := by
  intro pins s σ H Q I h
  refine wpAny_isTrue_Compare1 (thn (ha pins s σ H _ I h) fun v s1 ⟨x, H1, I1, r1, q1⟩ => thn (hb pins s1 σ H1 _ I1 q1) fun u s2 ⟨y, H2, I2, r2, q2⟩ =>
    thn (ho pins s2 σ H2 x y v u _ I2 r1 r2 q2) fun c s3 ⟨z, H3, I3, r3, k, e, q3⟩ => ?_) hm
  subst e
  cases r3
  exact wpAny_truthy_bool ⟨H3, I3, q3⟩
/-- a op1 b op2 c -/
def tChain (r r' : R2) (ta tb tc : TE) : TE := fun σ H Q => ta σ H fun x H1 => tb σ H1 fun y H2 => r x y H2 fun z H3 => ∃ k, z = .bl k ∧
  (if k = true then tc σ H3 fun w' H4 => r' y w' H4 Q else Q (.bl false) H3)
theorem pe_chain {op op' : CmpOp} {r r' : R2} (ho : OpR X (compareOp op) r) (ho' : OpR X (compareOp op') r') (ha : PE X a ta) (hb : PE X b tb) (hc : PE X c tc)
    (hm : lastMarks [op, op'] [b, c] = false := by with_unfolding_all rfl) : PE X (.Compare a [op, op'] [b, c] pos) (tChain r r' ta tb tc) := by
  intro pins s σ H Q I h
  refine Compare_chain (thn (ha pins s σ H _ I h) fun v s1 ⟨x, H1, I1, r1, q1⟩ => chain_link (thn (hb pins s1 σ H1 _ I1 q1) fun u s2 ⟨y, H2, I2, r2, q2⟩ =>
    thn (ho pins s2 σ H2 x y v u _ I2 r1 r2 q2) fun d s3 ⟨z, H3, I3, r3, k, e, q3⟩ => ?_)) hm
  subst e
  cases r3
  refine wpAny_truthy_bool ?_
  cases k with
  | false => exact ite_ff ⟨.bl false, H3, I3, rfl, q3⟩
  | true => exact ite_tt (chain_last (thn (hc pins s3 σ H3 _ I3 q3) fun w' s4 ⟨z', H4, I4, r4, q4⟩ => ho' pins s4 σ H4 y z' u w' Q I4 r2 r4 q4))
theorem pt_chain {op op' : CmpOp} {r r' : R2} (ho : OpR X (compareOp op) r) (ho' : OpR X (compareOp op') r') (ha : PE X a ta) (hb : PE X b tb) (hc : PE X c tc)
    (hm : lastMarks [op, op'] [b, c] = false := by with_unfolding_all rfl) : PT X (.Compare a [op, op'] [b, c] pos) (tTest (tChain r r' ta tb tc)) := by
  intro pins s σ H Q I h
  refine isTrue_chain (thn (ha pins s σ H _ I h) fun v s1 ⟨x, H1, I1, r1, q1⟩ => test_link (thn (hb pins s1 σ H1 _ I1 q1) fun u s2 ⟨y, H2, I2, r2, q2⟩ =>
    thn (ho pins s2 σ H2 x y v u _ I2 r1 r2 q2) fun d s3 ⟨z, H3, I3, r3, k, e, q3⟩ => ?_)) hm
  subst e
  cases r3
  refine wpAny_truthy_bool ?_
  cases k with
  | false =>
    obtain ⟨k', e', q'⟩ := q3
    cases e'
    exact ite_ff ⟨H3, I3, q'⟩
  | true =>
    refine ite_tt (test_last (thn (hc pins s3 σ H3 _ I3 q3) fun w' s4 ⟨z', H4, I4, r4, q4⟩ => thn (ho' pins s4 σ H4 y z' u w' _ I4 r2 r4 q4) fun d' s5 ⟨z2, H5, I5, r5, k2, e2, q5⟩ => ?_))
    subst e2
    cases r5
    exact wpAny_truthy_bool ⟨H5, I5, q5⟩
theorem line63 : (sizeLine : Nat) < 2 ^ 63 := by rw [sizeLine_eq]; decide
theorem op_add_str : OpR X (binaryOp .Add) (fun x y H Q => ∃ i j, x = .str i ∧ y = .str j ∧ i.length + j.length ≤ sizeLine ∧ Q (.str (i ++ j)) H) := by
  intro pins s σ H x y v u Q I rx ry h
  obtain ⟨i, j, rfl, rfl, hz, q⟩ := h
  obtain ⟨t, rfl⟩ := rx
  obtain ⟨t', rfl⟩ := ry
  exact add_str (fun t' tk => ⟨.str (i ++ j), H, I.tok _, ⟨_, rfl⟩, q⟩) hz
theorem vals1 {x : V} {us : List Value} (r : Vals [x] us) : ∃ u, us = [u] ∧ RelV x u := by
  cases r with
  | cons r1 r2 => cases r2; exact ⟨_, rfl, r1⟩
theorem vals2 {x y : V} {us : List Value} (r : Vals [x, y] us) : ∃ u w', us = [u, w'] ∧ RelV x u ∧ RelV y w' := by
  cases r with
  | cons r1 r2 =>
    cases r2 with
    | cons r3 r4 => cases r4; exact ⟨_, _, rfl, r1, r3⟩
theorem call_int1 : CallR X (.type "int") (fun xs H Q => (∃ i, xs = [.int i] ∧ Q (.int i) H) ∨ ∃ k, xs = [.bl k] ∧ Q (.int (if k then 1 else 0)) H) := by
  intro pins s σ H xs us Q I r h
  rcases h with ⟨i, rfl, q⟩ | ⟨k, rfl, q⟩
  · obtain ⟨u, rfl, t, rfl⟩ := vals1 r
    exact call_int_int ⟨.int i, H, I, ⟨_, rfl⟩, q⟩
  · obtain ⟨u, rfl, r1⟩ := vals1 r
    cases r1
    exact call_int_bool ⟨.int (if k then 1 else 0), H, I.tok _, ⟨_, rfl⟩, q⟩
theorem call_str_int : CallR X (.type "str") (fun xs H Q => ∃ i, xs = [.int i] ∧ i.natAbs.log2 < 1920 ∧ Q (.str (toString i)) H) := by
  intro pins s σ H xs us Q I r h
  obtain ⟨i, rfl, hz, q⟩ := h
  obtain ⟨u, rfl, t, rfl⟩ := vals1 r
  exact PySem.P.str_of_int hz ⟨.str _, H, I.tok _, ⟨_, rfl⟩, q⟩
end
end L2
namespace L2
open PySem PySem.Spec PyProof.Rows
structure ObjM (h : Heap) (x dx C : Addr) (mA : Str → Option Value) : Prop where
  obj : h.get? x = some (PySem.W.instObj C dx)
  ns : h.Ns1 dx mA
  ne : dx ≠ x
theorem lookIn_ns {h : Heap} {dx : Addr} {mA : Str → Option Value} (n : h.Ns1 dx mA) : ∃ od, h.get? dx = some od ∧ ∀ name, PySem.W.lookIn name od = some (mA name) := by
  obtain ⟨o, es, ep, ho, hd, hk, _, hm⟩ := n
  refine ⟨o, ho, fun name => ?_⟩
  have e := hm name
  unfold nsFind findBy at e
  rw [← Array.find?_toList] at e
  unfold PySem.W.lookIn
  rw [hd]
  dsimp only
  split
  · rename_i y q
    rw [q] at e
    exact congrArg some e
  · rename_i q
    rw [q] at e
    have a : es.toList.any (·.refKey) = false := by
      rw [List.any_eq_false]
      intro y hy
      obtain ⟨z, t, hkey⟩ := hk y (Array.mem_toList_iff.mp hy)
      simp [DictEntry.refKey, hkey]
    have a' : ¬ es.toList.any (·.refKey) = true := by rw [a]; exact Bool.false_ne_true
    rw [if_neg a']
    exact congrArg some e
theorem ObjM.look {h : Heap} {x dx C : Addr} {mA : Str → Option Value} (I : ObjM h x dx C mA) : ∃ od, PySem.W.InstAt h x (PySem.W.instObj C dx) C (some od) ∧ ∀ name, PySem.W.lookIn name od = some (mA name) :=
  let ⟨od, ho, hl⟩ := lookIn_ns I.ns
  ⟨od, ⟨I.obj, rfl, rfl, ho⟩, hl⟩
section
variable {prog : Program} {w : World} {A : Around} {E : Value → Shared → Prop} {s : Shared} {K : PySem.W.Frag} {x dx C f : Addr} {mA : Str → Option Value} {name : Str} {v : Value}
end
theorem RelO.some_of {v : V} {o : Option Value} (r : RelO (some v) o) : ∃ u, o = some u ∧ RelV v u := by
  cases o with
  | none => exact (show False from r).elim
  | some u => exact ⟨u, rfl, r⟩
theorem RelO.none_of {o : Option Value} (r : RelO none o) : o = none := by
  cases o with
  | none => rfl
  | some u => exact (show False from r).elim
section
variable {P : Program} {w : World} {H H' : Hp} {h h' : Heap} {a C dx : Addr} {fs fs' : List (Str × V)}
theorem ins_get (hok : HOk P w H h) (e : H a = some (.ins C dx fs)) : ∃ mA, ObjM h a dx C mA ∧ (∀ f, RelO (fs.lookup f) (mA f)) ∧ PySem.Within mA (fs.map (·.1)) ∧ fs.length ≤ 1000 ∧ H dx = some (.own a) := by
  obtain ⟨d, z, ne, ob, mA, n, r, q⟩ := (show ObjOk P w H h a (.ins C dx fs) from hok a _ e)
  exact ⟨mA, ⟨ob, n, ne⟩, r, q, z, d⟩
end
structure Cls (K : PySem.W.Frag) (C : Addr) : Prop where
  pg : PySem.W.plainGet K C Str.empty = true
  hd : PySem.W.hasDictIn K C = true
  po : PySem.W.plainOver K C = true
  sa : PySem.W.findIn K (.ref C) "__setattr__" = some (some (.builtin "object.__setattr__"))
theorem Cls.get {K : PySem.W.Frag} {C : Addr} (c : Cls K C) (f : Str) : PySem.W.plainGet K C f = true := c.pg
/-- a constant of the class -/
structure Con (K : PySem.W.Frag) (C : Addr) (f : Str) (v : V) (u : Value) : Prop where
  at_ : PySem.W.findIn K (.ref C) f = some (some u)
  rel : RelV v u
  get : PySem.W.specialIn K u "__get__" = some none
  cp : PySem.W.copiedNames.contains f = false
/-- a method: a plain def of the class or of one above it -/
structure Meth (K : PySem.W.Frag) (C : Addr) (m : Str) (f : Addr) : Prop where
  at_ : PySem.W.findIn K (.ref C) m = some (some (.ref f))
  fn : PySem.W.isFn K (.ref f) = true
  kp : PySem.W.keepIn K (.ref f) = true
section
variable {X : Cx} {pins : List (Addr × Obj)} {σ : St} {H : Hp} {s : Shared} {a C dx : Addr} {fs : List (Str × V)} {f : Str} {v : V} {A : Around} {E : Value → Shared → Prop}
/-- a new instance, tracked, without attributes -/
theorem Inv.made (I : Inv X pins σ H s) : Inv X pins σ (upd (upd H s.heap.objs.size (.own (s.heap.objs.size + 1))) (s.heap.objs.size + 1) (.ins C s.heap.objs.size []))
    { s with heap := (s.heap.push PySem.W.emptyDict).push (PySem.W.instObj C s.heap.objs.size) } := by
  have e1 : (s.heap.push PySem.W.emptyDict).get? s.heap.objs.size = some PySem.W.emptyDict := Heap.get?_push_size s.heap rfl
  have e2 : ((s.heap.push PySem.W.emptyDict).push (PySem.W.instObj C s.heap.objs.size)).get? (s.heap.objs.size + 1) = some (PySem.W.instObj C s.heap.objs.size) := by
    have := Heap.get?_push_size (s.heap.push PySem.W.emptyDict) (o := PySem.W.instObj C s.heap.objs.size) rfl
    rwa [Heap.size_push] at this
  have e3 : (s.heap.push PySem.W.emptyDict).Ns s.heap.objs.size (fun _ => none) := ⟨PySem.W.emptyDict, #[], _, e1, rfl, (fun e he => absurd he (by simp)), fun _ => rfl⟩
  have I1 := I.laid (a := s.heap.objs.size) (o := .own (s.heap.objs.size + 1)) (h' := s.heap.push PySem.W.emptyDict) (t' := s.toks) (fun b u q => Heap.get?_push_of_some _ q) (Nat.le_refl _) ⟨_, e1⟩
  refine I1.laid (a := s.heap.objs.size + 1) (o := .ins C s.heap.objs.size []) (t' := s.toks) (fun b u q => Heap.get?_push_of_some _ q) (Nat.le_of_eq (Heap.size_push _ _)) ?_
  have ne : s.heap.objs.size ≠ s.heap.objs.size + 1 := Nat.ne_of_lt (Nat.lt_succ_self _)
  refine ⟨by rw [upd_ne ne, upd_same], Nat.zero_le _, ne, e2, fun _ => none, (Heap.Ns1.of_empty e3).at fun o q => Heap.get?_push_of_some _ q, fun _ => True.intro, fun y hy => absurd rfl hy⟩
end
section
variable {X : Cx} {o e value : Expr} {f : Str} {pos pos' tpos : Pos} {ta tv : TE}
end
section
variable {X : Cx} {pins : List (Addr × Obj)} {σ : St} {H : Hp} {s : Shared} {A : Around} {E : Value → Shared → Prop} {Q : Value → Shared → Prop} {c : Value} {b : Bool}
/-- the type of a value, as the fragment's deciders take it; for an instance its class -/
inductive TyOf (K : PySem.W.Frag) (H : Hp) : V → Value → Prop where
  | non : TyOf K H .non (.type "NoneType")
  | bl (x : Bool) : TyOf K H (.bl x) (.type "bool")
  | int (i : Int) : TyOf K H (.int i) (.type "int")
  | str (x : Str) : TyOf K H (.str x) (.type "str")
  | flt (x : UInt64) : TyOf K H (.flt x) (.type "float")
  | lst {a : Addr} {xs : List V} (e : H a = some (.lst xs)) : TyOf K H (.ref a) (.type "list")
  | frz {a : Addr} {o : Obj} {xs : List V} (e : H a = some (.frz o (.lst xs))) : TyOf K H (.ref a) (.type "list")
  | tup {a : Addr} {xs : List V} (e : H a = some (.tup xs)) : TyOf K H (.ref a) (.type "tuple")
  | dK {a : Addr} {kvs : List (Key × V)} (e : H a = some (.dK kvs)) : TyOf K H (.ref a) (.type "dict")
  | dT {a : Addr} {kvs : List (List Key × V)} (e : H a = some (.dT kvs)) : TyOf K H (.ref a) (.type "dict")
  | ins {a C dx : Addr} {fs : List (Str × V)} (e : H a = some (.ins C dx fs)) (cl : Cls K C) (ha : PySem.W.findIn K (.ref C) "__class__" = some (some (.builtin "object.__class__")))
      (hn : PySem.W.specialIn K (.builtin "object.__class__") "__get__" = some (some (.builtin "getset_descriptor.__get__"))) (htk : PySem.W.takesIn K (.builtin "object.__class__") = some true)
      (hm : PySem.W.mroIn K C (.type "object") = some true) : TyOf K H (.ref a) (.ref C)
/-- isinstance(x, c) for one class c, a built-in or an own one: kitOne's answer -/
theorem isinst_ok {x : V} {u t : Value} (I : Inv X pins σ H s) (rx : RelV x u) (ty : TyOf X.K H x t) (e : PySem.W.kitOne X.K t c = some b) (h : ∀ tk, Q (.bool b) { s with toks := tk }) :
    wpAny (model X.prog X.w) A (call (.builtin "isinstance") [u, c]) Q E s := by
  cases ty with
  | non => cases (show u = Value.none from rx); exact PySem.W.kia_one PySem.W.kitx_none I.kIn True.intro e (fun z => nomatch z) h
  | bl y => cases (show u = Value.bool y from rx); exact PySem.W.kia_one PySem.W.kitx_bool I.kIn True.intro e (fun z => nomatch z) h
  | int i => obtain ⟨t, q⟩ := (show ∃ t, u = Value.int i t from rx); cases q; exact PySem.W.kia_one PySem.W.kitx_int I.kIn True.intro e (fun z => nomatch z) h
  | str y => obtain ⟨t, q⟩ := (show ∃ t, u = Value.str y t from rx); cases q; exact PySem.W.kia_one PySem.W.kitx_str I.kIn True.intro e (fun z => nomatch z) h
  | flt y => obtain ⟨t, q⟩ := (show ∃ t, u = Value.float y t from rx); cases q; exact PySem.W.kia_one PySem.W.kitx_float I.kIn True.intro e (fun z => nomatch z) h
  | @lst a xs ea =>
    cases (show u = Value.ref a from rx)
    obtain ⟨_, _, n, _, h1⟩ := (show ObjOk X.prog X.w H s.heap a (.lst xs) from I.hok a _ ea)
    exact PySem.W.kia_one PySem.W.kitx_list I.kIn ⟨_, h1, rfl⟩ e (fun z => nomatch z) h
  | @frz a ob xs ea =>
    cases (show u = Value.ref a from rx)
    obtain ⟨_, _, _, n, _, h1⟩ := (show ObjOk X.prog X.w H s.heap a (.frz ob (.lst xs)) from I.hok a _ ea)
    exact PySem.W.kia_one PySem.W.kitx_list I.kIn ⟨_, h1, rfl⟩ e (fun z => nomatch z) h
  | @tup a xs ea =>
    cases (show u = Value.ref a from rx)
    obtain ⟨_, _, _, p⟩ := (show ObjOk X.prog X.w H s.heap a (.tup xs) from I.hok a _ ea)
    obtain ⟨o, h1, h2, _⟩ := p
    exact PySem.W.kia_one PySem.W.kitx_tuple I.kIn ⟨o, h1, h2⟩ e (fun z => nomatch z) h
  | @dK a kvs ea =>
    cases (show u = Value.ref a from rx)
    obtain ⟨_, _, vs, _, p⟩ := (show ObjOk X.prog X.w H s.heap a (.dK kvs) from I.hok a _ ea)
    obtain ⟨o, es, ep, h1, h2, _⟩ := p
    exact PySem.W.kia_one PySem.W.kitx_dict I.kIn ⟨o, h1, h2.1⟩ e (fun z => nomatch z) h
  | @dT a kvs ea =>
    cases (show u = Value.ref a from rx)
    obtain ⟨_, _, xs, _, o, es, ep, h1, h2, _⟩ := (show ObjOk X.prog X.w H s.heap a (.dT kvs) from I.hok a _ ea)
    exact PySem.W.kia_one PySem.W.kitx_dict I.kIn ⟨o, h1, h2.1⟩ e (fun z => nomatch z) h
  | @ins a C dx fs ea cl ha hn htk hm =>
    cases (show u = Value.ref a from rx)
    obtain ⟨mA, O, _⟩ := ins_get I.hok ea
    obtain ⟨od, J, _⟩ := O.look
    exact PySem.W.kia_one (PySem.W.kitx_own (cl.get _) cl.hd ha hn htk hm) I.kIn J e (fun z => nomatch z) h
end
end L2
namespace L2
open PySem PySem.Spec PyProof.Rows
structure Room (k : Nat) (A : Around) : Prop where
  hd : A.handled = none
  dp : A.depth + 3 * k + 5 < recursionLimit
  un : A.units + 16 * k + 200 < cLine
theorem Room.mono {j k : Nat} {A : Around} (r : Room k A) (h : j ≤ k) : Room j A := ⟨r.hd, by have := r.dp; omega, by have := r.un; omega⟩
theorem Room.deeper {k : Nat} {A : Around} (r : Room (k + 1) A) (env : Env) : Room k (A.deeper env) :=
  ⟨r.hd, by have := r.dp; show A.depth + 1 + 3 * k + 5 < _; omega, by have := r.un; show A.units + 3 + 16 * k + 200 < _; omega⟩
theorem Room.in1 {k : Nat} {A : Around} (r : Room (k + 1) A) : Room k A.in1 :=
  ⟨r.hd, by have := r.dp; show A.depth + 3 * k + 5 < _; omega, by have := r.un; show A.units + 1 + 16 * k + 200 < _; omega⟩
theorem make_depth {A : Around} {C : Addr} {us : List Value} {kw : List (Str × Value)} : (A.under (.builtin "type.__call__" ⟨.ref C :: us, kw⟩)).depth = A.depth + 1 := by
  first | rfl | simp [Around.under, Code.weight, Code.isCreation, Code.isGuard, Code.isCaller, Code.frames, Code.isFrame, guardIds]
theorem make_units {A : Around} {C : Addr} {us : List Value} {kw : List (Str × Value)} : (A.under (.builtin "type.__call__" ⟨.ref C :: us, kw⟩)).units = A.units + 1 := by
  first | rfl | simp [Around.under, Code.cUnits, Code.frames, Code.isFrame]
theorem Room.make {k : Nat} {A : Around} (r : Room (k + 1) A) (C : Addr) (us : List Value) (kw : List (Str × Value)) : Room k (A.under (.builtin "type.__call__" ⟨.ref C :: us, kw⟩)) :=
  ⟨r.hd, by have := r.dp; rw [make_depth]; omega, by have := r.un; rw [make_units]; omega⟩
theorem Room.depth {k : Nat} {A : Around} (r : Room k A) : A.depth < recursionLimit := by have := r.dp; omega
theorem Room.units {k : Nat} {A : Around} (r : Room k A) : A.units + 64 < cLine := by have := r.un; omega
theorem Room.units0 {k : Nat} {A : Around} (r : Room k A) : A.units < cLine := by have := r.un; omega
def tNil : TA := fun _ H Q => Q [] H
def tCons (ta : TE) (tr : TA) : TA := fun σ H Q => ta σ H fun x H1 => tr σ H1 fun xs H2 => Q (x :: xs) H2
section
variable {X : Cx} {e : Expr} {es : List Expr} {te : TE} {t : TA} {pos : Pos}
theorem pa_nil : PA X [] tNil := fun _ _ _ _ H Q I h => Calls.spliced_nil ⟨[], H, I, .nil, h⟩
theorem pa_cons (ha : PE X e te) (hr : PA X es t) (hs : starEach (e :: es) X.env = (false, eval e X.env) :: starEach es X.env := by rfl) : PA X (e :: es) (tCons te t) := by
  intro pos pins s σ H Q I h
  rw [hs]
  show wpAny _ _ (spliced ((false, eval e X.env) :: backTo pos (starEach es X.env))) _ _ s
  refine Calls.spliced_cons (thn (ha pins s σ H _ I h) fun u s1 ⟨x, H1, I1, r1, q1⟩ => ?_)
  exact thn (hr pos pins s1 σ H1 _ I1 q1) fun us s2 ⟨xs, H2, I2, r2, q2⟩ => ⟨x :: xs, H2, I2, .cons r1 r2, q2⟩
/-- a tuple, a list of written items -/
def tTup (t : TA) : TE := fun σ H Q => t σ H fun xs H1 => xs.length ≤ sizeLine ∧ ∀ p, H1 p = none → Q (.ref p) (upd H1 p (.tup xs))
def tLst (t : TA) : TE := fun σ H Q => t σ H fun xs H1 => xs.length ≤ sizeLine ∧ ∀ p, H1 p = none → Q (.ref p) (upd H1 p (.lst xs))
theorem pe_tup {x1} (h : PA X es t) : PE X (.Tuple es x1 pos) (tTup t) := by
  intro pins s σ H Q I hq
  refine wpAny_Tuple_spliced (thn (h pos pins s σ H _ I hq) fun us s1 ⟨xs, H1, I1, r, z, q⟩ => ⟨by rw [← r.length]; exact z, ?_⟩)
  have hf : H1 s1.heap.objs.size = none := I1.hok.fresh (Nat.le_refl _)
  refine ⟨.ref s1.heap.objs.size, upd H1 s1.heap.objs.size (.tup xs), I1.laid (t' := s1.toks) (fun b u e => Heap.get?_push_of_some _ e) (Nat.le_refl _) ?_, rfl, q _ hf⟩
  exact ⟨z, us, r, ⟨_, Heap.get?_push_size _ rfl, rfl, _, rfl⟩⟩
theorem pe_lst (h : PA X es t) : PE X (.List es pos) (tLst t) := by
  intro pins s σ H Q I hq
  refine wpAny_List_spliced (thn (h pos pins s σ H _ I hq) fun us s1 ⟨xs, H1, I1, r, z, q⟩ => ⟨by rw [← r.length]; exact z, ?_⟩)
  have hf : H1 s1.heap.objs.size = none := I1.hok.fresh (Nat.le_refl _)
  refine ⟨.ref s1.heap.objs.size, upd H1 s1.heap.objs.size (.lst xs), I1.laid (t' := s1.toks) (fun b u e => Heap.get?_push_of_some _ e) (Nat.le_refl _) ?_, rfl, q _ hf⟩
  exact ⟨z, us, 0, r, Heap.get?_push_size _ rfl⟩
end
/-- a def's promise: the bound arguments in the parameters' order, the heap, the wanted end, the wanted exception -/
abbrev Sp := List V → Hp → VK → XK → Prop
/-- how an exception lies behind a call (file 08 gives it): the callers' frames, abstract heap and state ahead of the call, the wish, the exception, the state -/
abbrev CXT := List Env → Hp → Shared → XK → Value → Shared → Prop
/-- the state at a call -/
structure Env0 (P : Program) (w : World) (K : PySem.W.Frag) (mg : Str → Option Value) (base : Heap) (A : Around) (outer : List Env) (s : Shared) (H : Hp) : Prop where
  frames : A.frames = some outer
  mod : Mod K mg base
  bs : ∀ b o, base.get? b = some o → s.heap.get? b = some o ∧ H b = none
  bsz : base.objs.size ≤ s.heap.objs.size
  funs : s.heap.FunFrames base outer
  frf : ∀ b ∈ frs outer, H b = none
  hok : HOk P w H s.heap
  bare : AllBare s.gens
/-- a call's end -/
def CE (outer : List Env) (P : Program) (w : World) (H : Hp) (s : Shared) (Q : VK) (u : Value) (s' : Shared) : Prop :=
  ∃ v H', s'.os = s.os ∧ AllBare s'.gens ∧ Un (frs outer) [] H H' s.heap s'.heap ∧ HOk P w H' s'.heap ∧ RelV v u ∧ Q v H'
def CR (CX : CXT) (outer : List Env) (P : Program) (w : World) (H : Hp) (s : Shared) (Q : VK) (E : XK) (r : Result) (s' : Shared) : Prop :=
  match r with
  | .ok (.ret u) => CE outer P w H s Q u s'
  | .ok _ => False
  | .error e => CX outer H s E e s'
structure FnOk (P : Program) (w : World) (K : PySem.W.Frag) (mg : Str → Option Value) (base : Heap) (CX : CXT) (k : Nat) (f : Addr) (fd : FuncData) (ps : List Str) (sp : Sp) : Prop where
  len : ∀ vs H Q E, sp vs H Q E → vs.length = ps.length
  run : ∀ (A : Around) (outer : List Env) (s : Shared) (H : Hp) (args : Args) (us : List Value) (vs : List V) (Q : VK) (E : XK), Room k A → Env0 P w K mg base A outer s H → BindsTo s fd args (ps.zip us) → Vals vs us → sp vs H Q E →
    codeAny (model P w) A (.call (.ref f) args) (CR CX outer P w H s Q E) s
theorem FnOk.mono {P : Program} {w : World} {K : PySem.W.Frag} {mg : Str → Option Value} {base : Heap} {CX : CXT} {j k : Nat} {f : Addr} {fd : FuncData} {ps : List Str} {sp : Sp} (F : FnOk P w K mg base CX j f fd ps sp) (h : j ≤ k) :
    FnOk P w K mg base CX k f fd ps sp := ⟨F.len, fun A outer s H args us vs Q E hr => F.run A outer s H args us vs Q E (hr.mono h)⟩
/-- a weaker promise -/
theorem FnOk.imp {P : Program} {w : World} {K : PySem.W.Frag} {mg : Str → Option Value} {base : Heap} {CX : CXT} {k : Nat} {f : Addr} {fd : FuncData} {ps : List Str} {sp sp' : Sp} (F : FnOk P w K mg base CX k f fd ps sp)
    (h : ∀ vs H Q E, sp' vs H Q E → sp vs H Q E) : FnOk P w K mg base CX k f fd ps sp' :=
  ⟨fun vs H Q E q => F.len vs H Q E (h _ _ _ _ q), fun A outer s H args us vs Q E hr he hb hv hs => F.run A outer s H args us vs Q E hr he hb hv (h _ _ _ _ hs)⟩
theorem Env0.make {P : Program} {w : World} {K : PySem.W.Frag} {mg : Str → Option Value} {base : Heap} {A : Around} {outer : List Env} {s : Shared} {H : Hp} (e : Env0 P w K mg base A outer s H) (C : Addr) (us : List Value) (kw : List (Str × Value)) :
    Env0 P w K mg base (A.under (.builtin "type.__call__" ⟨.ref C :: us, kw⟩)) outer s H := ⟨by first | exact e.frames | (simpa [Around.under, Code.envs, Code.isFrame, pushEnvs] using e.frames), e.mod, e.bs, e.bsz, e.funs, e.frf, e.hok, e.bare⟩
theorem Env0.in1 {P : Program} {w : World} {K : PySem.W.Frag} {mg : Str → Option Value} {base : Heap} {A : Around} {outer : List Env} {s : Shared} {H : Hp} (e : Env0 P w K mg base A outer s H) :
    Env0 P w K mg base A.in1 outer s H := ⟨e.frames, e.mod, e.bs, e.bsz, e.funs, e.frf, e.hok, e.bare⟩
section
variable {X : Cx} {pins : List (Addr × Obj)} {σ : St} {H : Hp} {s s' : Shared}
/-- from a body: what a callee wants -/
theorem Inv.env0 (I : Inv X pins σ H s) : Env0 X.prog X.w X.K X.mg X.base X.A X.stack s H :=
  ⟨I.ok.frames, I.ok.mod, I.bs, Nat.le_trans I.ok.bsz I.sz, I.stack, I.stkFree, I.hok, I.bare⟩
/-- behind a call -/
theorem Inv.after {Q : VK} {u : Value} (I : Inv X pins σ H s) (h : CE X.stack X.prog X.w H s Q u s') : EP X pins σ Q u s' := by
  obtain ⟨v, H', os, bare, un, hok, r, q⟩ := h
  obtain ⟨hh, g, d, t, os'⟩ := s'
  obtain rfl : os' = s.os := os
  exact ⟨v, H', I.call (h' := hh) (g' := g) (d' := d) (t' := t) (ch := []) un hok bare (fun b z => absurd z (by simp)), r, q⟩
end
/-- f(..): the written arguments, then the defaults dvs; E: what is wanted of an exception -/
def tCall (sp : Sp) (dvs : List V) (E : XK) (t : TA) : TE := fun σ H Q => t σ H fun vs H1 => sp (vs ++ dvs) H1 Q E
/-- how the parameters are bound: us the positional arguments, kw the keywords' values by name, ds the defaults that fill up -/
def Binds (K : PySem.W.Frag) (fd : FuncData) (ps : List Str) (ds : List Value) : Prop :=
  ∀ (s : Shared) (us : List Value), K.In s.heap → (us ++ ds).length = ps.length → BindsTo s fd ⟨us, []⟩ (ps.zip (us ++ ds))
/-- every parameter is given -/
theorem Binds.all {K : PySem.W.Frag} {fd : FuncData} {ps : List Str} (h : ∀ us : List Value, us.length = ps.length → bindArgs fd ⟨us, []⟩ = pure (ps.zip us)) : Binds K fd ps [] := fun s us _ hl => by
  rw [List.append_nil] at hl ⊢
  exact .of_eq (h us hl)
/-- an exception of a callee reaches what this body wants of exceptions -/
def Passes (CX : CXT) (X : Cx) (E : XK) : Prop := ∀ (pins : List (Addr × Obj)) (σ : St) (H : Hp) (s : Shared) (e : Value) (s' : Shared), Inv X pins σ H s → CX X.stack H s E e s' → X.xe e s'
section
variable {X : Cx} {CX : CXT} {k : Nat} {f C : Addr} {fd : FuncData} {ps : List Str} {sp : Sp} {dvs : List V} {ds : List Value} {E : XK} {x m : Str} {p pos apos : Pos} {e o : Expr} {es : List Expr} {ta : TE} {t : TA}
/-- the callee runs -/
theorem run_fn {pins : List (Addr × Obj)} {σ : St} {H : Hp} {s : Shared} {Q : VK} {us : List Value} {vs : List V} (F : FnOk X.prog X.w X.K X.mg X.base CX k f fd ps sp) (hr : Room k X.A) (hb : Binds X.K fd ps ds) (hd : Vals dvs ds) (hx : Passes CX X E)
    (I : Inv X pins σ H s) (r : Vals vs us) (h : sp (vs ++ dvs) H Q E) : wpAny (model X.prog X.w) X.A (call (.ref f) us) (EP X pins σ Q) X.xe s := by
  have r2 : Vals (vs ++ dvs) (us ++ ds) := r.append hd
  have hl : (us ++ ds).length = ps.length := by rw [← r2.length]; exact F.len _ _ _ _ h
  refine wpAny_call (codeAny_mono (F.run X.A X.stack s H ⟨us, []⟩ (us ++ ds) (vs ++ dvs) Q E hr I.env0 (hb s us I.kIn hl) r2 h) fun r s' hq => ?_)
  cases r with
  | error e => exact hx pins σ H s e s' I hq
  | ok fl =>
    cases fl with
    | ret u => exact I.after hq
    | next => exact False.elim hq
    | brk => exact False.elim hq
    | cont => exact False.elim hq
theorem pe_call (F : FnOk X.prog X.w X.K X.mg X.base CX k f fd ps sp) (hr : Room k X.A) (hg : Gl X x) (hm : X.mg x = some (.ref f)) (hk : PySem.W.keepIn X.K (.ref f) = true) (hb : Binds X.K fd ps ds) (hd : Vals dvs ds) (hx : Passes CX X E)
    (ha : PA X (e :: es) t) (hdb : (x == ("__debug__" : Str)) = false := by decide) (he : starEach (e :: es) X.env = (false, eval e X.env) :: starEach es X.env := by rfl) (hpl : (backTo pos (starEach es X.env)).any (·.1) = false := by rfl) :
    PE X (.Call (.Name x p) (e :: es) [] pos) (tCall sp dvs E t) := by
  intro pins s σ H Q I h
  refine wpAny_Call_Name_kw (ld_glob I hg hm ?_ hdb)
  refine PySem.W.callWith_K (h₀ := X.base) I.ok.mod.kin hk (thn (ha pos pins s σ H _ I h) fun us s1 ⟨vs, H1, I1, r, q⟩ => ⟨I1.kIn, ?_⟩) he hpl
  exact run_fn F hr hb hd hx I1 r q
theorem pe_call0 (F : FnOk X.prog X.w X.K X.mg X.base CX k f fd ps sp) (hr : Room k X.A) (hg : Gl X x) (hm : X.mg x = some (.ref f)) (hk : PySem.W.keepIn X.K (.ref f) = true) (hb : Binds X.K fd ps ds) (hd : Vals dvs ds) (hx : Passes CX X E)
    (hdb : (x == ("__debug__" : Str)) = false := by decide) : PE X (.Call (.Name x p) [] [] pos) (tCall sp dvs E tNil) := by
  intro pins s σ H Q I h
  refine wpAny_Call_Name_kw (ld_glob I hg hm ?_ hdb)
  exact PySem.W.callWith_K0 I.kIn hk (run_fn (us := []) F hr hb hd hx I .nil h)
/-- what a class must have to be made -/
structure Mk (K : PySem.W.Frag) (C f : Addr) : Prop where
  makes : PySem.W.makesIn K C = true
  init : PySem.W.findIn K (.ref C) "__init__" = some (some (.ref f))
  fn : PySem.W.isFn K (.ref f) = true
  kp : PySem.W.keepIn K (.ref C) = true
end
section
variable {X : Cx} {CX : CXT} {k : Nat} {f C : Addr} {fd : FuncData} {ps ks : List Str} {sp : Sp} {E : XK} {x m : Str} {p pos apos kpos : Pos} {e o : Expr} {es : List Expr} {kws : List Keyword} {te ta : TE} {t tk : TA} {nm : Option Str}
/-- how a call with keywords binds: g puts the positional values us and the keywords' values ws (names ks) in the parameters' order, defaults among them -/
structure KBinds (K : PySem.W.Frag) (fd : FuncData) (ps ks : List Str) (g : List Value → List Value → List Value) (gV : List V → List V → List V) : Prop where
  to : ∀ (s : Shared) (us ws : List Value), K.In s.heap → (g us ws).length = ps.length → BindsTo s fd ⟨us, ks.zip ws⟩ (ps.zip (g us ws))
  rel : ∀ {vs : List V} {us : List Value} {zs : List V} {ws : List Value}, Vals vs us → Vals zs ws → Vals (gV vs zs) (g us ws)
variable {g : List Value → List Value → List Value} {gV : List V → List V → List V}
end
/-- names: the parameters first -/
structure FnScope (N P : List Str) (sc : Scope) : Prop where
  kind : sc.kind = .function
  co : sc.isCoroutine = false
  gen : sc.isGenerator = false
  nd : N.Nodup
  pre : N.take P.length = P
  par : ∀ x ∈ P, sc.names.lookup x = some .local ∨ sc.names.lookup x = some .cell
  nofree : ∀ y ∈ sc.names, y.2 ≠ .free
theorem bindL_out {kindOf : Str → Option NameKind} {x : Str} : ∀ {binds : List (Str × Value)} {m : Str → Option Value}, (∀ v, (x, v) ∉ binds) → bindL kindOf binds m x = m x
  | [], _, _ => rfl
  | (n, v) :: r, m, h => by
    unfold bindL
    rw [bindL_out fun w hw => h w (List.mem_cons_of_mem _ hw)]
    split
    · have : x ≠ n := by rintro rfl; exact h v List.mem_cons_self
      simp [this]
    · rfl
theorem bindC_out {kindOf : Str → Option NameKind} {x : Str} : ∀ {binds : List (Str × Value)} {m : Str → Option Value}, (∀ v, (x, v) ∉ binds) → bindC kindOf binds m x = m x
  | [], _, _ => rfl
  | (n, v) :: r, m, h => by
    unfold bindC
    rw [bindC_out fun w hw => h w (List.mem_cons_of_mem _ hw)]
    split
    · rfl
    · have : x ≠ n := by rintro rfl; exact h v List.mem_cons_self
      simp [this]
theorem bindL_get {kindOf : Str → Option NameKind} {x : Str} {v : Value} : ∀ {P : List Str} {vs : List Value} {i : Nat} {m : Str → Option Value}, P.Nodup → P[i]? = some x → vs[i]? = some v → kindOf x = some .local →
    bindL kindOf (P.zip vs) m x = some v
  | [], _, _, _, _, h, _, _ => by simp at h
  | _ :: _, [], _, _, _, _, h, _ => by simp at h
  | p :: P, w :: vs, 0, m, nd, h1, h2, hk => by
    simp at h1 h2; subst h1; subst h2
    show bindL kindOf ((p, w) :: P.zip vs) m p = _
    unfold bindL
    rw [bindL_out fun v hv => (List.nodup_cons.mp nd).1 (List.of_mem_zip hv).1, if_pos hk]
    simp
  | p :: P, w :: vs, i + 1, m, nd, h1, h2, hk => by
    show bindL kindOf ((p, w) :: P.zip vs) m x = _
    unfold bindL
    exact bindL_get (i := i) (List.nodup_cons.mp nd).2 (by simpa using h1) (by simpa using h2) hk
theorem bindC_get {kindOf : Str → Option NameKind} {x : Str} {v : Value} : ∀ {P : List Str} {vs : List Value} {i : Nat} {m : Str → Option Value}, P.Nodup → P[i]? = some x → vs[i]? = some v → kindOf x ≠ some .local →
    bindC kindOf (P.zip vs) m x = some v
  | [], _, _, _, _, h, _, _ => by simp at h
  | _ :: _, [], _, _, _, _, h, _ => by simp at h
  | p :: P, w :: vs, 0, m, nd, h1, h2, hk => by
    simp at h1 h2; subst h1; subst h2
    show bindC kindOf ((p, w) :: P.zip vs) m p = _
    unfold bindC
    rw [bindC_out fun v hv => (List.nodup_cons.mp nd).1 (List.of_mem_zip hv).1, if_neg hk]
    simp
  | p :: P, w :: vs, i + 1, m, nd, h1, h2, hk => by
    show bindC kindOf ((p, w) :: P.zip vs) m x = _
    unfold bindC
    exact bindC_get (i := i) (List.nodup_cons.mp nd).2 (by simpa using h1) (by simpa using h2) hk
/-- the names' values at the entry -/
def start (N : List Str) (vs : List V) : St := vs.map some ++ List.replicate (N.length - vs.length) none
/-- the context of a def's body, at its entry; an exception leaves the frame, then lies as CX says -/
def cxOf (CX : CXT) (P : Program) (w : World) (K : PySem.W.Frag) (mg : Str → Option Value) (base : Heap) (N : List Str) (qual : Str) (scope : Scope) (f : Addr) (cd : Value) (A : Around) (outer : List Env) (s : Shared) (H : Hp) (E : XK) : Cx where
  prog := P
  w := w
  K := K
  mg := mg
  base := base
  A := A.deeper (envOfC qual scope s.heap.objs.size f cd)
  N := N
  s₀ := s
  H₀ := H
  env := envOfC qual scope s.heap.objs.size f cd
  outer := outer
  stack := envOfC qual scope s.heap.objs.size f cd :: outer
  ex := []
  calm := true
  fn := fun _ => true
  pn := []
  xe := fun e s' => wpAny (model P w) (A.deeper (envOfC qual scope s.heap.objs.size f cd)) (leaving (envOfC qual scope s.heap.objs.size f cd) e) (fun _ s'' => CX outer H s E e s'') (fun e' s'' => CX outer H s E e' s'') s'
theorem cell_has {sc : Scope} {n : Nat} {x : Str} (h : sc.names.lookup x = some .cell) : ∃ c, (cellsFrom n sc.names []).lookup x = some c := by
  have q := PySem.W.cellsFrom_some sc.names n [] (.inl h)
  exact Option.isSome_iff_exists.mp q
theorem inv_start {CX : CXT} {P : Program} {w : World} {K : PySem.W.Frag} {mg : Str → Option Value} {base : Heap} {N ps : List Str} {qual : Str} {scope : Scope} {f : Addr} {cd : Value} {A : Around} {outer : List Env} {s s1 : Shared} {H : Hp} {E : XK} {us : List Value} {vs : List V}
    (S : FnScope N ps scope) (hd : A.handled = none) (e0 : Env0 P w K mg base A outer s H) (hl : vs.length = ps.length) (r : Vals vs us)
    (x : InCallC s s.heap.objs.size (bindL (envOfC qual scope s.heap.objs.size f cd).kindOf (ps.zip us) fun _ => none) (cellsFrom (s.heap.objs.size + 1) scope.names []) (bindC (envOfC qual scope s.heap.objs.size f cd).kindOf (ps.zip us) fun _ => none) s1) :
    Inv (cxOf CX P w K mg base N qual scope f cd A outer s H E) [] (start N vs) H s1 := by
  have hpl : ps.length ≤ N.length := by have := congrArg List.length S.pre; rw [List.length_take] at this; omega
  obtain ⟨h1, tk, rfl, hk⟩ := x.done
  have noA : ∀ b : Addr, b ∉ (cxOf CX P w K mg base N qual scope f cd A outer s H E).ex := fun b z => absurd (show b ∈ ([] : List Addr) from z) (by simp)
  refine ⟨⟨e0.mod, S.kind, rfl, rfl, Nat.le_refl _, fun y z c h1 h2 => ?_, fun y hy => ?_, fun y c _ h => ?_, fun _ => hd, Around.frames_deeper e0.frames, .inr ⟨rfl, rfl⟩, fun b z => absurd z (noA b), e0.bs, e0.bsz, fun b _ _ => noA b, fun b z => absurd z (noA b), e0.funs, e0.frf⟩,
    rfl, e0.bare, Un.kept hk, ⟨_, x.toInCall.ns, fun i y v h1 h2 h3 => ?_⟩, fun y c h => ⟨_, x.cell y c h⟩, e0.hok.fresh (Nat.le_refl _), fun y c h => ?_, fun p hp => absurd (show p ∈ ([] : List (Addr × Obj)) from hp) (by simp), e0.hok.kept hk, ?_⟩
  · exact name_of_addr x.apart (PySem.mem_of_lookup h1) (PySem.mem_of_lookup h2)
  · have hy : scope.names.lookup y = some .cell ∨ scope.names.lookup y = some .free := hy
    rcases hy with hy | hy
    · exact cell_has hy
    · exact absurd rfl (S.nofree _ (PySem.mem_of_lookup hy))
  · exact Nat.le_of_lt (x.above y c (PySem.mem_of_lookup h))
  · have hi : i < vs.length := by
      unfold start at h2
      by_cases hi : i < vs.length
      · exact hi
      · rw [List.getElem?_append_right (by simpa using hi)] at h2
        rw [List.getElem?_replicate] at h2
        split at h2 <;> cases h2
    have ha : vs[i]? = some v := by
      unfold start at h2
      rw [List.getElem?_append_left (by simpa using hi), List.getElem?_map] at h2
      cases e : vs[i]? with
      | none => rw [e] at h2; cases h2
      | some a => rw [e] at h2; cases h2; rfl
    obtain ⟨u, hu, rv⟩ := r.get ha
    have hp : ps[i]? = some y := by
      rw [← S.pre, List.getElem?_take_of_lt (by omega)]; exact h1
    have ndP : ps.Nodup := by rw [← S.pre]; exact S.nd.sublist (List.take_sublist _ _)
    refine ⟨u, rv, ?_⟩
    rcases S.par y (List.mem_of_getElem? hp) with k | k
    · exact .inl ⟨k, bindL_get ndP hp hu k⟩
    · obtain ⟨c, e⟩ := cell_has (n := s.heap.objs.size + 1) k
      refine .inr ⟨.inl k, c, e, ?_⟩
      have q := x.cell y c e
      rw [bindC_get ndP hp hu (by show scope.names.lookup y ≠ _; rw [k]; decide)] at q
      exact q
  · exact e0.hok.fresh (Nat.le_of_lt (x.above y c (PySem.mem_of_lookup h)))
  · unfold start
    show _ = N.length
    rw [List.length_append, List.length_map, List.length_replicate]
    omega
/-- THE RULE: a def (or a method) of the text, by its body. The body's reading t is chosen for each entry; it is run at the parameters' values -/
theorem fn_of {CX : CXT} {P : Program} {w : World} {K : PySem.W.Frag} {mg : Str → Option Value} {base : Heap} {k : Nat} {f : Addr} {name qual : Str} {params : Arguments} {body : List Stmt} {scope : Scope} {dV kV doc pm cdv ct oc : Value} {an od : Option Addr}
    {osl : Array (Option Value)} {N ps : List Str} {sp : Sp} (lk : K.lookup f = some ⟨oc, od, .func (PySem.W.fnOf name qual params body scope dV kV doc pm an cdv ct), osl⟩) (hcd : PySem.W.codeIn K cdv qual = true) (S : FnScope N ps scope)
    (len : ∀ vs H Q E, sp vs H Q E → vs.length = ps.length)
    (hbody : ∀ (A : Around) (outer : List Env) (s : Shared) (H : Hp) (vs : List V) (Q : VK) (E : XK), Room k (A.deeper (envOfC qual scope s.heap.objs.size f cdv)) → sp vs H Q E →
      ∃ t, PSs (cxOf CX P w K mg base N qual scope f cdv A outer s H E) body t ∧ t { nx := fun _ H' => Q .non H', rt := Q } (start N vs) H) :
    FnOk P w K mg base CX (k + 1) f (PySem.W.fnOf name qual params body scope dV kV doc pm an cdv ct) ps sp := by
  refine ⟨len, fun A outer s H args us vs Q E hr e0 hb r hsp => ?_⟩
  have hl := len _ _ _ _ hsp
  have KX : K.In s.heap := e0.mod.kin.keeps fun b o e => (e0.bs b o e).1
  have lim : s.heap.NoLimit := e0.mod.nolimit.keeps fun b o e => (e0.bs b o e).1
  have hkind : ∀ y ∈ ps.zip us, scope.names.lookup y.1 = some .local ∨ (scope.names.lookup y.1 = some .cell ∧ ((cellsFrom (s.heap.objs.size + 1) scope.names []).lookup y.1).isSome = true) := fun ⟨n, v⟩ hy => by
    rcases S.par n (List.of_mem_zip hy).1 with q | q
    · exact .inl q
    · exact .inr ⟨q, PySem.W.cellsFrom_some _ _ _ (.inl q)⟩
  refine codeAny_call_function hr.depth (KX _ _ lk) rfl S.co S.gen rfl (PySem.W.codeRec_of KX hcd) (hb _ _ _ _ ?_)
  refine wpAny_newFunctionEnv_cells S.kind hkind fun env he s1 x => ?_
  subst he
  refine ⟨lim.keeps x.toInCall.keep, codeAny_func ?_⟩
  obtain ⟨t, ht, hq⟩ := hbody A outer s H vs Q E (hr.deeper _) hsp
  have I : Inv (cxOf CX P w K mg base N qual scope f cdv A outer s H E) [] (start N vs) H s1 := inv_start S hr.hd e0 hl r x
  refine wpAny_mono (ht [] s1 (start N vs) H _ I hq) (fun fl s' hs => ?_) fun e s' hs => hs
  have fin : ∀ {σ' : St} {H' : Hp} {v : V} {u : Value}, Inv (cxOf CX P w K mg base N qual scope f cdv A outer s H E) [] σ' H' s' → RelV v u → Q v H' → CE outer P w H s Q u s' :=
    fun {σ' H' v u} J rv q => ⟨v, H', J.os, J.bare, J.base, J.hok, rv, q⟩
  cases fl with
  | ret u =>
    obtain ⟨v, σ', H', J, rv, q⟩ := hs
    exact fin J rv q
  | next =>
    obtain ⟨σ', H', J, q⟩ := hs
    exact fin (v := V.non) (u := Value.none) J rfl q
  | brk =>
    obtain ⟨_, _, _, q⟩ := hs
    exact False.elim q
  | cont =>
    obtain ⟨_, _, _, q⟩ := hs
    exact False.elim q
end L2
namespace L2
open PySem PySem.Spec PyProof.Rows
section
variable {X : Cx} {x : Str} {p pos : Pos} {e : Expr} {es : List Expr} {t : TA} {id T : String} {r : List V → Hp → VK → Prop}
def tCB (r : List V → Hp → VK → Prop) (t : TA) : TE := fun σ H Q => t σ H fun vs H1 => r vs H1 Q
/-- f(e, ..), f a built-in function -/
theorem pe_callB (hc : CallR X (.builtin id) r) (hg : Gl X x) (hm : X.mg x = none) (hv : bootBuiltins x = some (.builtin id)) (ha : PA X (e :: es) t) (hn : x ≠ "__name__" := by decide) (hdb : (x == ("__debug__" : Str)) = false := by decide)
    (he : starEach (e :: es) X.env = (false, eval e X.env) :: starEach es X.env := by rfl) (hpl : (backTo pos (starEach es X.env)).any (·.1) = false := by rfl) : PE X (.Call (.Name x p) (e :: es) [] pos) (tCB r t) := by
  intro pins s σ H Q I h
  refine wpAny_Call_Name_kw (ld_blt I hg hm hv ?_ hn hdb)
  exact PyProof.Rows.callWith_builtin1 (thn (ha pos pins s σ H _ I h) fun us s1 ⟨vs, H1, I1, r1, q1⟩ => hc pins s1 σ H1 vs us Q I1 r1 q1) he hpl
/-- T(e, ..), T a built-in type -/
theorem pe_callTy (hc : CallR X (.type T) r) (hg : Gl X x) (hm : X.mg x = none) (hv : bootBuiltins x = some (.type T)) (ha : PA X (e :: es) t) (hn : x ≠ "__name__" := by decide) (hdb : (x == ("__debug__" : Str)) = false := by decide)
    (he : starEach (e :: es) X.env = (false, eval e X.env) :: starEach es X.env := by rfl) (hpl : (backTo pos (starEach es X.env)).any (·.1) = false := by rfl) : PE X (.Call (.Name x p) (e :: es) [] pos) (tCB r t) := by
  intro pins s σ H Q I h
  refine wpAny_Call_Name_kw (ld_blt I hg hm hv ?_ hn hdb)
  exact PyProof.Rows.callWith_type1 (thn (ha pos pins s σ H _ I h) fun us s1 ⟨vs, H1, I1, r1, q1⟩ => hc pins s1 σ H1 vs us Q I1 r1 q1) he hpl
end
end L2
namespace HT
open PySem PyProof.Rows
section
open PySem.SeqAt
open PySem.AutoSeq1 (wpAny_loadPart')
open PySem.MeetsSeq PySem.MeetsSeq2 PySem.MeetsSeq3
end
section
variable {prog : Program} {w : World} {A : Around} {E : Value → Shared → Prop} {s : Shared}
/-- a slice's bound as a place among n (d where it is left out) -/
def sIx (n d : Nat) : Option Int → Nat
  | none => d
  | some v => if v < 0 then (v + (n : Int)).toNat else min v.toNat n
theorem sIx_nat (n d k : Nat) : sIx n d (some (k : Int)) = min k n := by
  show (if (k : Int) < 0 then ((k : Int) + (n : Int)).toNat else min (k : Int).toNat n) = min k n
  rw [if_neg (by omega), Int.toNat_natCast]
end
end HT
namespace L2
open PySem PySem.Spec PyProof.Rows
abbrev TO := St → Hp → (Option Int → Hp → Prop) → Prop
/-- a slice's part (left out, or an int) -/
def PO (X : Cx) (e : Option Expr) (t : TO) : Prop :=
  ∀ (pins : List (Addr × Obj)) (s : Shared) (σ : St) (H : Hp) (Q : Option Int → Hp → Prop), Inv X pins σ H s → t σ H Q →
    wpAny (model X.prog X.w) X.A (evalPart e X.env) (fun u s' => ∃ o H', Inv X pins σ H' s' ∧ IsPart u o ∧ Q o H') X.xe s
def tNoPart : TO := fun _ H Q => Q none H
def tPart (t : TE) : TO := fun σ H Q => t σ H fun x H1 => ∃ i, x = .int i ∧ Q (some i) H1
section
variable {X : Cx} {e : Expr} {te : TE} {lo hi : Option Expr} {tl th : TO} {pos p2 : Pos}
theorem po_none : PO X none tNoPart := by
  intro pins s σ H Q I h
  rw [evalPart_none]
  exact wpAny_pure ⟨none, H, I, .none, h⟩
theorem po_some (h : PE X e te) : PO X (some e) (tPart te) := by
  intro pins s σ H Q I hw
  rw [evalPart_some]
  refine thn (h pins s σ H _ I hw) fun u s1 ⟨x, H1, I1, r1, q1⟩ => ?_
  obtain ⟨i, rfl, q⟩ := q1
  obtain ⟨t, rfl⟩ := r1
  exact ⟨some i, H1, I1, .int i t, q⟩
/-- what a slice of a value is, by values: the slice object stands at sl -/
def SlR (X : Cx) (r : V → Option Int → Option Int → Hp → VK → Prop) : Prop :=
  ∀ (pins : List (Addr × Obj)) (s : Shared) (σ : St) (H : Hp) (x : V) (v vl vu : Value) (lo hi : Option Int) (sl : Addr) (Q : VK), Inv X pins σ H s → RelV x v → s.heap.IsSliceOf sl vl vu .none → IsPart vl lo → IsPart vu hi → r x lo hi H Q →
    ∃ T id, typeLookup (.type T) "__getitem__" = pure (some (.builtin id)) ∧ s.TypeIs v T ∧ wpAny (model X.prog X.w) X.A (getItem v (.ref sl)) (EP X pins σ Q) X.xe s
theorem SlR.or {r r' : V → Option Int → Option Int → Hp → VK → Prop} (h : SlR X r) (h' : SlR X r') : SlR X (fun x lo hi H Q => r x lo hi H Q ∨ r' x lo hi H Q) := by
  intro pins s σ H x v vl vu lo hi sl Q I rx hs pl pu q
  rcases q with q | q
  · exact h pins s σ H x v vl vu lo hi sl Q I rx hs pl pu q
  · exact h' pins s σ H x v vl vu lo hi sl Q I rx hs pl pu q
def tSl (r : V → Option Int → Option Int → Hp → VK → Prop) (te : TE) (tl th : TO) : TE := fun σ H Q => te σ H fun x H1 => tl σ H1 fun l H2 => th σ H2 fun u H3 => r x l u H3 Q
/-- a[lo:hi], any a -/
theorem pe_slice {r : V → Option Int → Option Int → Hp → VK → Prop} (hr : SlR X r) (he : PE X e te) (hl : PO X lo tl) (hu : PO X hi th) : PE X (.Subscript e (.Slice lo hi none p2) pos) (tSl r te tl th) := by
  intro pins s σ H Q I h
  refine Subscript_ (thn (he pins s σ H _ I h) fun v s1 ⟨x, H1, I1, r1, q1⟩ => ?_)
  refine wpAny_Slice (thn (hl pins s1 σ H1 _ I1 q1) fun vl s2 ⟨l, H2, I2, pl, q2⟩ => thn (hu pins s2 σ H2 _ I2 q2) fun vu s3 ⟨u, H3, I3, pu, q3⟩ => ?_)
  rw [evalPart_none]
  refine wpAny_pure ?_
  have I4 : Inv X pins σ H3 { s3 with heap := s3.heap.push { cls := .type "slice", data := .fields #[vl, vu, .none] } } := I3.kept (t' := s3.toks) fun b ob q => Heap.get?_push_of_some _ q
  obtain ⟨T, id, hT, ht, hg⟩ := hr pins { s3 with heap := s3.heap.push { cls := .type "slice", data := .fields #[vl, vu, .none] } } σ H3 x v vl vu l u s3.heap.objs.size Q I4 r1 (Heap.IsSliceOf.new ..) pl pu q3
  show wpAny (model X.prog X.w) X.A (subscriptTail e (.Slice lo hi none p2) v (.ref s3.heap.objs.size)) (EP X pins σ Q) X.xe { s3 with heap := s3.heap.push { cls := .type "slice", data := .fields #[vl, vu, .none] } }
  exact tail_any (ops := [.ref s3.heap.objs.size, v]) ht hT hg (by with_unfolding_all rfl)
/-- the items of xs[lo:hi] -/
def cutV (xs : List V) (lo hi : Option Int) : List V := (xs.drop (HT.sIx xs.length 0 lo)).take (HT.sIx xs.length xs.length hi - HT.sIx xs.length 0 lo)
theorem cutV_length (xs : List V) (lo hi : Option Int) : (cutV xs lo hi).length ≤ xs.length := by
  unfold cutV
  rw [List.length_take, List.length_drop]
  omega
end
end L2
namespace L2
open PySem PySem.Spec PyProof.Rows
/-- the place that an index of any sign means -/
def ixN (n : Nat) (i : Int) : Option Nat := if 0 ≤ i then (if i < n then some i.toNat else none) else if -(n : Int) ≤ i then some (i + n).toNat else none
def atI {α : Type} (xs : List α) (i : Int) : Option α := (ixN xs.length i).bind fun j => xs[j]?
theorem ixN_seq {n : Nat} {i : Int} {j : Nat} (h : ixN n i = some j) : seqIndex? i n = some j ∧ j < n ∧ -(n : Int) ≤ i ∧ i < n := by
  unfold ixN at h
  by_cases h0 : 0 ≤ i
  · rw [if_pos h0] at h
    by_cases h1 : i < n
    · rw [if_pos h1] at h
      have e : i.toNat = j := Option.some.inj h
      exact ⟨by rw [seqIndex_of h0 h1, e], by omega, by omega, h1⟩
    · rw [if_neg h1] at h; cases h
  · rw [if_neg h0] at h
    by_cases h1 : -(n : Int) ≤ i
    · rw [if_pos h1] at h
      have e : (i + n).toNat = j := Option.some.inj h
      exact ⟨by rw [seqIndex_neg (by omega) h1, e], by omega, h1, by omega⟩
    · rw [if_neg h1] at h; cases h
theorem atI_get {α : Type} {xs : List α} {i : Int} {v : α} (h : atI xs i = some v) : ∃ j, seqIndex? i xs.length = some j ∧ xs[j]? = some v ∧ j < xs.length ∧ -(xs.length : Int) ≤ i ∧ i < xs.length := by
  unfold atI at h
  cases e : ixN xs.length i with
  | none => rw [e] at h; cases h
  | some j =>
    rw [e] at h
    obtain ⟨h1, h2, h3, h4⟩ := ixN_seq e
    exact ⟨j, h1, h, h2, h3, h4⟩
theorem atI_nat {α : Type} {xs : List α} {j : Nat} {v : α} (h : xs[j]? = some v) : atI xs (j : Int) = some v := by
  have hj : j < xs.length := (List.getElem?_eq_some_iff.mp h).1
  have e : ixN xs.length (j : Int) = some j := by
    unfold ixN
    rw [if_pos (by omega), if_pos (by omega)]; simp
  unfold atI; rw [e]; exact h
/-- what stands as an index of a plain subscript -/
def PlainIx (b : Expr) : Prop := ∀ o i, subscripted b false o i = operate [o, i] (getItem o i)
/-- a subscript by values -/
def IxR (X : Cx) (r : R2) : Prop :=
  ∀ (value slice : Expr) (pins : List (Addr × Obj)) (s : Shared) (σ : St) (H : Hp) (x y : V) (v u : Value) (Q : VK), Inv X pins σ H s → RelV x v → RelV y u → r x y H Q →
    subscripted slice false v u = operate [v, u] (getItem v u) → wpAny (model X.prog X.w) X.A (subscriptTail value slice v u) (EP X pins σ Q) X.xe s
/-- a call of a builtin's method by values: the receiver, the arguments -/
def MtR (X : Cx) (id : String) (r : V → List V → Hp → VK → Prop) : Prop :=
  ∀ (pins : List (Addr × Obj)) (s : Shared) (σ : St) (H : Hp) (x : V) (xs : List V) (v : Value) (us : List Value) (Q : VK), Inv X pins σ H s → RelV x v → Vals xs us → r x xs H Q →
    wpAny (model X.prog X.w) X.A (call (.builtin id) (v :: us)) (EP X pins σ Q) X.xe s
section
variable {X : Cx} {a b : Expr} {ta tb : TE} {pos : Pos}
theorem IxR.or {r r' : R2} (h : IxR X r) (h' : IxR X r') : IxR X (fun x y H Q => r x y H Q ∨ r' x y H Q) := by
  intro value slice pins s σ H x y v u Q I rx ry q hs
  rcases q with q | q
  · exact h value slice pins s σ H x y v u Q I rx ry q hs
  · exact h' value slice pins s σ H x y v u Q I rx ry q hs
theorem MtR.or {id : String} {r r' : V → List V → Hp → VK → Prop} (h : MtR X id r) (h' : MtR X id r') : MtR X id (fun x xs H Q => r x xs H Q ∨ r' x xs H Q) := by
  intro pins s σ H x xs v us Q I rx rs q
  rcases q with q | q
  · exact h pins s σ H x xs v us Q I rx rs q
  · exact h' pins s σ H x xs v us Q I rx rs q
/-- a[b] -/
theorem pe_ix {r : R2} (hr : IxR X r) (ha : PE X a ta) (hb : PE X b tb) (hs : PlainIx b) : PE X (.Subscript a b pos) (tOp r ta tb) := by
  intro pins s σ H Q I h
  exact Subscript_ (binT ha hb I h fun v u s2 x y H2 I2 rx ry q => hr a b pins s2 σ H2 x y v u Q I2 rx ry q (hs _ _))
def rIxL (K : PySem.W.Frag) : R2 := fun x y H Q => ∃ p xs i v, x = .ref p ∧ y = .int i ∧ SqL K H p xs ∧ atI xs i = some v ∧ Q v H
def rIxT (K : PySem.W.Frag) : R2 := fun x y H Q => ∃ p xs i v, x = .ref p ∧ y = .int i ∧ SqT K H p xs ∧ atI xs i = some v ∧ Q v H
def rIxS : R2 := fun x y H Q => ∃ z i c, x = .str z ∧ y = .int i ∧ z.length ≤ sizeLine ∧ atI z.cps.toList i = some c ∧ Q (.str ⟨#[c]⟩) H
theorem ix_list : IxR X (rIxL X.K) := by
  intro value slice pins s σ H x y v u Q I rx ry h hs
  obtain ⟨p, xs, i, z, rfl, rfl, hq, he, q⟩ := h
  cases rx
  obtain ⟨t, rfl⟩ := ry
  obtain ⟨its, r, pl, hz⟩ := I.list hq
  obtain ⟨j, h1, h2, h3, h4, h5⟩ := atI_get he
  obtain ⟨w, ew, rw'⟩ := r.get h2
  have hl := r.length
  have hn := line63
  have fin : EP X pins σ Q w s := ⟨z, H, I, rw', q⟩
  by_cases h0 : 0 ≤ i
  · have hj : i.toNat = j := by
      rw [seqIndex_of h0 h5] at h1
      exact Option.some.inj h1
    exact item_listR pl.isList h0 (by omega) (by rw [hj]; simpa using ew) fin hs
  · have hj : (i + (its.toArray.size : Int)).toNat = j := by
      rw [seqIndex_neg (by omega) h4] at h1
      rw [List.size_toArray, ← hl]
      exact Option.some.inj h1
    exact subscriptTail_builtinR (x := w) pl.isList.typeIs slot_list_getitem.lookup
      (wpAny_getItem_list_neg (Q := fun r s' => r = w ∧ EP X pins σ Q r s') pl.isList (by omega) (by rw [List.size_toArray] <;> omega) (by omega) (by rw [hj]; simpa using ew) ⟨rfl, fin⟩) hs
theorem ix_tup : IxR X (rIxT X.K) := by
  intro value slice pins s σ H x y v u Q I rx ry h hs
  obtain ⟨p, xs, i, z, rfl, rfl, hq, he, q⟩ := h
  cases rx
  obtain ⟨t, rfl⟩ := ry
  obtain ⟨its, r, pl, hz⟩ := I.tuple hq
  obtain ⟨j, h1, h2, h3, h4, h5⟩ := atI_get he
  obtain ⟨w, ew, rw'⟩ := r.get h2
  have hl := r.length
  have hn := line63
  have fin : EP X pins σ Q w s := ⟨z, H, I, rw', q⟩
  exact subscriptTail_builtinR (x := w) pl.typeIs slot_tuple_getitem.lookup
    (getItem_tuple (j := j) (Q := fun r s' => r = w ∧ EP X pins σ Q r s') pl (by omega) (by omega) (by rw [List.size_toArray, ← hl]; exact h1) (by simpa using ew) ⟨rfl, fin⟩) hs
theorem ix_str : IxR X rIxS := by
  intro value slice pins s σ H x y v u Q I rx ry h hs
  obtain ⟨z, i, c, rfl, rfl, hz, he, q⟩ := h
  obtain ⟨t, rfl⟩ := rx
  obtain ⟨t', rfl⟩ := ry
  obtain ⟨j, h1, h2, h3, h4, h5⟩ := atI_get he
  have hl : z.cps.toList.length = z.length := by simp [Str.length]
  rw [hl] at h1 h4 h5
  have hn := line63
  exact tail_any (typeIs_str s z t) slot_str_getitem.lookup (getItem_str (c := c) (by
    have e1 : decide (i < -(2 ^ 63 : Int)) = false := decide_eq_false (by omega)
    have e2 : decide (i ≥ 2 ^ 63) = false := decide_eq_false (by omega)
    rw [e1, e2, Bool.or_false]) (by rw [h1]; simpa using h2) ⟨.str ⟨#[c]⟩, H, I.tok _, ⟨_, rfl⟩, q⟩) hs
/-- list, tuple or str -/
def rIx (K : PySem.W.Frag) : R2 := fun x y H Q => rIxL K x y H Q ∨ rIxT K x y H Q ∨ rIxS x y H Q
theorem ix_seq : IxR X (rIx X.K) := ix_list.or (ix_tup.or ix_str)
theorem Inv.lst {pins : List (Addr × Obj)} {σ : St} {H : Hp} {s : Shared} {p : Addr} {xs : List V} (I : Inv X pins σ H s) (h : H p = some (.lst xs)) :
    ∃ (its : List Value) (n : Nat), Vals xs its ∧ s.heap.get? p = some { cls := .type "list", data := .seq its.toArray n } ∧ xs.length ≤ sizeLine := by
  obtain ⟨z, its, n, r, e⟩ := I.hok p _ h
  exact ⟨its, n, r, e, z⟩
theorem slice_bounds (lo hi : Option Int) (n : Nat) : (sliceBounds lo hi none n).1 = ((HT.sIx n 0 lo : Nat) : Int) ∧ (sliceBounds lo hi none n).2.1 = ((HT.sIx n n hi : Nat) : Int) ∧ (sliceBounds lo hi none n).2.2 = 1 := by
  refine ⟨?_, ?_, rfl⟩
  · cases lo with
    | none => simp [sliceBounds, HT.sIx]
    | some i =>
      simp only [sliceBounds, HT.sIx, Option.getD_none, show (1 : Int) > 0 by decide, if_true]
      by_cases h : i < 0
      · simp only [h, if_true] <;> omega
      · simp only [h, if_false] <;> omega
  · cases hi with
    | none => simp [sliceBounds, HT.sIx]
    | some i =>
      simp only [sliceBounds, HT.sIx, Option.getD_none, show (1 : Int) > 0 by decide, if_true]
      by_cases h : i < 0
      · simp only [h, if_true] <;> omega
      · simp only [h, if_false] <;> omega
theorem slicePick_cut (its : List Value) (lo hi : Option Int) : slicePick its.toArray lo hi none = ((its.drop (HT.sIx its.length 0 lo)).take (HT.sIx its.length its.length hi - HT.sIx its.length 0 lo)).toArray := by
  obtain ⟨h1, h2, h3⟩ := slice_bounds lo hi its.toArray.size
  unfold slicePick
  rw [h1, h2, h3]
  simp only [sliceRange_one, pick_run, List.size_toArray] <;> rfl
/-- xs[lo:hi] of a list: a new list -/
def rSlL (K : PySem.W.Frag) : V → Option Int → Option Int → Hp → VK → Prop := fun x lo hi H Q => ∃ a xs, x = .ref a ∧ SqL K H a xs ∧ ∀ p, H p = none → Q (.ref p) (upd H p (.lst (cutV xs lo hi)))
theorem sl_list : SlR X (rSlL X.K) := by
  intro pins s σ H x v vl vu lo hi sl Q I rx hs pl pu h
  obtain ⟨a, xs, rfl, hx, q⟩ := h
  cases rx
  obtain ⟨its, r, ht, hz⟩ := I.list hx
  have hlen := r.length
  refine ⟨"list", _, slot_list_getitem.lookup, ht.isList.typeIs, ?_⟩
  refine wpAny_getItem_list_slice ht.isList hs pl pu .none (by simp) ?_ (by rw [List.size_toArray] <;> omega)
  rw [slicePick_cut, ← hlen]
  refine ⟨.ref s.heap.objs.size, _, I.laid (t' := s.toks) (o := .lst (cutV xs lo hi)) (fun b ob q => Heap.get?_push_of_some _ q) (Nat.le_refl _) ?_, rfl, q _ (I.hok.fresh (Nat.le_refl _))⟩
  exact ⟨Nat.le_trans (cutV_length xs lo hi) hz, _, 0, (r.drop (HT.sIx xs.length 0 lo)).take (HT.sIx xs.length xs.length hi - HT.sIx xs.length 0 lo), Heap.get?_push_size _ rfl⟩
def flatV : V → Bool
  | .non => true
  | .bl _ => true
  | .int _ => true
  | .str _ => true
  | _ => false
/-- == of flat values -/
def eqV : V → V → Bool
  | .non, .non => true
  | .bl a, .bl b => a == b
  | .bl a, .int b => (if a then 1 else 0) == b
  | .int a, .bl b => a == (if b then 1 else 0)
  | .int a, .int b => a == b
  | .str a, .str b => a == b
  | _, _ => false
theorem eqAt_V {A : Around} {s : Shared} {y x : V} {u v : Value} (ry : RelV y u) (rx : RelV x v) (fy : flatV y = true) (fx : flatV x = true) : SeqAt.EqAt A s u v (eqV y x) := by
  cases y with
  | non =>
    cases ry
    cases x with
    | non => cases rx; exact SeqAt.EqAt.same _
    | bl b => cases rx; exact SeqAt.EqAt.none_bool b
    | int b => obtain ⟨t, rfl⟩ := rx; exact SeqAt.EqAt.none_int b t
    | str b => obtain ⟨t, rfl⟩ := rx; exact SeqAt.EqAt.none_str b t
    | _ => exact absurd (show false = true from fx) Bool.false_ne_true
  | bl a =>
    cases ry
    cases x with
    | non => cases rx; exact SeqAt.EqAt.bool_none a
    | bl b => cases rx; exact SeqAt.EqAt.bool_bool a b
    | int b => obtain ⟨t, rfl⟩ := rx; exact SeqAt.EqAt.bool_int a b t
    | str b => obtain ⟨t, rfl⟩ := rx; exact SeqAt.EqAt.bool_str a b t
    | _ => exact absurd (show false = true from fx) Bool.false_ne_true
  | int a =>
    obtain ⟨t', rfl⟩ := ry
    cases x with
    | non => cases rx; exact SeqAt.EqAt.int_none a t'
    | bl b => cases rx; exact SeqAt.EqAt.int_bool a t' b
    | int b => obtain ⟨t, rfl⟩ := rx; exact SeqAt.EqAt.int_int a t' b t
    | str b => obtain ⟨t, rfl⟩ := rx; exact SeqAt.EqAt.int_str a t' b t
    | _ => exact absurd (show false = true from fx) Bool.false_ne_true
  | str a =>
    obtain ⟨t', rfl⟩ := ry
    cases x with
    | non => cases rx; exact SeqAt.EqAt.str_none a t'
    | bl b => cases rx; exact SeqAt.EqAt.str_bool a t' b
    | int b => obtain ⟨t, rfl⟩ := rx; exact SeqAt.EqAt.str_int a t' b t
    | str b => obtain ⟨t, rfl⟩ := rx; exact SeqAt.EqAt.str_str a t' b t
    | _ => exact absurd (show false = true from fx) Bool.false_ne_true
  | _ => exact absurd (show false = true from fy) Bool.false_ne_true
/-- the items' answers, read off the values (a value's own answer does not lean on its token) -/
def eqU (x : V) (u : Value) : Bool := match u with
  | .none => eqV .non x
  | .bool b => eqV (.bl b) x
  | .int i _ => eqV (.int i) x
  | .str z _ => eqV (.str z) x
  | _ => false
theorem eqU_of {x y : V} {u : Value} (r : RelV y u) (f : flatV y = true) : eqU x u = eqV y x := by
  cases y with
  | non => cases r; rfl
  | bl b => cases r; rfl
  | int i => obtain ⟨t, rfl⟩ := r; rfl
  | str z => obtain ⟨t, rfl⟩ := r; rfl
  | _ => exact absurd (show false = true from f) Bool.false_ne_true
theorem any_eqU {x : V} : ∀ {xs : List V} {us : List Value}, Vals xs us → xs.all flatV = true → us.any (eqU x) = xs.any fun y => eqV y x
  | _, _, .nil, _ => rfl
  | y :: xs, u :: us, .cons r t, f => by
    rw [List.all_cons, Bool.and_eq_true] at f
    rw [List.any_cons, List.any_cons, eqU_of r f.1, any_eqU t f.2]
theorem mem_eqAt {A : Around} {s : Shared} {x : V} {v : Value} (rx : RelV x v) (fx : flatV x = true) : ∀ {xs : List V} {us : List Value}, Vals xs us → xs.all flatV = true → ∀ u ∈ us, SeqAt.EqAt A s u v (eqU x u)
  | _, _, .nil, _ => fun u hu => by cases hu
  | y :: xs, u :: us, .cons r t, f => fun u' hu => by
    rw [List.all_cons, Bool.and_eq_true] at f
    rcases List.mem_cons.mp hu with rfl | hu
    · rw [eqU_of r f.1]; exact eqAt_V r rx f.1 fx
    · exact mem_eqAt rx fx t f.2 u' hu
def inV (x : V) (xs : List V) : Bool := xs.any fun y => eqV y x
/-- x in a list or tuple of flat items -/
def rIn (K : PySem.W.Frag) (neg : Bool) : R2 := fun x y H Q => ∃ p xs, y = .ref p ∧ (SqL K H p xs ∨ SqT K H p xs) ∧ flatV x = true ∧ xs.all flatV = true ∧ Q (.bl (if neg then !inV x xs else inV x xs)) H
theorem op_in_seq : OpR X (compareOp .In) (rIn X.K false) := by
  intro pins s σ H x y v u Q I rx ry h
  obtain ⟨p, xs, rfl, hq, fx, fs, q⟩ := h
  cases ry
  rcases hq with hq | hq
  · obtain ⟨its, r, pl, hz⟩ := I.list hq
    refine SeqAt.in_listAt (eqU x) pl.isList (fun w hw => mem_eqAt rx fx r fs w (by simpa using hw)) ⟨.bl _, H, I, rfl, ?_⟩
    rw [show its.toArray.any (eqU x) = its.any (eqU x) by simp, any_eqU r fs]
    exact q
  · obtain ⟨its, r, pl, hz⟩ := I.tuple hq
    refine SeqAt.in_tupleAt (eqU x) pl (fun w hw => mem_eqAt rx fx r fs w (by simpa using hw)) ⟨.bl _, H, I, rfl, ?_⟩
    rw [show its.toArray.any (eqU x) = its.any (eqU x) by simp, any_eqU r fs]
    exact q
theorem call_len_seq : CallR X (.builtin "len") (fun xs H Q => ∃ p ys, xs = [.ref p] ∧ (SqL X.K H p ys ∨ SqT X.K H p ys) ∧ Q (.int ys.length) H) := by
  intro pins s σ H xs us Q I r h
  obtain ⟨p, ys, rfl, hq, q⟩ := h
  obtain ⟨u, rfl, rx⟩ := vals1 r
  cases rx
  have hn := line63
  rcases hq with hq | hq
  · obtain ⟨its, r', pl, hz⟩ := I.list hq
    have hlen := r'.length
    exact Calls.call_len_list pl.isList (by simp only [List.size_toArray] <;> omega) ⟨.int ys.length, H, I.tok _, ⟨s.toks + 1, by rw [List.size_toArray, hlen]⟩, q⟩
  · obtain ⟨its, r', pl, hz⟩ := I.tuple hq
    have hlen := r'.length
    exact len_tuple pl (by simp only [List.size_toArray] <;> omega) ⟨.int ys.length, H, I.tok _, ⟨s.toks + 1, by rw [List.size_toArray, hlen]⟩, q⟩
theorem call_len_str : CallR X (.builtin "len") (fun xs H Q => ∃ z, xs = [.str z] ∧ z.length ≤ sizeLine ∧ Q (.int z.length) H) := by
  intro pins s σ H xs us Q I r h
  obtain ⟨z, rfl, hz, q⟩ := h
  obtain ⟨u, rfl, t, rfl⟩ := vals1 r
  have hn := line63
  exact len_str (by omega) ⟨.int z.length, H, I.tok _, ⟨_, rfl⟩, q⟩
theorem CallR.or {f : Value} {r r' : List V → Hp → VK → Prop} (h : CallR X f r) (h' : CallR X f r') : CallR X f (fun xs H Q => r xs H Q ∨ r' xs H Q) := by
  intro pins s σ H xs us Q I rs q
  rcases q with q | q
  · exact h pins s σ H xs us Q I rs q
  · exact h' pins s σ H xs us Q I rs q
/-- the value is of that builtin type -/
def tyV (K : PySem.W.Frag) (T : String) (x : V) (H : Hp) : Prop := match x with
  | .str _ => T = "str"
  | .int _ => T = "int"
  | .ref p => (T = "list" ∧ ∃ xs, SqL K H p xs) ∨ (T = "tuple" ∧ ∃ o, K.lookup p = some o ∧ o.cls = .type "tuple" ∧ o.dict = none) ∨
      (T = "dict" ∧ ((∃ kvs, H p = some (.dK kvs)) ∨ ∃ kvs, H p = some (.dT kvs))) ∨ (T = "set" ∧ ∃ S n, H p = some (.set S n))
  | _ => False
theorem tyV_is {pins : List (Addr × Obj)} {σ : St} {H : Hp} {s : Shared} {T : String} {x : V} {v : Value} (I : Inv X pins σ H s) (r : RelV x v) (ty : tyV X.K T x H) :
    s.TypeIs v T ∧ ∀ a, v = .ref a → ∃ ob, s.heap.get? a = some ob ∧ ob.dict = none := by
  cases x with
  | str z =>
    obtain ⟨t, rfl⟩ := r
    cases (show T = "str" from ty)
    exact ⟨typeIs_str s z t, fun _ e => nomatch e⟩
  | int i =>
    obtain ⟨t, rfl⟩ := r
    cases (show T = "int" from ty)
    exact ⟨typeIs_int s i t, fun _ e => nomatch e⟩
  | ref p =>
    cases r
    rcases ty with ⟨rfl, xs, hq⟩ | ⟨rfl, o, hk, hc, hd⟩ | ⟨rfl, hk⟩ | ⟨rfl, S, n, hk⟩
    · obtain ⟨its, _, pl, _⟩ := I.list hq
      refine ⟨pl.isList.typeIs, fun a e => ?_⟩
      cases e
      obtain ⟨o, n, e, c, hd, _⟩ := pl
      exact ⟨o, e, hd⟩
    · refine ⟨⟨o, I.kIn p o hk, hc⟩, fun a e => ?_⟩
      cases e
      exact ⟨o, I.kIn _ o hk, hd⟩
    · have z : ∃ o, s.heap.get? p = some o ∧ o.ExactDict := by
        rcases hk with ⟨kvs, hk⟩ | ⟨kvs, hk⟩
        · obtain ⟨_, _, _, _, o, _, _, e, ex, _⟩ := I.hok p _ hk
          exact ⟨o, e, ex⟩
        · obtain ⟨_, _, _, _, o, _, _, e, ex, _⟩ := I.hok p _ hk
          exact ⟨o, e, ex⟩
      obtain ⟨o, e, ex⟩ := z
      refine ⟨⟨o, e, ex.1⟩, fun a e2 => ?_⟩
      cases e2
      exact ⟨o, e, ex.2.1⟩
    · obtain ⟨o, _, _, _, e, ex, _⟩ := I.hok p _ hk
      refine ⟨⟨o, e, ex.1⟩, fun a e2 => ?_⟩
      cases e2
      exact ⟨o, e, ex.2.1⟩
  | _ => exact False.elim ty
def tBM0 (K : PySem.W.Frag) (T : String) (r : V → List V → Hp → VK → Prop) (to : TE) : TE := fun σ H Q => to σ H fun x H1 => tyV K T x H1 ∧ r x [] H1 Q
def tBM (K : PySem.W.Frag) (T : String) (r : V → List V → Hp → VK → Prop) (to : TE) (t : TA) : TE := fun σ H Q => to σ H fun x H1 => tyV K T x H1 ∧ t σ H1 fun xs H2 => r x xs H2 Q
variable {o e : Expr} {es : List Expr} {to : TE} {t : TA} {name : Str} {apos cpos : Pos} {T id : String} {r : V → List V → Hp → VK → Prop}
theorem pe_bm (pa : PlainAttrs T) (slot : Slot T name id) (hty : typeOf (.builtin id) = pure (.type "method_descriptor")) (hm : MtR X id r) (ho : PE X o to) (ha : PA X (e :: es) t)
    (hbase : attributeBase o name X.env (eval o X.env) = eval o X.env := by rfl)
    (hfew : ((backTo cpos (starEach (e :: es) X.env)).all (fun x => !x.1) && (backToKw cpos (keywordEach [] X.env)).all (fun x => x.1.isSome)
      && decide ((e :: es).length + ([] : List Keyword).length + (if ([] : List Keyword).isEmpty then 0 else 1) < 30)) = true := by rfl)
    (hline : (apos.endLine == cpos.line) = true := by rfl) (hs : starEach (e :: es) X.env = (false, eval e X.env) :: starEach es X.env := by rfl) (hplain : (backTo cpos (starEach es X.env)).any (·.1) = false := by rfl) :
    PE X (.Call (.Attribute o name apos) (e :: es) [] cpos) (tBM X.K T r to t) := by
  intro pins s σ H Q I h
  refine wpAny_Call_method_late hbase hfew hline rfl (thn (ho pins s σ H _ I h) fun v s1 ⟨x, H1, I1, r1, ty, q1⟩ => ?_)
  obtain ⟨h1, h2⟩ := tyV_is I1 r1 ty
  refine ⟨T, id, pa, slot, hty, h1, h2, ?_⟩
  have hA := ha cpos pins s1 σ H1 _ I1 q1
  rw [hs] at hA ⊢
  refine Calls.callWith_builtin (by show (false || (backTo cpos (starEach es X.env)).any (·.1)) = false; rw [hplain] <;> rfl) (Calls.evalArgs_plain ?_)
  exact thn hA fun us s2 ⟨vs, H2, I2, r2, q2⟩ => hm pins s2 σ H2 x vs v us Q I2 r1 r2 q2
/- xs.append(e), list.index on a module's tuple .. are MtR facts of 06m -/
end
end L2
namespace L2
open PySem PySem.Spec PyProof.Rows
def MtM (X : Cx) (id : String) (r : V → List V → Hp → VK → Prop) : Prop :=
  ∀ (pins : List (Addr × Obj)) (s : Shared) (σ : St) (H : Hp) (x : V) (xs : List V) (v : Value) (us : List Value) (Q : VK), Inv X pins σ H s → RelV x v → Vals xs us → r x xs H Q →
    wpAny (model X.prog X.w) X.A (call (.builtin id) (v :: us)) (EP X pins σ Q) X.xe s
theorem Vals.one : ∀ {x : V} {us : List Value}, Vals [x] us → ∃ u, us = [u] ∧ RelV x u
  | _, _, .cons r .nil => ⟨_, rfl, r⟩
theorem Vals.two : ∀ {x y : V} {us : List Value}, Vals [x, y] us → ∃ u v, us = [u, v] ∧ RelV x u ∧ RelV y v
  | _, _, _, .cons r (.cons q .nil) => ⟨_, _, rfl, r, q⟩
theorem Vals.zero : ∀ {us : List Value}, Vals [] us → us = []
  | _, .nil => rfl
theorem Vals.reverse {xs : List V} {us : List Value} (h : Vals xs us) : Vals xs.reverse us.reverse := by
  induction h with
  | nil => exact .nil
  | cons r t ih => rw [List.reverse_cons, List.reverse_cons]; exact Vals.append ih (.cons r .nil)
theorem Vals.rep {xs : List V} {us : List Value} (h : Vals xs us) : ∀ k : Nat, Vals (List.replicate k xs).flatten (List.replicate k us).flatten
  | 0 => .nil
  | k + 1 => by
    rw [List.replicate_succ, List.replicate_succ, List.flatten_cons, List.flatten_cons]
    exact Vals.append h (Vals.rep h k)
section
variable {X : Cx} {pins : List (Addr × Obj)} {σ : St} {H : Hp} {s : Shared} {l b : Addr} {xs ys zs : List V}
theorem Inv.lset {its its' : List Value} {n : Nat} {f : Array Value → Array Value} {t' : Nat} (I : Inv X pins σ H s) (hH : H l = some (.lst xs))
    (e : s.heap.get? l = some { cls := .type "list", data := .seq its.toArray n }) (hf : f its.toArray = its'.toArray) (hv : Vals ys its') (hz : ys.length ≤ sizeLine) :
    Inv X pins σ (upd H l (.lst ys)) { s with heap := s.heap.update l (Obj.mapSeq f), toks := t' } := by
  have q := PySem.IsL.update e f
  rw [hf] at q
  refine I.write (x := l) (e := l) (by rw [hH]; exact trivial) (.inl rfl) (fun b' u hb hu => (Heap.get?_update_other s.heap (Obj.mapSeq f) (Ne.symm hb)).trans hu) ⟨_, q⟩ ?_
  exact ⟨hz, its', _, hv, q⟩
theorem Inv.lnew {its : List Value} {t' : Nat} (I : Inv X pins σ H s) (hv : Vals ys its) (hz : ys.length ≤ sizeLine) :
    Inv X pins σ (upd H s.heap.objs.size (.lst ys)) { s with heap := s.heap.push { cls := .type "list", data := .seq its.toArray }, toks := t' } :=
  I.laid (fun _ _ q => Heap.get?_push_of_some _ q) (Nat.le_refl _) ⟨hz, its, 0, hv, Heap.get?_push_size _ rfl⟩
theorem Inv.fresh (I : Inv X pins σ H s) : H s.heap.objs.size = none := I.hok.fresh (Nat.le_refl _)
theorem Inv.lstM (I : Inv X pins σ H s) (hH : H l = some (.lst xs)) : xs.length ≤ sizeLine ∧ ∃ (its : List Value) (n : Nat), Vals xs its ∧ xs.length = its.length ∧ s.heap.get? l = some { cls := .type "list", data := .seq its.toArray n } := by
  obtain ⟨z, its, n, r, e⟩ := I.hok l _ hH
  exact ⟨z, its, n, r, r.length, e⟩
end
section
variable {X : Cx}
def rAppend : V → List V → Hp → VK → Prop := fun x vs H Q => ∃ l xs y, x = .ref l ∧ vs = [y] ∧ H l = some (.lst xs) ∧ xs.length < sizeLine ∧ Q .non (upd H l (.lst (xs ++ [y])))
theorem mt_append : MtM X "list.append" rAppend := by
  intro pins s σ H x vs v us Q I rx rv h
  obtain ⟨l, xs, y, rfl, rfl, hH, hz, q⟩ := h
  cases rx
  obtain ⟨u, rfl, ru⟩ := rv.one
  obtain ⟨z, its, n, r, hl, e⟩ := I.lstM hH
  refine call_meets F.slot_list_append ⟨_, e, rfl⟩ F.entry_list_append (F.args_list_append_2 _ _) (PySem.list_append l its.toArray n u (by rw [List.size_toArray]; omega)) ⟨e, ?_⟩
  refine ⟨.non, _, I.lset (its' := its ++ [u]) hH e (by simp) (r.append (.cons ru .nil)) ?_, rfl, q⟩
  rw [List.length_append, List.length_singleton]
  omega
def rCat : R2 := fun x y H Q => ∃ l b xs zs, x = .ref l ∧ y = .ref b ∧ H l = some (.lst xs) ∧ H b = some (.lst zs) ∧ xs.length + zs.length ≤ sizeLine ∧ ∀ p, H p = none → Q (.ref p) (upd H p (.lst (xs ++ zs)))
theorem op_cat : OpR X (binaryOp .Add) rCat := by
  intro pins s σ H x y v u Q I rx ry h
  obtain ⟨l, b, xs, zs, rfl, rfl, hH, hB, hz, q⟩ := h
  cases rx
  cases ry
  obtain ⟨z, its, n, r, hl, e⟩ := I.lstM hH
  obtain ⟨z2, its2, n2, r2, hl2, e2⟩ := I.lstM hB
  refine PySem.P.add_list e e2 ?_ (by rw [List.size_toArray, List.size_toArray]; omega)
  have ea : its.toArray ++ its2.toArray = (its ++ its2).toArray := by simp
  rw [ea]
  exact ⟨.ref _, _, I.lnew (t' := s.toks) (r.append r2) (by rw [List.length_append]; omega), rfl, q _ I.fresh⟩
end
section
variable {prog : Program} {w : World} {A : Around} {E : Value → Shared → Prop} {s : Shared}
set_option maxRecDepth 100000 in
end
section
variable {X : Cx}
end
end L2
namespace L2
open PySem PySem.Spec PyProof.Rows
section
variable {κ : Type} [DecidableEq κ]
def valV (kvs : List (κ × V)) (k : κ) : Option V := (kvs.find? fun kv => decide (kv.1 = k)).map (·.2)
/-- in its place, or at the end -/
def putK (kvs : List (κ × V)) (k : κ) (v : V) : List (κ × V) :=
  if (kvs.any fun kv => decide (kv.1 = k)) = true then kvs.map (fun kv => if kv.1 = k then (kv.1, v) else kv) else kvs ++ [(k, v)]
def dropK (kvs : List (κ × V)) (k : κ) : List (κ × V) := kvs.filter fun kv => decide (kv.1 ≠ k)
theorem valV_pos {p : κ × V} {r : List (κ × V)} {k : κ} (e : p.1 = k) : valV (p :: r) k = some p.2 := by simp [valV, List.find?_cons, e]
theorem valV_neg {p : κ × V} {r : List (κ × V)} {k : κ} (e : ¬ p.1 = k) : valV (p :: r) k = valV r k := by simp [valV, List.find?_cons, e]
theorem valV_any (k : κ) : ∀ kvs : List (κ × V), (kvs.any fun kv => decide (kv.1 = k)) = (valV kvs k).isSome
  | [] => rfl
  | p :: r => by
    rw [List.any_cons]
    by_cases e : p.1 = k
    · simp only [valV_pos e, decide_eq_true e, Bool.true_or, Option.isSome_some]
    · rw [valV_neg e, decide_eq_false e, Bool.false_or]; exact valV_any k r
theorem RelO.isSome_eq {o : Option V} {u : Option Value} (r : RelO o u) : o.isSome = u.isSome := by
  cases o with
  | none => cases u with
    | none => rfl
    | some _ => exact (show False from r).elim
  | some _ => cases u with
    | none => exact (show False from r).elim
    | some _ => rfl
theorem RelO.getD {o : Option V} {u : Option Value} {d : V} {d' : Value} (r : RelO o u) (rd : RelV d d') : RelV (o.getD d) (u.getD d') := by
  cases o with
  | none => cases u with
    | none => exact rd
    | some _ => exact (show False from r).elim
  | some _ => cases u with
    | none => exact (show False from r).elim
    | some _ => exact r
/-- raw tables of the same keys -/
theorem KV.val {kvs : List (κ × V)} {vs : List (κ × Value)} (r : KV kvs vs) (k : κ) : RelO (valV kvs k) (valueAt vs k) := by
  unfold KV at r
  induction r with
  | nil => exact True.intro
  | @cons p q ps qs h t ih =>
    obtain ⟨h1, h2⟩ := h
    by_cases e : p.1 = k
    · have e' : q.1 = k := h1.symm.trans e
      have b : valueAt (q :: qs) k = some q.2 := by simp [valueAt, List.find?_cons, e']
      rw [valV_pos e, b]; exact h2
    · have e' : ¬ q.1 = k := fun z => e (h1.trans z)
      have b : valueAt (q :: qs) k = valueAt qs k := by simp [valueAt, List.find?_cons, e']
      rw [valV_neg e, b]; exact ih
theorem KV.any {kvs : List (κ × V)} {vs : List (κ × Value)} (r : KV kvs vs) (k : κ) : (kvs.any fun kv => decide (kv.1 = k)) = vs.any fun kv => decide (kv.1 = k) := by
  unfold KV at r
  induction r with
  | nil => rfl
  | cons h t ih => rw [List.any_cons, List.any_cons, ih, h.1]
theorem KV.repl {kvs : List (κ × V)} {vs : List (κ × Value)} (r : KV kvs vs) (k : κ) {y : V} {u : Value} (ry : RelV y u) :
    KV (kvs.map fun kv => if kv.1 = k then (kv.1, y) else kv) (vs.map fun kv => if kv.1 = k then (kv.1, u) else kv) := by
  unfold KV at r ⊢
  induction r with
  | nil => exact .nil
  | @cons p q ps qs h t ih =>
    rw [List.map_cons, List.map_cons]
    refine .cons ?_ ih
    obtain ⟨h1, h2⟩ := h
    by_cases e : p.1 = k
    · rw [if_pos e, if_pos (h1.symm.trans e)]; exact ⟨h1, ry⟩
    · rw [if_neg e, if_neg (fun z => e (h1.trans z))]; exact ⟨h1, h2⟩
theorem KV.put {kvs : List (κ × V)} {vs : List (κ × Value)} (r : KV kvs vs) (k : κ) {y : V} {u : Value} (ry : RelV y u) : KV (putK kvs k y) (stored vs k u) := by
  unfold putK stored
  rw [r.any k]
  by_cases e : (vs.any fun kv => decide (kv.1 = k)) = true
  · rw [if_pos e, if_pos e]; exact r.repl k ry
  · rw [if_neg e, if_neg e]; exact Paired.snoc r ⟨rfl, ry⟩
theorem KV.drop {kvs : List (κ × V)} {vs : List (κ × Value)} (r : KV kvs vs) (k : κ) : KV (dropK kvs k) (without vs k) := by
  unfold KV at r ⊢
  unfold dropK without
  induction r with
  | nil => exact .nil
  | @cons p q ps qs h t ih =>
    obtain ⟨h1, h2⟩ := h
    rw [List.filter_cons, List.filter_cons]
    by_cases e : p.1 = k
    · have a : ¬ decide (p.1 ≠ k) = true := by simp [e]
      have b : ¬ decide (q.1 ≠ k) = true := by simp [h1.symm.trans e]
      rw [if_neg a, if_neg b]; exact ih
    · have e' : ¬ q.1 = k := fun z => e (h1.trans z)
      have a : decide (p.1 ≠ k) = true := by simp [e]
      have b : decide (q.1 ≠ k) = true := by simp [e']
      rw [if_pos a, if_pos b]; exact .cons ⟨h1, h2⟩ ih
theorem KV.keys {kvs : List (κ × V)} {vs : List (κ × Value)} (r : KV kvs vs) : kvs.map (·.1) = vs.map (·.1) := by
  unfold KV at r
  induction r with
  | nil => rfl
  | cons h t ih => rw [List.map_cons, List.map_cons, ih, h.1]
theorem KV.length {kvs : List (κ × V)} {vs : List (κ × Value)} (r : KV kvs vs) : kvs.length = vs.length := Paired.length r
end
theorem kV_is {P : Program} {w : World} {k : Key} {u : Value} (r : RelV (kV k) u) : (mixKind P w).is k u = true := by
  cases k with
  | inl i => obtain ⟨t, e⟩ := (show ∃ t, u = Value.int i t from r); subst e; exact mixKind_int P w i t
  | inr x => obtain ⟨t, e⟩ := (show ∃ t, u = Value.str x t from r); subst e; exact mixKind_str P w x t
theorem items_are {P : Program} {w : World} : ∀ {ks : List Key} {us : List Value}, Vals (ks.map kV) us → ItemsAre (mixKind P w) ks us
  | [], _, r => by rw [List.map_nil] at r; cases r; exact .nil
  | k :: ks, _, r => by
    rw [List.map_cons] at r
    cases r with
    | cons h t => exact .cons (kV_is h) (items_are t)
/-- raw entries of a dict with tuple keys -/
abbrev KT (H : Hp) : List (List Key × V) → List (List Key × Addr × Value) → Prop := Paired fun p q => p.1 = q.1 ∧ H q.2.1 = some (.tup (p.1.map kV)) ∧ RelV p.2 q.2.2
theorem KT.val {H : Hp} {kvs : List (List Key × V)} {xs : List (List Key × Addr × Value)} (r : KT H kvs xs) (k : List Key) : RelO (valV kvs k) ((atKey xs k).map (·.2)) := by
  induction r with
  | nil => exact True.intro
  | @cons p q ps qs h t ih =>
    obtain ⟨h1, _, h2⟩ := h
    by_cases e : p.1 = k
    · have e' : q.1 = k := h1.symm.trans e
      have b : atKey (q :: qs) k = some q.2 := by simp [atKey, List.find?_cons, e']
      rw [valV_pos e, b]; exact h2
    · have e' : ¬ q.1 = k := fun z => e (h1.trans z)
      have b : atKey (q :: qs) k = atKey qs k := by simp [atKey, List.find?_cons, e']
      rw [valV_neg e, b]; exact ih
theorem KT.repl {H : Hp} {kvs : List (List Key × V)} {xs : List (List Key × Addr × Value)} (r : KT H kvs xs) (k : List Key) {y : V} {u : Value} (ry : RelV y u) :
    KT H (kvs.map fun kv => if kv.1 = k then (kv.1, y) else kv) (xs.map (putAt k u)) := by
  induction r with
  | nil => exact .nil
  | @cons p q ps qs h t ih =>
    rw [List.map_cons, List.map_cons]
    refine .cons ?_ ih
    obtain ⟨h1, h2, h3⟩ := h
    unfold putAt
    by_cases e : p.1 = k
    · rw [if_pos e, if_pos (h1.symm.trans e)]; exact ⟨h1, h2, ry⟩
    · rw [if_neg e, if_neg (fun z => e (h1.trans z))]; exact ⟨h1, h2, h3⟩
theorem KT.put {H : Hp} {kvs : List (List Key × V)} {xs : List (List Key × Addr × Value)} (r : KT H kvs xs) (k : List Key) {b : Addr} {y : V} {u : Value} (hb : H b = some (.tup (k.map kV))) (ry : RelV y u) :
    KT H (putK kvs k y) (storedH xs k b u) := by
  have e : (kvs.any fun kv => decide (kv.1 = k)) = (atKey xs k).isSome := by
    rw [valV_any, (r.val k).isSome_eq, Option.isSome_map]
  unfold putK storedH
  rw [e]
  by_cases q : (atKey xs k).isSome = true
  · rw [if_pos q, if_pos q]; exact r.repl k ry
  · rw [if_neg q, if_neg q]; exact Paired.snoc r ⟨rfl, hb, ry⟩
theorem KT.keeps {H H' : Hp} {kvs : List (List Key × V)} {xs : List (List Key × Addr × Value)} (r : KT H kvs xs) (ht : ∀ b ys, H b = some (.tup ys) → H' b = some (.tup ys)) : KT H' kvs xs :=
  Paired.mapP r fun _ _ z => ⟨z.1, ht _ _ z.2.1, z.2.2⟩
section
variable {P : Program} {w : World} {H : Hp} {h : Heap} {a : Addr}
theorem rd_of {u : HO} (ok : HOk P w H h) (e : Rd H a u) : ObjOk P w H h a u := e.ok ok
theorem dk_rd {kvs : List (Key × V)} (ok : HOk P w H h) (e : Rd H a (.dK kvs)) : kvs.length ≤ sizeLine ∧ (a == sysModules) = false ∧ ∃ vs, KV kvs vs ∧ h.DictOf (mixKind P w) a vs :=
  show ObjOk P w H h a (.dK kvs) from rd_of ok e
/-- a tracked tuple of ints and texts is a key -/
theorem key_of {ks : List Key} (ok : HOk P w H h) (e : H a = some (.tup (ks.map kV))) : (tupleKind (mixKind P w)).is h ks a := by
  obtain ⟨_, its, r, o, h1, h2, n, h3⟩ := (show ObjOk P w H h a (.tup (ks.map kV)) from ok a _ e)
  exact ⟨o, its.toArray, n, h1, h2, h3, by simpa using items_are r⟩
theorem dt_rd {kvs : List (List Key × V)} (ok : HOk P w H h) (e : Rd H a (.dT kvs)) : kvs.length ≤ sizeLine ∧ (a == sysModules) = false ∧
    ∃ xs, KT H kvs xs ∧ h.DictOfH (tupleKind (mixKind P w)) a xs := by
  obtain ⟨z, y, xs, r, o, es, ep, h1, h2, h3, h4, h5⟩ := (show ObjOk P w H h a (.dT kvs) from rd_of ok e)
  refine ⟨z, y, xs, r, o, es, ep, h1, h2, h3, h4, fun x hx => ?_, h5⟩
  have all : ∀ {l : List (List Key × V)} {m : List (List Key × Addr × Value)}, KT H l m → ∀ x ∈ m, (tupleKind (mixKind P w)).is h x.1 x.2.1 := by
    intro l m q
    induction q with
    | nil => intro x hx; exact nomatch hx
    | @cons p q ps qs hq t ih =>
      intro x hx
      rcases List.mem_cons.mp hx with e | hx
      · subst e
        exact key_of ok (by rw [← hq.1]; exact hq.2.1)
      · exact ih x hx
  exact all r x hx
end
/-- what the dict at a holds at the key y -/
def DGet (H : Hp) (a : Addr) (y : V) (r : Option V) : Prop :=
  (∃ kvs k, Rd H a (.dK kvs) ∧ y = kV k ∧ r = valV kvs k) ∨ ∃ kvs k b, Rd H a (.dT kvs) ∧ y = .ref b ∧ H b = some (.tup (k.map kV)) ∧ r = valV kvs k
/-- the heap behind a[y] = v -/
def DPut (H : Hp) (a : Addr) (y v : V) (H' : Hp) : Prop :=
  (∃ kvs k, H a = some (.dK kvs) ∧ y = kV k ∧ kvs.length < sizeLine ∧ H' = upd H a (.dK (putK kvs k v))) ∨
  ∃ kvs k b, H a = some (.dT kvs) ∧ y = .ref b ∧ H b = some (.tup (k.map kV)) ∧ kvs.length < sizeLine ∧ H' = upd H a (.dT (putK kvs k v))
theorem DGet.k {H : Hp} {a : Addr} {kvs : List (Key × V)} {k : Key} (e : H a = some (.dK kvs)) : DGet H a (kV k) (valV kvs k) := .inl ⟨kvs, k, .inl e, rfl, rfl⟩
theorem DGet.t {H : Hp} {a b : Addr} {kvs : List (List Key × V)} {k : List Key} (e : H a = some (.dT kvs)) (eb : H b = some (.tup (k.map kV))) : DGet H a (.ref b) (valV kvs k) := .inr ⟨kvs, k, b, .inl e, rfl, eb, rfl⟩
theorem DPut.k {H : Hp} {a : Addr} {kvs : List (Key × V)} {k : Key} {v : V} (e : H a = some (.dK kvs)) (hl : kvs.length < sizeLine) : DPut H a (kV k) v (upd H a (.dK (putK kvs k v))) := .inl ⟨kvs, k, e, rfl, hl, rfl⟩
theorem DPut.t {H : Hp} {a b : Addr} {kvs : List (List Key × V)} {k : List Key} {v : V} (e : H a = some (.dT kvs)) (eb : H b = some (.tup (k.map kV))) (hl : kvs.length < sizeLine) :
    DPut H a (.ref b) v (upd H a (.dT (putK kvs k v))) := .inr ⟨kvs, k, b, e, rfl, eb, hl, rfl⟩
section
variable {X : Cx} {pins : List (Addr × Obj)} {σ : St} {H : Hp} {s : Shared} {a : Addr} {y v : V} {u r : Value} {o : Option V} {A : Around} {E : Value → Shared → Prop}
/-- d[y], there -/
theorem d_getItem {Q : Value → Shared → Prop} (hu : A.units + 1 < cLine) (I : Inv X pins σ H s) (g : DGet H a y (some v)) (ry : RelV y u) (h : ∀ w' s', Inv X pins σ H s' → RelV v w' → Q w' s') :
    wpAny (model X.prog X.w) A (getItem (.ref a) u) Q E s := by
  rcases g with ⟨kvs, k, e, ey, l⟩ | ⟨kvs, k, b, e, ey, eb, l⟩
  · subst ey
    obtain ⟨z, hd, vs, rel, dd⟩ := dk_rd I.hok e
    obtain ⟨w', hw, rw'⟩ := RelO.some_of (v := v) (o := valueAt vs k) (by rw [l]; exact rel.val k)
    exact wpAny_getItem_of (kV_is ry) dd.mapOf hw (h w' _ (I.tok _) rw')
  · subst ey
    cases (show u = Value.ref b from ry)
    obtain ⟨z, hd, xs, rel, dd⟩ := dt_rd I.hok e
    obtain ⟨w', hw, rw'⟩ := RelO.some_of (v := v) (o := (atKey xs k).map (·.2)) (by rw [l]; exact rel.val k)
    obtain ⟨p, hp, hp2⟩ := Option.map_eq_some_iff.mp hw
    refine wpAny_getItem_heap (tupleKind_room_in1 hu) (key_of I.hok eb) dd hp ?_
    rw [hp2]
    exact h w' _ (I.tok _) rw'
/-- y in d -/
theorem d_in {Q : Value → Shared → Prop} (hu : A.units + 1 < cLine) (I : Inv X pins σ H s) (g : DGet H a y o) (ry : RelV y u) (h : ∀ s', Inv X pins σ H s' → Q (.bool o.isSome) s') :
    wpAny (model X.prog X.w) A (compareOp .In u (.ref a)) Q E s := by
  rcases g with ⟨kvs, k, e, ey, l⟩ | ⟨kvs, k, b, e, ey, eb, l⟩
  · subst ey
    obtain ⟨z, hd, vs, rel, dd⟩ := dk_rd I.hok e
    refine wpAny_in_of (kV_is ry) hd dd.mapOf ?_
    rw [← (rel.val k).isSome_eq, ← l]
    exact h _ (I.tok _)
  · subst ey
    cases (show u = Value.ref b from ry)
    obtain ⟨z, hd, xs, rel, dd⟩ := dt_rd I.hok e
    refine wpAny_in_heap (tupleKind_room_in1 hu) (key_of I.hok eb) hd dd ?_
    have q := (rel.val k).isSome_eq
    rw [Option.isSome_map] at q
    rw [← q, ← l]
    exact h _ (I.tok _)
end
section
variable {X : Cx} {pins : List (Addr × Obj)} {σ : St} {H : Hp} {s : Shared} {a : Addr} {kvs : List (Key × V)} {k : Key} {u : Value} {A : Around} {E : Value → Shared → Prop}
/-- len(d) -/
theorem d_len {Q : Value → Shared → Prop} (I : Inv X pins σ H s) (e : Rd H a (.dK kvs)) (h : ∀ t s', Inv X pins σ H s' → Q (.int kvs.length t) s') : wpAny (model X.prog X.w) A (call (.builtin "len") [.ref a]) Q E s := by
  obtain ⟨z, hd, vs, rel, dd⟩ := dk_rd I.hok e
  refine call_len_dict hd dd (by rw [← rel.length]; rw [sizeLine_eq] at z; omega) ?_
  rw [← rel.length]
  exact h _ _ (I.tok _)
end
/-- the element of a subscription, not a slice -/
def NoSl (i : Expr) : Prop := ∀ ov iv, subscripted i false ov iv = operate [ov, iv] (getItem ov iv)
theorem subD_of {prog : Program} {w : World} {A : Around} {E : Value → Shared → Prop} {s : Shared} {env : Env} {value slice : Expr} {pos : Pos} {T id : String} {Q : Value → Shared → Prop}
    (hl : typeLookup (.type T) "__getitem__" = pure (some (.builtin id))) (hs : NoSl slice)
    (h : wpAny (model prog w) A (eval value env) (fun o s₁ => wpAny (model prog w) A (eval slice env) (fun i s₂ => s₂.TypeIs o T ∧ wpAny (model prog w) A (getItem o i) Q E s₂) E s₁) E s) :
    wpAny (model prog w) A (eval (.Subscript value slice pos) env) Q E s := by
  refine Subscript_ (wpAny_mono h (fun o s₁ h₁ => wpAny_mono h₁ (fun i s₂ h₂ => ?_) fun _ _ x => x) fun _ _ x => x)
  obtain ⟨hT, h₂⟩ := h₂
  unfold subscriptTail
  refine wpAny_bind ?_
  rw [getitemInPython_of_ne hT.not_modules]
  refine wpAny_bind (wpAny_specialOf hT hl ?_)
  have fin : wpAny (model prog w) A (subscripted slice false o i) (fun r s₃ => wpAny (model prog w) A (letTemporaryGo value o r >>= fun _ => pure r) Q E s₃) E s₂ := by
    rw [hs o i]
    exact wpAny_operating (wpAny_mono h₂ (fun r s₃ h₃ => wpAny_bind (wpAny_letTemporaryGo (wpAny_pure h₃))) fun _ _ x => x)
  first
    | exact wpAny_pure (wpAny_bind fin)
    | exact wpAny_bind (wpAny_pure (wpAny_bind fin))
    | exact wpAny_bind fin
theorem dict_typeIs {X : Cx} {pins : List (Addr × Obj)} {σ : St} {H : Hp} {s : Shared} {a : Addr} {y : V} {o : Option V} (I : Inv X pins σ H s) (g : DGet H a y o) : s.TypeIs (.ref a) "dict" := by
  rcases g with ⟨kvs, k, e, _, _⟩ | ⟨kvs, k, b, e, _, _, _⟩
  · obtain ⟨_, _, vs, _, dd⟩ := dk_rd I.hok e
    exact dd.typeIs
  · obtain ⟨_, _, xs, _, dd⟩ := dt_rd I.hok e
    exact dd.typeIs
/-- d[y] -/
def tDGet (td ty : TE) : TE := fun σ H Q => td σ H fun x H1 => ty σ H1 fun y H2 => ∃ a v, x = .ref a ∧ DGet H2 a y (some v) ∧ Q v H2
/-- y in d, y not in d -/
def tDIn (ty td : TE) : TE := fun σ H Q => ty σ H fun y H1 => td σ H1 fun x H2 => ∃ a o, x = .ref a ∧ DGet H2 a y o ∧ Q (.bl o.isSome) H2
/-- d[y] = v -/
def sDPut (td ty tv : TE) : TS := fun D σ H => tv σ H fun v H1 => td σ H1 fun x H2 => ty σ H2 fun y H3 => ∃ a H4, x = .ref a ∧ DPut H3 a y v H4 ∧ D.nx σ H4
section
variable {X : Cx} {o i e value : Expr} {pos pos' tpos : Pos} {td ty tv : TE}
theorem pe_dget (hu : X.A.units + 1 < cLine) (ho : PE X o td) (hi : PE X i ty) (hs : NoSl i) : PE X (.Subscript o i pos) (tDGet td ty) := by
  intro pins s σ H Q I h
  refine subD_of PySem.F.slot_dict_getitem.lookup hs (thn (ho pins s σ H _ I h) fun u s1 ⟨x, H1, I1, rx, q1⟩ => thn (hi pins s1 σ H1 _ I1 q1) fun iv s2 ⟨y, H2, I2, ry, a, v, ex, g, q2⟩ => ?_)
  subst ex
  obtain rfl : u = Value.ref a := rx
  exact ⟨dict_typeIs I2 g, d_getItem hu I2 g ry fun w' s3 I3 rw' => ⟨v, H2, I3, rw', q2⟩⟩
theorem pc_din (hu : X.A.units + 1 < cLine) (hi : PE X i ty) (ho : PE X o td) : PC X .In i o (tDIn ty td) := by
  intro pins s σ H Q I h
  refine thn (hi pins s σ H _ I h) fun iv s1 ⟨y, H1, I1, ry, q1⟩ => thn (ho pins s1 σ H1 _ I1 q1) fun u s2 ⟨x, H2, I2, rx, a, ov, ex, g, q2⟩ => ?_
  subst ex
  obtain rfl : u = Value.ref a := rx
  exact d_in hu I2 g ry fun s3 I3 => ⟨.bl ov.isSome, H2, I3, rfl, q2⟩
end
/-- {}, to be a dict of the kind that is wanted -/
def tDNewK : TE := fun _ H Q => ∀ p, H p = none → Q (.ref p) (upd H p (.dK []))
section
variable {X : Cx} {pos : Pos}
end
/-- the pairs of a display, from the left -/
def tPairs : List (TE × TE) → St → Hp → (List (V × V) → Hp → Prop) → Prop
  | [], _, H, Q => Q [] H
  | (tk, tv) :: r, σ, H, Q => tk σ H fun x H1 => tv σ H1 fun y H2 => tPairs r σ H2 fun ps H3 => Q ((x, y) :: ps) H3
abbrev VV : List (V × V) → List (Value × Value) → Prop := Paired fun p q => RelV p.1 q.1 ∧ RelV p.2 q.2
def PPs (X : Cx) (pos : Pos) (keys : List (Option Expr)) (values : List Expr) (trs : List (TE × TE)) : Prop :=
  ∀ (pins : List (Addr × Obj)) (s : Shared) (σ : St) (H : Hp) (Q : List (V × V) → Hp → Prop), Inv X pins σ H s → tPairs trs σ H Q →
    wpAny (model X.prog X.w) X.A (evalPairs (pairTrees keys values X.env pos)) (fun vs s' => ∃ ps H', Inv X pins σ H' s' ∧ VV ps vs ∧ Q ps H') X.xe s
def mergeK (kvs more : List (Key × V)) : List (Key × V) := more.foldl (fun acc kv => putK acc kv.1 kv.2) kvs
/-- {k: v, ..} with keys ints and texts; the new dict stands empty while the pairs are made -/
def tDisp (trs : List (TE × TE)) : TE := fun σ H Q => ∀ p, H p = none → tPairs trs σ (upd H p (.dK [])) fun ps H2 => H2 p = some (.dK []) ∧ ∃ kvs : List (Key × V), ps = kvs.map (fun kv => (kV kv.1, kv.2)) ∧ kvs.length ≤ 15 ∧ Q (.ref p) (upd H2 p (.dK (mergeK [] kvs)))
/-- a method call o.m(e) of a built-in, with one argument: what must be seen of the text -/
structure M1 (X : Cx) (o : Expr) (m : Str) (apos : Pos) (e : Expr) (cpos : Pos) : Prop where
  base : attributeBase o m X.env (eval o X.env) = eval o X.env
  few : ((backTo cpos (starEach [e] X.env)).all (fun x => !x.1) && (backToKw cpos (keywordEach [] X.env)).all (fun x => x.1.isSome)
    && decide (([e] : List Expr).length + ([] : List Keyword).length + (if ([] : List Keyword).isEmpty then 0 else 1) < 30)) = true
  line : (apos.endLine == cpos.line) = true
  trees : backTo cpos (starEach [e] X.env) = [(false, eval e X.env)]
structure M2 (X : Cx) (o : Expr) (m : Str) (apos : Pos) (e f : Expr) (cpos : Pos) : Prop where
  base : attributeBase o m X.env (eval o X.env) = eval o X.env
  few : ((backTo cpos (starEach [e, f] X.env)).all (fun x => !x.1) && (backToKw cpos (keywordEach [] X.env)).all (fun x => x.1.isSome)
    && decide (([e, f] : List Expr).length + ([] : List Keyword).length + (if ([] : List Keyword).isEmpty then 0 else 1) < 30)) = true
  line : (apos.endLine == cpos.line) = true
  trees : backTo cpos (starEach [e, f] X.env) = [(false, eval e X.env), (false, eval f X.env)]
section
variable {X : Cx} {pins : List (Addr × Obj)} {σ : St} {H : Hp} {s : Shared} {a : Addr} {y d : V} {u r : Value} {o : Option V} {A : Around} {E : Value → Shared → Prop}
end
section
variable {X : Cx} {o e f : Expr} {apos cpos : Pos} {td ty tx : TE}
end
section
variable {X : Cx} {pins : List (Addr × Obj)} {σ : St} {H : Hp} {s : Shared} {a : Addr} {kvs : List (Key × V)} {A : Around} {E : Value → Shared → Prop}
end
section
variable {X : Cx} {pins : List (Addr × Obj)} {σ : St} {H : Hp} {s : Shared} {a : Addr} {y : V} {u : Value} {A : Around} {E : Value → Shared → Prop}
end
end L2
namespace Att
open PySem PySem.W PySem.Calls PyProof.Rows
theorem ints_of_wellAll {P : Params} {h : Heap} : ∀ (ns : List Int) (vs : List Value), WellAll P h vs (ns.map WData.int) → IntsAre vs ns := by
  intro ns
  induction ns with
  | nil =>
    intro vs w
    rw [List.map_nil] at w
    cases w
    exact .nil
  | cons n ns ih =>
    intro vs w
    rw [List.map_cons] at w
    cases w with
    | cons a b =>
      cases a
      exact .cons _ _ (ih _ b)
theorem script_of {l : OpenLaw} {n : Nat} (hn : l.most = some n) {P : Params} {h : Heap} {args : List WData} {vals : List Value}
    (hpre : l.row.toRowW.claim.pre args = true) (hwl : WellAll P h vals args) :
    ∃ a vs ns, vals = [Value.ref a] ∧ args = [WData.list (ns.map WData.int)] ∧ h.get? a = some { cls := .type "list", data := .seq vs.toArray } ∧ IntsAre vs ns ∧ ns.length ≤ n := by
  have hsh : WShape.hasAll [] args [.list .int] = true := (pre_splitW hpre).1
  have hc : l.pre.holds [] { args := args } = true := (pre_splitW hpre).2
  obtain ⟨d, r, rfl, h1, h2⟩ := hasAllW_cons hsh
  obtain rfl := hasAllW_nil h2
  obtain ⟨xs, rfl, h3⟩ := hasW_list h1
  obtain ⟨ns, rfl⟩ := items_int h3
  have hlen : ns.length ≤ n := by
    unfold OpenLaw.pre at hc
    have h4 : (WTm.not (.lt (.lit (.int (n : Int))) (.len (.arg 0)))).holds [] { args := [.list (ns.map .int)] } = true := by
      have h4 := (holds_andW hc).1
      rw [hn] at h4
      exact h4
    have h5 := condW_of h4 (w_not (w_lt w_lit (w_len_list (w_arg rfl))))
    rw [List.length_map] at h5
    refine Nat.le_of_not_lt fun q => ?_
    have q' : (n : Int) < ((ns.length : Nat) : Int) := by omega
    first
      | (rw [decide_eq_true q'] at h5; exact absurd h5 (by decide))
      | (simp at h5; omega)
  cases hwl with
  | cons w1 w2 =>
    cases w2
    cases w1 with
    | list ho hall => exact ⟨_, _, ns, rfl, rfl, ho, ints_of_wellAll ns _ hall, hlen⟩
theorem post_true (l : OpenLaw) (args : List WData) : l.row.toRowW.claim.post args (.bool true) args = true :=
  postW_of (r := l.row.toRowW) (X := (true == true))
    (show WShape.has [] (.bool true) .bool = true by first | rfl | decide | simp [WShape.has, WShape.arms, WShape.armsAll])
    (show (WTm.eq .res (.lit (.bool true))).value [] { args := args, res := some (.bool true), after := args } = some (.bool (true == true)) from w_eq_bool (w_res rfl) w_lit) rfl
/-- the same from a codeAny of the CALL (for a layer whose function contracts speak of calls) -/
theorem attach_call {l : OpenLaw} {n : Nat} {q : Program} {loose : List Str} {XP : (Str → Option Value) → Heap → Prop} {YP : World → Heap → Prop} {d : DefRec}
    (hn : l.most = some n) (hdf : d.params.defaults = [])
    (call : ∀ (w : World) (s₀ s₁ : Shared) (mg mb : Str → Option Value) (fa : Addr) (o : Obj) (pm cd doc : Value) (a : Addr) (vs : List Value) (ns : List Int),
      Ground q loose [] XP w s₀ mg mb s₁.heap → YP w s₁.heap →
      s₁.heap.get? fa = some o → o.data = .func (docDef d.name d.params d.body d.scope pm cd doc) → s₁.heap.CodeRec cd d.name → mg d.name = some (.ref fa) →
      s₁.heap.get? a = some { cls := .type "list", data := .seq vs.toArray } → IntsAre vs ns → ns.length ≤ n → s₁.gens = #[] →
      codeAny (model l.prog w) callerA (.call (.ref fa) ⟨[.ref a], []⟩) (fun r s' => r = .ok (.ret (.bool true)) ∧ OldK s₁.heap s'.heap ∧ s'.os = s₁.os ∧ AllBare s'.gens) s₁) :
    WalkO q loose XP YP l.row.toRowW d [] (fun f vs => PySem.call f vs) := by
  intro w s₀ s₁ mg mb G Y fa o pm cd doc dV kV ho hd hcd hD hmg hg args vals as hpre hlay hrd hwl hlo
  obtain rfl : dV = .none := Dflts.none hD hdf
  obtain rfl : kV = .none := Dflts.noKw hD
  obtain ⟨a, vs, ns, rfl, rfl, hobj, hints, hlen⟩ := script_of hn hpre hwl
  refine enter_call (codeAny_mono (call w s₀ s₁ mg mb fa o pm cd doc a vs ns G Y ho (fd_plain hd) hcd hmg hobj hints hlen hg) fun r s' hq => ?_)
  obtain ⟨rfl, h2, h3, h4⟩ := hq
  exact ⟨.inl ⟨.bool true, .bool true, [], rfl, fun _ => rfl, .bool true, post_true l _, fun _ => ⟨List.Pairwise.nil, fun _ hm => (nomatch hm)⟩⟩, h2, h3, h4⟩
section
variable {prog : Program} {w : World} {A : Around} {E : Value → Shared → Prop} {s : Shared} {K : Frag}
def ledger (h : Heap) (L d : Addr) : List (Addr × Obj) := (List.range h.objs.size).filterMap fun a => if a = L ∨ a = d then none else (h.get? a).map fun o => (a, o)
end
end Att
namespace L2
open PySem PySem.Spec PyProof.Rows
theorem vals_ints : ∀ {vs : List Value} {ns : List Int}, IntsAre vs ns → Vals (ns.map V.int) vs
  | _, _, .nil => .nil
  | _, _, .cons n t h => .cons ⟨t, rfl⟩ (vals_ints h)
/-- nothing is tracked but the script, known to the object (or it is an object of the module) -/
def Only (H : Hp) : Prop := ∀ b, H b = none ∨ ∃ o xs, H b = some (.frz o (.lst xs))
/-- THE HEAD: the law's promise, at the heap behind the top. F, the promise of the law's def, may use that base is part of the heap (so K.In base, base.Ns mainGlobals mg stand in Mod) -/
theorem law_call {P : Program} {w : World} {K : PySem.W.Frag} {mg mb : Str → Option Value} {CX : CXT} {k : Nat} {fa a : Addr} {fd : FuncData} {x : Str} {sp : Sp} {s₁ : Shared} {vs : List Value} {ns : List Int}
    (KX : K.In s₁.heap) (hns : s₁.heap.Ns mainGlobals mg) (hb : s₁.heap.Ns builtinsNs mb) (hbb : ∀ x : Str, x ≠ "__name__" → mb x = bootBuiltins x) (hlim : s₁.heap.NoLimit) (hg : s₁.gens = #[])
    (ha : s₁.heap.get? a = some { cls := .type "list", data := .seq vs.toArray }) (hi : IntsAre vs ns) (hl : ns.length ≤ sizeLine) (hr : Room k callerA)
    (F : ∀ base : Heap, K.In base → base.Ns mainGlobals mg → FnOk P w K mg base CX k fa fd [x] sp) (hbind : ∀ (s : Shared) (u : Value), BindsTo s fd ⟨[u], []⟩ [(x, u)])
    (hsp : ∀ H : Hp, Only H → SqL K H a (ns.map V.int) → sp [.ref a] H (fun v _ => v = .bl true) fun _ _ _ => False)
    (hCX : ∀ H e s', CX [] H s₁ (fun _ _ _ => False) e s' → False) :
    codeAny (model P w) callerA (.call (.ref fa) ⟨[.ref a], []⟩) (fun r s' => r = .ok (.ret (.bool true)) ∧ OldK s₁.heap s'.heap ∧ s'.os = s₁.os ∧ AllBare s'.gens) s₁ := by
  have rv := vals_ints hi
  have lenV := hi.length
  -- from an abstract heap in which nothing but the script may be tracked
  have core : ∀ H : Hp, Only H → SqL K H a (ns.map V.int) → HOk P w H s₁.heap → (∀ b, H b ≠ none → b = a) → (H a ≠ none → K.lookup a = none) →
      codeAny (model P w) callerA (.call (.ref fa) ⟨[.ref a], []⟩) (fun r s' => r = .ok (.ret (.bool true)) ∧ OldK s₁.heap s'.heap ∧ s'.os = s₁.os ∧ AllBare s'.gens) s₁ := by
    intro H hO hS hok hA hK
    have base_of : ∀ {b : Addr} {o : Obj}, s₁.heap.get? b = some o → H b = none → (hidT s₁.heap H).get? b = some o := fun e n => hidT_get e n
    have noA : ∀ {b : Addr} {o : Obj} {es : Array DictEntry} {ep : Nat}, s₁.heap.get? b = some o → o.data = .dict es ep → H b = none := fun {b o es ep} e d => by
      cases q : H b with
      | none => rfl
      | some u =>
        have e' : b = a := hA b (by rw [q]; simp)
        subst e'
        rw [ha] at e; cases e
        have d' : Data.seq vs.toArray _ = Data.dict es ep := d
        cases d'
    have nsK : ∀ {b : Addr} {m : Str → Option Value}, s₁.heap.Ns b m → (hidT s₁.heap H).Ns b m := fun {b m} ⟨o, es, ep, e, d, r⟩ => ⟨o, es, ep, base_of e (noA e d), d, r⟩
    have hKb : K.In (hidT s₁.heap H) := fun b o e => base_of (KX b o e) (by
      cases q : H b with
      | none => rfl
      | some u =>
        have e' : b = a := hA b (by rw [q]; simp)
        subst e'
        rw [hK (by rw [q]; simp)] at e; cases e)
    have hM : Mod K mg (hidT s₁.heap H) := ⟨hKb, nsK hns, ⟨mb, nsK hb, hbb⟩, let ⟨mc, h1, h2⟩ := hlim; ⟨mc, nsK h1, h2⟩⟩
    have e0 : Env0 P w K mg (hidT s₁.heap H) callerA [] s₁ H := ⟨rfl, hM, fun b o e => of_hidT e, Nat.le_of_eq (hidT_size _ _), trivial, fun b hb => absurd (show b ∈ ([] : List Addr) from hb) (by simp), hok, .of_eq hg⟩
    refine codeAny_mono ((F _ hKb (nsK hns)).run callerA [] s₁ H ⟨[.ref a], []⟩ [.ref a] [.ref a] _ _ hr e0 (hbind s₁ (.ref a)) (.cons rfl .nil) (hsp H hO hS)) fun r s' h => ?_
    cases r with
    | error e => exact (hCX H e s' h).elim
    | ok fl =>
      cases fl with
      | next => exact False.elim h
      | brk => exact False.elim h
      | cont => exact False.elim h
      | ret u =>
        obtain ⟨v, H', os, bare, un, hok', r', q⟩ := h
        have q' : v = .bl true := q
        subst q'
        obtain rfl : u = Value.bool true := r'
        refine ⟨rfl, OldK.of_keep fun b o e => ?_, os, bare⟩
        cases q : H b with
        | none => exact un.keep b o e q (by intro z; exact absurd (show b ∈ ([] : List Addr) from z) (by simp)) (by simp)
        | some u =>
          rcases hO b with z | ⟨ob, xs, z⟩
          · rw [q] at z; cases z
          · have z2 := un.frzs b ob _ z
            obtain ⟨e1, _⟩ := hok b _ z
            obtain ⟨e2, _⟩ := hok' b _ z2
            rw [e] at e1; cases e1
            exact e2
  cases hk : K.lookup a with
  | some o =>
    -- the script is one of the module's own objects
    have e := KX a o hk
    rw [ha] at e
    cases e
    refine core (fun _ => none) (fun _ => .inl rfl) (.inr ⟨_, vs.toArray, _, hk, rfl, rfl, rfl, by rw [List.size_toArray, lenV]; exact hl, by simpa using rv⟩) (fun b u z => by have z' : (none : Option HO) = some u := z; cases z') (fun b z => absurd rfl z) fun z => absurd rfl z
  | none =>
    refine core (fun b => if b = a then some (.frz { cls := .type "list", data := .seq vs.toArray } (.lst (ns.map V.int))) else none) (fun b => ?_) (.inl (.inr ⟨{ cls := .type "list", data := .seq vs.toArray }, if_pos rfl⟩)) (fun b u z => ?_) (fun b z => ?_) fun _ => hk
    · by_cases hb : b = a
      · exact .inr ⟨_, _, if_pos hb⟩
      · exact .inl (if_neg hb)
    · by_cases hb : b = a
      · have z' := (if_pos hb).symm.trans z
        cases z'
        subst hb
        exact ⟨ha, by rw [List.length_map]; exact hl, vs, _, rv, ha⟩
      · have z' := (if_neg hb).symm.trans z
        cases z'
    · by_cases hb : b = a
      · exact hb
      · exact absurd (if_neg hb) z
end L2
namespace L2
open PySem PySem.Spec PyProof.Rows
abbrev KOf {K : PySem.W.Frag} {h : Heap} (_ : K.In h) : PySem.W.Frag := K
/-- the goal that k_head leaves (case hc), from the law's promise. F gives the function object fd (K's own) once, then the promise over every base -/
theorem walk_of {l : PySem.W.OpenLaw} {n k : Nat} {q : Program} {loose : List Str} {XP : (Str → Option Value) → Heap → Prop} {YP : World → Heap → Prop} {d : DefRec} {K : Params → PySem.W.Frag} {CX : World → CXT} {sp : World → Sp} {x : Str}
    (hn : l.most = some n) (hn2 : n ≤ sizeLine) (hdf : d.params.defaults = []) (hr : Room k callerA)
    (hY : ∀ (w : World) (h : Heap), YP w h → (K w.params).In h)
    (F : ∀ (w : World) (mg : Str → Option Value) (fa : Addr) (h : Heap), (K w.params).In h → h.Ns mainGlobals mg → mg d.name = some (.ref fa) →
      ∃ fd : FuncData, (∀ (s : Shared) (u : Value), BindsTo s fd ⟨[u], []⟩ [(x, u)]) ∧
        ∀ base : Heap, (K w.params).In base → base.Ns mainGlobals mg → FnOk l.prog w (K w.params) mg base (CX w) k fa fd [x] (sp w))
    (hsp : ∀ (w : World) (H : Hp) (a : Addr) (ns : List Int), ns.length ≤ n → Only H → SqL (K w.params) H a (ns.map V.int) → sp w [.ref a] H (fun v _ => v = .bl true) fun _ _ _ => False)
    (hCX : ∀ (w : World) (H : Hp) (s : Shared) (e : Value) (s' : Shared), CX w [] H s (fun _ _ _ => False) e s' → False) :
    PySem.W.WalkO q loose XP YP l.row.toRowW d [] (fun f vs => PySem.call f vs) := by
  refine Att.attach_call hn hdf fun w s₀ s₁ mg mb fa o pm cd doc a vs ns G Y ho hd hcd hmg hobj hints hlen hg => ?_
  have KX := hY w _ Y
  obtain ⟨fd, hb, hF⟩ := F w mg fa _ KX G.T.g hmg
  exact law_call KX G.T.g G.T.b G.T.builtins G.T.nolimit hg hobj hints (Nat.le_trans hlen hn2) hr hF hb (fun H hO hS => hsp w H a ns hlen hO hS) fun H e s' => hCX w H s₁ e s'
end L2
/- THE LAST THEOREM (shape; LID, My.* are yours):
   My.Adr: a structure of the addresses that your layer names (classes, functions); My.Txt K t: a structure (Prop) of the equations over K;
   My.txt_mk : {K} {implicit addresses ..} (e1 : nsIn K mainGlobals "law" = some (some (.ref f))) (e2 : K.lookup f = some ⟨oc, od, .func (fnOf "law" "law" params body scope dV kV doc pm an cdv ct), sl⟩) (e3 : codeIn K cdv "law" = true) .. : ∃ t, My.Txt K t
set_option maxRecDepth 100000 in
set_option maxHeartbeats 0 in
theorem PySem.Challenge.cw_LID_holds : PySem.Challenge.rw_LID.Holds := by
  w_on; o_law; k_head; (case hw => w_witness2)
  k_fill
  refine L2.walk_of (l := PySem.Challenge.rw_LID) (n := 63) (k := 40) (x := "script") (CX := fun w => ..) (sp := fun _ => My.sp_law) rfl (by decide) rfl ⟨rfl, by decide, by decide⟩ (fun w h Y => PySem.W.kIn_of Y) ?F ?S ?C
  case F =>
    intro w mg fa h KX G hmg
    have T : ∃ t, My.Txt (L2.KOf KX) t := by
      dsimp only [L2.KOf]                          -- K must stand as «<heap const> w.params» for k_is
      refine' My.txt_mk ?e1 ?e2 ?e3 ..
      (case e1 => PySem.W.k_is)                    -- in the order: a name -> its address -> its object -> its parts
      (case e2 => PySem.W.k_is)
      ..
    obtain ⟨t, T⟩ := T
    have e0 := hmg.symm.trans (PySem.W.mg_of KX G T.law)
    cases e0                                       -- fa is the law's own address
    exact ⟨_, fun s u => .of_eq rfl, fun base kb nb => My.law_fn T kb nb⟩     -- if «.of_eq rfl» comes too early: refine' ⟨_, ?b, fun base kb nb => My.law_fn T kb nb⟩; exact fun s u => .of_eq rfl
  case S => exact fun w H a ns hl hO hS => ..
  case C => exact ..
(the tactic k_is has no namespace: write k_is) -/
namespace L2
open PySem PySem.Spec PyProof.Rows
def defArgs (s : Stmt) : Arguments := match s with
  | .FunctionDef _ a _ _ _ _ _ _ _ _ => a
  | _ => { posonlyargs := [], args := [], vararg := none, kwonlyargs := [], kw_defaults := [], kwarg := none, defaults := [] }
def defBody (s : Stmt) : List Stmt := match s with
  | .FunctionDef _ _ b _ _ _ _ _ _ _ => b
  | _ => []
def defScope (s : Stmt) : Scope := match s with
  | .FunctionDef _ _ _ _ _ _ sc _ _ _ => sc
  | _ => { kind := .function, names := [], isGenerator := false, isCoroutine := false }
abbrev CX0 : CXT := fun _ _ _ _ _ _ => False
abbrev E0 : XK := fun _ _ _ => False
theorem pass0 {X : Cx} : Passes CX0 X E0 := fun _ _ _ _ _ _ _ h => h.elim
structure Fun (K : PySem.W.Frag) (x qual : Str) (st : Stmt) (f : Addr) (fd : FuncData) : Prop where
  ex : ∃ (oc : Value) (od : Option Addr) (kV doc pm : Value) (an : Option Addr) (cdv ct : Value) (osl : Array (Option Value)),
    fd = PySem.W.fnOf x qual (defArgs st) (defBody st) (defScope st) .none kV doc pm an cdv ct ∧ K.lookup f = some ⟨oc, od, .func fd, osl⟩ ∧ PySem.W.codeIn K cdv qual = true
  kp : PySem.W.keepIn K (.ref f) = true
section
variable {P : Program} {w : World} {K : PySem.W.Frag} {mg : Str → Option Value} {base : Heap}
/-- THE RULE for a def: its body as a term of rules, and the reading of that term -/
theorem Fun.ok {x qual : Str} {st : Stmt} {f : Addr} {fd : FuncData} {N ps : List Str} {k : Nat} {sp : Sp} (F : Fun K x qual st f fd) (S : FnScope N ps (defScope st)) (len : ∀ vs H Q E, sp vs H Q E → vs.length = ps.length)
    (hbody : ∀ (cdv : Value) (A : Around) (outer : List Env) (s : Shared) (H : Hp) (vs : List V) (Q : VK) (E : XK), Room k (A.deeper (envOfC qual (defScope st) s.heap.objs.size f cdv)) → sp vs H Q E →
      ∃ t, PSs (cxOf CX0 P w K mg base N qual (defScope st) f cdv A outer s H E).nox (defBody st) t ∧ t { nx := fun _ H' => Q .non H', rt := Q } (start N vs) H) : FnOk P w K mg base CX0 (k + 1) f fd ps sp := by
  obtain ⟨oc, od, kV, doc, pm, an, cdv, ct, osl, rfl, lk, hcd⟩ := F.ex
  refine fn_of lk hcd S len fun A outer s H vs Q E hr hsp => ?_
  obtain ⟨t, h, q⟩ := hbody cdv A outer s H vs Q E hr hsp
  exact ⟨t, h.nox, q⟩
/-- how its arguments bind (no defaults): h is «fun _ _ _ _ _ _ us hl => match us, hl with | [_, _], _ => rfl», one _ a parameter -/
theorem Fun.binds {x qual : Str} {st : Stmt} {f : Addr} {fd : FuncData} {ps : List Str} (F : Fun K x qual st f fd)
    (h : ∀ (kV doc pm : Value) (an : Option Addr) (cdv ct : Value) (us : List Value), us.length = ps.length → bindArgs (PySem.W.fnOf x qual (defArgs st) (defBody st) (defScope st) .none kV doc pm an cdv ct) ⟨us, []⟩ = pure (ps.zip us)) : Binds K fd ps [] := by
  obtain ⟨oc, od, kV, doc, pm, an, cdv, ct, osl, rfl, lk, hcd⟩ := F.ex
  exact .all (h kV doc pm an cdv ct)
theorem fun_mk {x qual : Str} {st : Stmt} {f : Addr} {oc : Value} {od an : Option Addr} {osl : Array (Option Value)} {kV doc pm cdv ct : Value} (l : K.lookup f = some ⟨oc, od, .func (PySem.W.fnOf x qual (defArgs st) (defBody st) (defScope st) .none kV doc pm an cdv ct), osl⟩)
    (c : PySem.W.codeIn K cdv qual = true) (k : PySem.W.keepIn K (.ref f) = true) : Fun K x qual st f (PySem.W.fnOf x qual (defArgs st) (defBody st) (defScope st) .none kV doc pm an cdv ct) := ⟨⟨oc, od, kV, doc, pm, an, cdv, ct, osl, rfl, l, c⟩, k⟩
end
theorem hu_of {A : Around} {k : Nat} (hr : Room k A) : A.units + 1 < cLine := Nat.lt_of_le_of_lt (Nat.add_le_add_left (by decide : 1 ≤ 64) _) hr.units
section
variable {X : Cx}
theorem pv (i : Nat) {x : Str} {pos : Pos} (hN : X.N[i]? = some x := by rfl) (hv : Vis X.env.scope x := by first | exact Or.inl rfl | exact Or.inr (Or.inl rfl) | exact Or.inr (Or.inr rfl)) (hd : (x == ("__debug__" : Str)) = false := by decide)
    (hcd : (x == ("__classdict__" : Str)) = false := by decide) : PE X (.Name x pos) (tVar i) := pe_var hN hv hd hcd
end
theorem iteF {A B : Prop} (h : B) : if false = true then A else B := by
  rw [if_neg Bool.false_ne_true]
  exact h
theorem iteT {A B : Prop} (h : A) : if true = true then A else B := by
  rw [if_pos rfl]
  exact h
/-- all that was tracked is as it was -/
def Same (H H' : Hp) : Prop := ∀ b o, H b = some o → H' b = some o
theorem Same.refl (H : Hp) : Same H H := fun _ _ h => h
theorem Same.trans {H H1 H2 : Hp} (a : Same H H1) (b : Same H1 H2) : Same H H2 := fun c o h => b c o (a c o h)
theorem Same.free {H H' : Hp} (e : Same H H') {l : Addr} (h : H' l = Option.none) : H l = Option.none := by
  cases q : H l with
  | none => rfl
  | some o =>
    rw [e l o q] at h
    cases h
theorem Same.seq {K : PySem.W.Frag} {H H' : Hp} {a : Addr} {xs : List V} (e : Same H H') (h : SqL K H a xs) : SqL K H' a xs := by
  rcases h with (h | ⟨o, h⟩) | h
  · exact .inl (.inl (e _ _ h))
  · exact .inl (.inr ⟨o, e _ _ h⟩)
  · exact .inr h
section
variable {X : Cx}
/-- len of a dict -/
theorem call_lenD : CallR X (.builtin "len") (fun xs H Q => ∃ a kvs, xs = [V.ref a] ∧ H a = some (.dK kvs) ∧ Q (.int kvs.length) H) := by
  intro pins s σ H xs us Q I r h
  obtain ⟨a, kvs, rfl, ha, q⟩ := h
  obtain ⟨u, rfl, ru⟩ := vals1 r
  cases ru
  exact d_len I (.inl ha) fun t s' I' => ⟨.int kvs.length, H, I', ⟨t, rfl⟩, q⟩
end
section
variable {κ : Type} [DecidableEq κ]
end
end L2
namespace L2
open PySem PySem.Spec PyProof.Rows
abbrev ts (x : Str) : List Nat := x.cps.toList
abbrev tx (l : List Nat) : Str := ⟨l.toArray⟩
theorem ts_tx (l : List Nat) : ts (tx l) = l := rfl
theorem tx_ts (x : Str) : tx (ts x) = x := by cases x; simp [tx, ts]
theorem ts_len (x : Str) : x.length = (ts x).length := by simp [Str.length, ts]
theorem tx_len (l : List Nat) : (tx l).length = l.length := by simp [Str.length, tx]
theorem str_ext {x y : Str} (h : ts x = ts y) : x = y := by rw [← tx_ts x, ← tx_ts y, h]
theorem app_tx (a b : List Nat) : tx a ++ tx b = tx (a ++ b) := by
  apply str_ext
  show (a.toArray ++ b.toArray).toList = a ++ b
  simp
theorem foldl_app (xs : Array Nat) : ∀ (k : Nat) (acc : Array Nat), ((List.replicate k xs).foldl (· ++ ·) acc).toList = acc.toList ++ (List.replicate k xs.toList).flatten
  | 0, acc => by simp
  | k + 1, acc => by
    rw [List.replicate_succ, List.foldl_cons, foldl_app xs k (acc ++ xs)]
    simp [List.replicate_succ]
theorem mul_tx (x : Str) (n : Int) : Txt.mul x n = tx (List.replicate n.toNat (ts x)).flatten := by
  apply str_ext
  rw [ts_tx]
  unfold Txt.mul
  by_cases h1 : n < 1
  · rw [if_pos h1]
    have e : n.toNat = 0 := by omega
    rw [e]; rfl
  · rw [if_neg h1]
    by_cases h2 : (n == 1 || x.length == 0) = true
    · rw [if_pos h2]
      rcases (Bool.or_eq_true _ _).mp h2 with h3 | h3
      · have e : n = 1 := by simpa using h3
        subst e; simp
      · have e : x.length = 0 := by simpa using h3
        rw [ts_len] at e
        have e2 : ts x = [] := List.eq_nil_of_length_eq_zero e
        show ts x = _
        rw [e2]; simp
    · rw [if_neg h2]
      show ((List.replicate n.toNat x.cps).foldl (· ++ ·) #[]).toList = _
      rw [foldl_app]; simp
section
variable {X : Cx}
def rMulS : R2 := fun x y H Q => ∃ z n, x = .str z ∧ y = .int n ∧ z.length ≤ 1000 ∧ -1000 ≤ n ∧ n ≤ 1000 ∧ Q (.str (tx (List.replicate n.toNat (ts z)).flatten)) H
theorem op_mul_str : OpR X (binaryOp .Mult) rMulS := by
  intro pins s σ H x y v u Q I rx ry h
  obtain ⟨z, n, rfl, rfl, hz, h0, h1, q⟩ := h
  obtain ⟨t, rfl⟩ := rx
  obtain ⟨t', rfl⟩ := ry
  refine SB.mul ⟨by rw [decide_eq_false (by omega), decide_eq_false (by omega)]; rfl, fun a _ b => ?_, fun a _ => ?_⟩ fun t' k => ⟨.str (Txt.mul z n), H, I.tok _, ⟨_, rfl⟩, by rw [mul_tx]; exact q⟩
  · have h2 : (9223372036854775 : Int) ≤ (2 ^ 63 - 1 : Int) / n := Int.le_ediv_of_mul_le (by omega) (by omega)
    omega
  · unfold PySem.Builtin.Str.tooLong
    have e : z.length * n.toNat ≤ 1000 * 1000 := Nat.mul_le_mul hz (by omega)
    exact decide_eq_false (by rw [sizeLine_eq]; omega)
theorem strsAre_of {ys : List Str} : ∀ {us : List Value}, Vals (ys.map V.str) us → StrsAre us ys := by
  induction ys with
  | nil => intro us r; rw [List.map_nil] at r; cases r; exact .nil
  | cons n ns ih =>
    intro us r
    rw [List.map_cons] at r
    cases r with
    | cons r1 r2 =>
      obtain ⟨t, e⟩ := r1
      subst e
      exact .cons n t (ih r2)
theorem glue_foldl (g : Str) : ∀ (ps : List Str) (acc : Array Nat), (ps.foldl (fun a p => a ++ g.cps ++ p.cps) acc).toList = acc.toList ++ (ps.map fun p => ts g ++ ts p).flatten
  | [], acc => by simp
  | p :: ps, acc => by
    rw [List.foldl_cons, glue_foldl g ps]
    simp
theorem join_nil (ys : List Str) : Txt.join (tx []) ys = tx (ys.map ts).flatten := by
  apply str_ext
  show ((ys.drop 1).foldl (fun acc p => acc ++ (tx []).cps ++ p.cps) (ys.headD Str.empty).cps).toList = _
  rw [glue_foldl]
  cases ys with
  | nil => rfl
  | cons y r =>
    show ts y ++ (List.map (fun p => ts (tx []) ++ ts p) r).flatten = ts y ++ (List.map ts r).flatten
    simp only [ts_tx, List.nil_append]
def rJoin (K : PySem.W.Frag) : V → List V → Hp → VK → Prop := fun x vs H Q => ∃ (p : Addr) (ys : List Str), x = .str (tx []) ∧ vs = [.ref p] ∧ SqL K H p (ys.map V.str) ∧ ((ys.map ts).flatten).length ≤ 100000 ∧ Q (.str (tx (ys.map ts).flatten)) H
theorem sum_len (ys : List Str) : (ys.map (·.length)).sum = ((ys.map ts).flatten).length := by
  induction ys with
  | nil => rfl
  | cons y r ih => rw [List.map_cons, List.sum_cons, ih, List.map_cons, List.flatten_cons, List.length_append, ts_len]
theorem mt_join : MtR X "str.join" (rJoin X.K) := by
  intro pins s σ H x vs v us Q I rx rv h
  obtain ⟨p, ys, rfl, rfl, hq, hz, q⟩ := h
  obtain ⟨t, rfl⟩ := rx
  obtain ⟨u, rfl, ru⟩ := rv.one
  cases ru
  obtain ⟨its, r, pl, _⟩ := I.list hq
  refine join_list (ys := ys) pl.isList (by simpa using strsAre_of r) ?_ fun t' k => ⟨.str (Txt.join (tx []) ys), H, I.tok _, ⟨_, rfl⟩, by rw [join_nil]; exact q⟩
  rw [sum_len, show (tx []).length = 0 from rfl, Nat.mul_zero]
  omega
theorem idx_clip (a b n : Nat) : PySem.Builtin.Str.strSliceIndices (some (a : Int)) (some (b : Int)) 1 n = PySem.Builtin.Str.strSliceIndices (some ((min a n : Nat) : Int)) (some ((min b n : Nat) : Int)) 1 n := by
  have h1 : ¬ ((a : Int) < 0) := by omega
  have h2 : ¬ ((b : Int) < 0) := by omega
  have h3 : ¬ (((min a n : Nat) : Int) < 0) := by omega
  have h4 : ¬ (((min b n : Nat) : Int) < 0) := by omega
  have e1 : max (0 : Int) (min (a : Int) (n : Int)) = max (0 : Int) (min ((min a n : Nat) : Int) (n : Int)) := by omega
  have e2 : max (0 : Int) (min (b : Int) (n : Int)) = max (0 : Int) (min ((min b n : Nat) : Int) (n : Int)) := by omega
  unfold PySem.Builtin.Str.strSliceIndices
  simp only [h1, h2, h3, h4, if_false, show ((1 : Int) > 0) = True from by simp, if_true]
  rw [e1, e2]
theorem idx_none {a b n : Nat} (h : b < a) (hb : a ≤ n) : PySem.Builtin.Str.strSliceIndices (some (a : Int)) (some (b : Int)) 1 n = [] := by
  have h1 : ¬ ((a : Int) < 0) := by omega
  have h2 : ¬ ((b : Int) < 0) := by omega
  have e1 : max (0 : Int) (min (a : Int) (n : Int)) = a := by omega
  have e2 : max (0 : Int) (min (b : Int) (n : Int)) = b := by omega
  have h3 : ¬ ((a : Int) < (b : Int)) := by omega
  simp only [PySem.Builtin.Str.strSliceIndices, PySem.sliceRange, h1, h2, if_false, e1, e2, show ((1 : Int) > 0) = True from by simp, if_true, h3]
  rfl
theorem cut_min {α : Type} (l : List α) (a b : Nat) : (l.drop (min a l.length)).take (min b l.length - min a l.length) = (l.take b).drop a := by
  rw [List.drop_take]
  by_cases ha : a ≤ l.length
  · rw [Nat.min_eq_left ha]
    by_cases hb : b ≤ l.length
    · rw [Nat.min_eq_left hb]
    · rw [Nat.min_eq_right (by omega), List.take_of_length_le (by rw [List.length_drop]; omega), List.take_of_length_le (by rw [List.length_drop]; omega)]
  · have e1 : min a l.length = l.length := Nat.min_eq_right (by omega)
    rw [e1, List.drop_eq_nil_of_le (Nat.le_refl _), List.drop_eq_nil_of_le (as := l) (i := a) (by omega), List.take_nil, List.take_nil]
theorem slice_nat (x : Str) (a b : Nat) : Txt.slice x (some (a : Int)) (some (b : Int)) = tx (((ts x).take b).drop a) := by
  have hl : x.length = (ts x).length := ts_len x
  by_cases h : min a x.length ≤ min b x.length
  · have e := StrLaws.sliceText_nat x h (Nat.min_le_right _ _)
    have e2 : Txt.slice x (some (a : Int)) (some (b : Int)) = StrLaws.sliceText x (some ((min a x.length : Nat) : Int)) (some ((min b x.length : Nat) : Int)) := by
      unfold Txt.slice StrLaws.sliceText
      rw [idx_clip a b]
    rw [e2, e, hl, cut_min]
  · have h1 : min b x.length = b := by omega
    have h2 : b < a := by omega
    have e : PySem.Builtin.Str.strSliceIndices (some (a : Int)) (some (b : Int)) 1 x.length = [] := by
      rw [idx_clip a b, h1]
      exact idx_none (by omega) (Nat.min_le_right _ _)
    unfold Txt.slice
    rw [e, if_neg (by simp; omega)]
    apply str_ext
    rw [ts_tx, List.drop_eq_nil_of_le (by rw [List.length_take]; omega)]
    rfl
theorem slice_to (x : Str) (j : Nat) : Txt.slice x none (some (j : Int)) = tx ((ts x).take j) := by
  have e : Txt.slice x none (some (j : Int)) = Txt.slice x (some ((0 : Nat) : Int)) (some (j : Int)) := by
    unfold Txt.slice
    rw [StrLaws.sliceIdx_none_lo]; rfl
  rw [e, slice_nat, List.drop_zero]
theorem slice_from (x : Str) (i : Nat) : Txt.slice x (some (i : Int)) none = tx ((ts x).drop i) := by
  have e : Txt.slice x (some (i : Int)) none = Txt.slice x (some (i : Int)) (some (x.length : Int)) := by
    unfold Txt.slice
    rw [StrLaws.sliceIdx_none_hi]
  rw [e, slice_nat, List.take_of_length_le (by rw [← ts_len]; exact Nat.le_refl _)]
def rSlS : V → Option Int → Option Int → Hp → VK → Prop := fun x lo hi H Q => ∃ z, x = .str z ∧ z.length ≤ sizeLine ∧ Q (.str (Txt.slice z lo hi)) H
theorem sl_str : SlR X rSlS := by
  intro pins s σ H x v vl vu lo hi sl Q I rx hs pl pu h
  obtain ⟨z, rfl, hz, q⟩ := h
  obtain ⟨t, rfl⟩ := rx
  refine ⟨"str", _, F.slot_str_getitem.lookup, typeIs_str _ _ _, ?_⟩
  have fin : ∀ t' k, EP X pins σ Q (.str (Txt.slice z lo hi) t') { s with toks := k } := fun t' k => ⟨.str (Txt.slice z lo hi), H, I.tok _, ⟨_, rfl⟩, q⟩
  obtain ⟨o, ho, hc, hd⟩ := hs
  cases pl with
  | none =>
    cases pu with
    | none => exact wpAny_getItem_str_slice (l := none) (u := none) (st := none) ⟨o, ho, hc, hd⟩ rfl (post_val_or_str ⟨Nat.le_trans (Txt.slice_le z _ _) hz, fin⟩)
    | int j uj => exact wpAny_getItem_str_slice (l := none) (u := some (j, uj)) (st := none) ⟨o, ho, hc, hd⟩ rfl (post_val_or_str ⟨Nat.le_trans (Txt.slice_le z _ _) hz, fin⟩)
  | int i ui =>
    cases pu with
    | none => exact wpAny_getItem_str_slice (l := some (i, ui)) (u := none) (st := none) ⟨o, ho, hc, hd⟩ rfl (post_val_or_str ⟨Nat.le_trans (Txt.slice_le z _ _) hz, fin⟩)
    | int j uj => exact wpAny_getItem_str_slice (l := some (i, ui)) (u := some (j, uj)) (st := none) ⟨o, ho, hc, hd⟩ rfl (post_val_or_str ⟨Nat.le_trans (Txt.slice_le z _ _) hz, fin⟩)
def rInC (neg : Bool) : R2 := fun x y H Q => ∃ c j, x = .str (tx [c]) ∧ y = .str j ∧ Q (.bl (if neg then !decide (c ∈ ts j) else decide (c ∈ ts j))) H
theorem op_in_c : OpR X (compareOp .In) (rInC false) := by
  intro pins s σ H x y v u Q I rx ry h
  obtain ⟨c, j, rfl, rfl, q⟩ := h
  refine op_in_str pins s σ H _ _ v u Q I rx ry ⟨_, _, rfl, rfl, ?_⟩
  have e := StrLaws.found_one j c
  rw [show (tx [c] : Str) = ⟨#[c]⟩ from rfl, e]
  exact q
theorem op_notin_c : OpR X (compareOp .NotIn) (rInC true) := by
  intro pins s σ H x y v u Q I rx ry h
  obtain ⟨c, j, rfl, rfl, q⟩ := h
  refine op_notin_str pins s σ H _ _ v u Q I rx ry ⟨_, _, rfl, rfl, ?_⟩
  have e := StrLaws.found_one j c
  rw [show (tx [c] : Str) = ⟨#[c]⟩ from rfl, e]
  exact q
def Its (x : Str) : It := ⟨fun i _ => i < (ts x).length, fun i H y H' => H' = H ∧ ∃ c, (ts x)[i]? = some c ∧ y = .str (tx [c]), fun i _ => (ts x).length ≤ i⟩
theorem turn_str {P : Program} {w : World} {K : PySem.W.Frag} {tg : Expr} (x : Str) (t : Tok) (it : Addr) (ty : String) (hty : ty = "str_ascii_iterator" ∨ ty = "str_iterator") : Turn P w K tg (Its x) [it] it (fun i h => h.IsStrIter it ty x t i) where
  mem := by simp
  obj := fun i h st b hb => by
    have e : b = it := by simpa using hb
    subst e
    obtain ⟨o, e, c, d⟩ := st
    exact ⟨o, e, fun v z => by rw [d] at z; cases z⟩
  keep := fun i h h' st k => by
    obtain ⟨o, e, c, d⟩ := st
    exact ⟨o, k it (by simp) o e, c, d⟩
  item := by
    intro X hP hw hK hc i pins s σ H E I hf st hg
    subst hP hw hK
    obtain ⟨f0, f1, f2, f3, f4, f5⟩ := hf it (by simp)
    have hi : i < (ts x).length := hg
    have hx : x.cps[i]? = some (ts x)[i] := by
      rw [← Array.getElem?_toList]; simp [hi]
    have fin : ∀ h', h'.IsStrIter it ty x t (i + 1) → Heap.SameBut it s.heap h' → ∃ u, some (Value.str ⟨#[(ts x)[i]]⟩ s.toks) = some u ∧
        wpAny (model X.prog X.w) X.A (letOwnedTupleGo tg (.ref it) u) (fun _ s2 => ∃ x' H', Inv X pins σ H' s2 ∧ RelV x' u ∧ (Its x).yld i H x' H' ∧ s2.heap.IsStrIter it ty x t (i + 1) ∧ ∀ b ∈ [it], H' b = none) E { s with heap := h', toks := s.toks + 1 } := fun h' st' sb => by
      have I1 : Inv X pins σ H { s with heap := h', toks := s.toks + 1 } := I.turned (t' := s.toks + 1) (fun b o hb e => (sb.2 b hb).trans e) f0 f1 f3 f4 f5
      obtain ⟨o, e, c, d⟩ := id st'
      refine ⟨_, rfl, go_of (s := { s with heap := h', toks := s.toks + 1 }) e c d ?_ ⟨.str (tx [(ts x)[i]]), H, I1, ⟨_, rfl⟩, ⟨rfl, _, by simp [hi], rfl⟩, st', fun b hb => (hf b hb).1⟩⟩
      rcases hty with z | z <;> (rw [z]; decide)
    rcases hty with z | z
    · subst z; exact wpAny_pyNext_ascii_item st hx fun h' st' sb => fin h' st' sb
    · subst z; exact wpAny_pyNext_wide_item st hx fun h' st' sb => fin h' st' sb
  done := by
    intro X hP hw hK hc i pins s σ H E I hf st hg
    subst hP hw hK
    obtain ⟨f0, f1, f2, f3, f4, f5⟩ := hf it (by simp)
    have hi : (ts x).length ≤ i := hg
    have hx : x.cps[i]? = none := by
      rw [← Array.getElem?_toList]; exact List.getElem?_eq_none hi
    rcases hty with z | z
    · subst z; exact wpAny_pyNext_ascii_end (I.ok.hd hc) st hx fun h' eb => ⟨rfl, I.turned (t' := s.toks) (fun b o hb e => eb b o hb e) f0 f1 f3 f4 f5⟩
    · subst z; exact wpAny_pyNext_wide_end (I.ok.hd hc) st hx fun h' eb => ⟨rfl, I.turned (t' := s.toks) (fun b o hb e => eb b o hb e) f0 f1 f3 f4 f5⟩
  self := fun _ _ _ _ _ st h => by
    rcases hty with z | z
    · subst z; exact wpAny_pyIter_striter_ascii st h
    · subst z; exact wpAny_pyIter_striter_wide st h
def iStr (tl : TE) : TI := fun σ H R => tl σ H fun x H1 => ∃ z, x = .str z ∧ R (Its z) H1
theorem pi_str {tg l : Expr} {tl : TE} (hl : PE X l tl) : PI X tg l (iStr tl) := by
  intro pins s σ H R I h
  refine thn (hl pins s σ H _ I h) fun v s1 ⟨x, H1, I1, r1, q1⟩ => ?_
  obtain ⟨z, rfl, q⟩ := q1
  obtain ⟨t, rfl⟩ := r1
  have fin : ∀ ty, (ty = "str_ascii_iterator" ∨ ty = "str_iterator") → PIE X pins σ tg R (.ref s1.heap.objs.size) { s1 with heap := s1.heap.push { cls := .type ty, data := .fields #[.str z t, .int 0 0] } } := fun ty hty => by
    refine ⟨s1.heap.objs.size, [s1.heap.objs.size], _, _, H1, rfl, I1.kept (t' := s1.toks) fun b o e => Heap.get?_push_of_some _ e, turn_str z t _ ty hty, ⟨_, Heap.get?_push_size _ rfl, rfl, rfl⟩, fun b hb => ?_, q⟩
    have e : b = s1.heap.objs.size := by simpa using hb
    subst e
    exact I1.fpOk (Nat.le_refl _) (I1.hok.fresh (Nat.le_refl _))
  cases ha : z.cps.all (· < 128) with
  | true => exact wpAny_pyIter_ascii ha (fin _ (.inl rfl))
  | false => exact wpAny_pyIter_wide ha (fin _ (.inr rfl))
theorem boolsAre_of {bs : List Bool} : ∀ {us : List Value}, Vals (bs.map V.bl) us → PyProof.Rows.LSm.BoolsAre us bs := by
  induction bs with
  | nil => intro us r; rw [List.map_nil] at r; cases r; exact .nil
  | cons n ns ih =>
    intro us r
    rw [List.map_cons] at r
    cases r with
    | cons r1 r2 =>
      cases (show _ = Value.bool n from r1)
      exact .cons n (ih r2)
theorem call_all (hc : X.calm = true) : CallR X (.builtin "all") (fun xs H Q => ∃ (p : Addr) (bs : List Bool), xs = [.ref p] ∧ SqL X.K H p (bs.map V.bl) ∧ Q (.bl (bs.all id)) H) := by
  intro pins s σ H xs us Q I r h
  obtain ⟨p, bs, rfl, hq, q⟩ := h
  obtain ⟨u, rfl, rx⟩ := vals1 r
  cases rx
  obtain ⟨its, rv, pl, hz⟩ := I.list hq
  have hl := pl.isList
  have hb := boolsAre_of rv
  have hlt : p < s.heap.objs.size := by obtain ⟨_, e, _⟩ := hl; exact Heap.lt_size e
  refine call_all_walk (wpAny_pyIter_list hl ?_)
  refine ⟨s.heap.objs.size, [s.heap.objs.size, p], [s.heap.objs.size], its.toArray.size, _, _, fun i => (bs[i]?).getD true, rfl, Walks.list (A := X.A.in1) (I.ok.hd hc) _ p (Nat.ne_of_lt hlt) its.toArray,
    ⟨⟨_, Heap.get?_push_size _ rfl, rfl, rfl⟩, hl.push _⟩, fun i v s' Q' E' hP hQ => ?_, fun h' tk hk => ?_⟩
  · obtain ⟨b, e, rfl⟩ := hb.get i v (by simpa using hP)
    simp only [e, Option.getD_some] at hQ
    exact wpAny_truthy_bool hQ
  · have e : ((List.range its.toArray.size).all fun i => (bs[i]?).getD true) = bs.all id := by
      rw [List.size_toArray, hb.length]; exact PyProof.Rows.LSm.range_all bs
    rw [e]
    exact ⟨.bl _, H, I.kept (PyProof.Rows.LSm.kept_iter hk), rfl, q⟩
def eqLs : List V → List V → Bool
  | [], [] => true
  | x :: xs, y :: ys => eqV x y && eqLs xs ys
  | _, _ => false
theorem eqLs_range : ∀ (xs ys : List V), xs.length = ys.length → (List.range xs.length).all (fun j => match xs[j]?, ys[j]? with | some a, some b => eqV a b | _, _ => true) = eqLs xs ys
  | [], [], _ => rfl
  | x :: xs, y :: ys, h => by
    have ih := eqLs_range xs ys (by simpa using h)
    rw [List.length_cons, List.range_succ_eq_map, List.all_cons, List.all_map]
    show (eqV x y && _) = (eqV x y && eqLs xs ys)
    rw [← ih]
    congr 1
theorem eqLs_len : ∀ {xs ys : List V}, xs.length ≠ ys.length → eqLs xs ys = false
  | [], [], h => absurd rfl h
  | [], _ :: _, _ => rfl
  | _ :: _, [], _ => rfl
  | x :: xs, y :: ys, h => by
    have ih := eqLs_len (xs := xs) (ys := ys) (by simpa using h)
    show (eqV x y && eqLs xs ys) = false
    rw [ih, Bool.and_false]
def rEqL (K : PySem.W.Frag) (neg : Bool) : R2 := fun x y H Q => ∃ a b xs ys, x = .ref a ∧ y = .ref b ∧ SqL K H a xs ∧ SqL K H b ys ∧ xs.all flatV = true ∧ ys.all flatV = true ∧ Q (.bl (if neg then !eqLs xs ys else eqLs xs ys)) H
theorem Vals.some_at {xs : List V} {us : List Value} (r : Vals xs us) {j : Nat} (h : j < us.length) : ∃ x, xs[j]? = some x ∧ RelV x us[j] := by
  have hl := r.length
  obtain ⟨x, e⟩ : ∃ x, xs[j]? = some x := ⟨xs[j], by simp [hl, h]⟩
  obtain ⟨u, hu, ru⟩ := r.get e
  have e2 : us[j]? = some us[j] := by simp [h]
  rw [e2] at hu
  cases hu
  exact ⟨x, e, ru⟩
theorem lists_he {A : Around} {s : Shared} {xs ys : List V} {us ws : List Value} (r : Vals xs us) (q : Vals ys ws) (fx : xs.all flatV = true) (fy : ys.all flatV = true) :
    ∀ j (h1 : j < us.toArray.size) (h2 : j < ws.toArray.size), SeqAt.EqAt A s us.toArray[j] ws.toArray[j] ((fun j => match xs[j]?, ys[j]? with | some a, some b => eqV a b | _, _ => true) j) := fun j h1 h2 => by
  obtain ⟨x, e1, r1⟩ := r.some_at (j := j) (by simpa using h1)
  obtain ⟨y, e2, r2⟩ := q.some_at (j := j) (by simpa using h2)
  have f1 : flatV x = true := List.all_eq_true.mp fx x (List.mem_of_getElem? e1)
  have f2 : flatV y = true := List.all_eq_true.mp fy y (List.mem_of_getElem? e2)
  have z := eqAt_V (A := A) (s := s) r1 r2 f1 f2
  simp only [e1, e2]
  simpa using z
theorem op_eq_l (hu : X.A.units < cLine) : OpR X (compareOp .Eq) (rEqL X.K false) := by
  intro pins s σ H x y v u Q I rx ry h
  obtain ⟨a, b, xs, ys, rfl, rfl, ha, hb, fx, fy, q⟩ := h
  cases rx
  cases ry
  obtain ⟨its, r1, pl1, _⟩ := I.list ha
  obtain ⟨its2, r2, pl2, _⟩ := I.list hb
  have l1 := r1.length
  have l2 := r2.length
  by_cases e : xs.length = ys.length
  · refine SeqAt.eq_listAt pl1.isList pl2.isList (by simp only [List.size_toArray]; omega) hu (lists_he r1 r2 fx fy) ⟨.bl _, H, I, rfl, ?_⟩
    rw [List.size_toArray, ← l1, eqLs_range xs ys e]
    exact q
  · refine SeqAt.eq_list_lengthsAt pl1.isList pl2.isList (by simp only [List.size_toArray]; simpa [← l1, ← l2] using e) hu ⟨.bl _, H, I, rfl, ?_⟩
    have z := eqLs_len e
    simpa [z] using q
theorem op_ne_l (hu : X.A.units < cLine) : OpR X (compareOp .NotEq) (rEqL X.K true) := by
  intro pins s σ H x y v u Q I rx ry h
  obtain ⟨a, b, xs, ys, rfl, rfl, ha, hb, fx, fy, q⟩ := h
  cases rx
  cases ry
  obtain ⟨its, r1, pl1, _⟩ := I.list ha
  obtain ⟨its2, r2, pl2, _⟩ := I.list hb
  have l1 := r1.length
  have l2 := r2.length
  by_cases e : xs.length = ys.length
  · refine SeqAt.RcNeAt.lists pl1.isList pl2.isList (by simp only [List.size_toArray]; omega) hu (lists_he r1 r2 fx fy) X.prog X.w X.xe _ ⟨.bl _, H, I, rfl, ?_⟩
    rw [List.size_toArray, ← l1, eqLs_range xs ys e]
    exact q
  · refine SeqAt.RcNeAt.lists_lengths pl1.isList pl2.isList (by simp only [List.size_toArray]; simpa [← l1, ← l2] using e) hu X.prog X.w X.xe _ ⟨.bl _, H, I, rfl, ?_⟩
    have z := eqLs_len e
    simpa [z] using q
def tyS (H : Hp) : V → Option String
  | .non => some "NoneType"
  | .bl _ => some "bool"
  | .int _ => some "int"
  | .str _ => some "str"
  | .ref a => match H a with
    | some (.lst _) => some "list"
    | some (.tup _) => some "tuple"
    | some (.dK _) => some "dict"
    | _ => none
  | _ => none
def isSub (t T : String) : Bool := t == T || (t == "bool" && T == "int")
theorem tyS_of {K : PySem.W.Frag} {H : Hp} {x : V} {t : String} (h : tyS H x = some t) : TyOf K H x (.type t) := by
  cases x with
  | non => cases h; exact .non
  | bl b => cases h; exact .bl b
  | int i => cases h; exact .int i
  | str z => cases h; exact .str z
  | ref a =>
    have h' : (match H a with | some (.lst _) => some "list" | some (.tup _) => some "tuple" | some (.dK _) => some "dict" | _ => none) = some t := h
    cases e : H a with
    | none => rw [e] at h'; cases h'
    | some o =>
      rw [e] at h'
      cases o with
      | lst xs => cases h'; exact .lst e
      | tup xs => cases h'; exact .tup e
      | dK kvs => cases h'; exact .dK e
      | _ => cases h'
  | byt b => cases h
  | flt b => cases h
  | ty n => cases h
def tyL : List String := ["NoneType", "bool", "int", "str", "list", "tuple", "dict"]
def kitB (t T : String) : Option Bool := if (Value.type t == Value.type T) = true then some true else if PySem.W.kitMeta T = true then (fastBuiltinMro t).map (·.contains (.type T)) else none
theorem kitB_ok : (tyL.all fun t => tyL.all fun T => kitB t T == some (isSub t T)) = true := by decide +kernel
theorem kit_bi {K : PySem.W.Frag} {t T : String} (h1 : t ∈ tyL) (h2 : T ∈ tyL) : PySem.W.kitOne K (.type t) (.type T) = some (isSub t T) := by
  have a := List.all_eq_true.mp (List.all_eq_true.mp kitB_ok t h1) T h2
  have b : kitB t T = some (isSub t T) := by simpa using a
  exact b
theorem tyS_mem {H : Hp} {x : V} {t : String} (h : tyS H x = some t) : t ∈ tyL := by
  cases x <;> first | (cases h; simp [tyL]; done) | (cases h; done) | skip
  rename_i a
  have h' : (match H a with | some (.lst _) => some "list" | some (.tup _) => some "tuple" | some (.dK _) => some "dict" | _ => none) = some t := h
  split at h' <;> first | (cases h'; simp [tyL]; done) | (cases h'; done)
theorem kitx_ty {pins : List (Addr × Obj)} {σ : St} {H : Hp} {s : Shared} {x : V} {u : Value} {t : String} (I : Inv X pins σ H s) (rx : RelV x u) (h : tyS H x = some t) :
    ∃ φ : Heap → Prop, PySem.W.KitX X.K u (.type t) φ ∧ φ s.heap ∧ u ≠ .builtin "__main__.__loader__#opaque" := by
  cases tyS_of (K := X.K) h with
  | non => cases (show u = Value.none from rx); exact ⟨_, PySem.W.kitx_none, True.intro, fun z => nomatch z⟩
  | bl y => cases (show u = Value.bool y from rx); exact ⟨_, PySem.W.kitx_bool, True.intro, fun z => nomatch z⟩
  | int i => obtain ⟨t, q⟩ := (show ∃ t, u = Value.int i t from rx); cases q; exact ⟨_, PySem.W.kitx_int, True.intro, fun z => nomatch z⟩
  | str y => obtain ⟨t, q⟩ := (show ∃ t, u = Value.str y t from rx); cases q; exact ⟨_, PySem.W.kitx_str, True.intro, fun z => nomatch z⟩
  | flt y => obtain ⟨t, q⟩ := (show ∃ t, u = Value.float y t from rx); cases q; exact ⟨_, PySem.W.kitx_float, True.intro, fun z => nomatch z⟩
  | @lst a xs ea =>
    cases (show u = Value.ref a from rx)
    obtain ⟨_, _, n, _, h1⟩ := (show ObjOk X.prog X.w H s.heap a (.lst xs) from I.hok a _ ea)
    exact ⟨_, PySem.W.kitx_list, ⟨_, h1, rfl⟩, fun z => nomatch z⟩
  | @frz a ob xs ea =>
    cases (show u = Value.ref a from rx)
    obtain ⟨_, _, _, n, _, h1⟩ := (show ObjOk X.prog X.w H s.heap a (.frz ob (.lst xs)) from I.hok a _ ea)
    exact ⟨_, PySem.W.kitx_list, ⟨_, h1, rfl⟩, fun z => nomatch z⟩
  | @tup a xs ea =>
    cases (show u = Value.ref a from rx)
    obtain ⟨_, _, _, p⟩ := (show ObjOk X.prog X.w H s.heap a (.tup xs) from I.hok a _ ea)
    obtain ⟨o, h1, h2, _⟩ := p
    exact ⟨_, PySem.W.kitx_tuple, ⟨o, h1, h2⟩, fun z => nomatch z⟩
  | @dK a kvs ea =>
    cases (show u = Value.ref a from rx)
    obtain ⟨_, _, vs, _, p⟩ := (show ObjOk X.prog X.w H s.heap a (.dK kvs) from I.hok a _ ea)
    obtain ⟨o, es, ep, h1, h2, _⟩ := p
    exact ⟨_, PySem.W.kitx_dict, ⟨o, h1, h2.1⟩, fun z => nomatch z⟩
  | @dT a kvs ea =>
    cases (show u = Value.ref a from rx)
    obtain ⟨_, _, xs, _, o, es, ep, h1, h2, _⟩ := (show ObjOk X.prog X.w H s.heap a (.dT kvs) from I.hok a _ ea)
    exact ⟨_, PySem.W.kitx_dict, ⟨o, h1, h2.1⟩, fun z => nomatch z⟩
theorem call_isi2 {T U : String} (hT : T ∈ tyL) (hU : U ∈ tyL) : CallR X (.builtin "isinstance") (fun xs H Q => ∃ x t p, xs = [x, .ref p] ∧ H p = some (.tup [.ty T, .ty U]) ∧ tyS H x = some t ∧ Q (.bl (isSub t T || isSub t U)) H) := by
  intro pins s σ H xs us Q I r h
  obtain ⟨x, t, p, rfl, hp, ht, q⟩ := h
  obtain ⟨u, w', rfl, ru, rw'⟩ := vals2 r
  cases (show w' = Value.ref p from rw')
  obtain ⟨φ, Z, hφ, hne⟩ := kitx_ty I ru ht
  obtain ⟨_, its, rv, pl⟩ := (show ObjOk X.prog X.w H s.heap p (.tup [.ty T, .ty U]) from I.hok p _ hp)
  obtain ⟨v1, v2, e, r1, r2⟩ := vals2 rv
  subst e
  cases (show v1 = Value.type T from r1)
  cases (show v2 = Value.type U from r2)
  obtain ⟨o, ho, hc, n, hd⟩ := pl
  obtain ⟨oc, od, odt, osl⟩ := o
  cases (show oc = Value.type "tuple" from hc)
  cases (show odt = Data.seq _ n from hd)
  refine PySem.W.kia_tup Z I.kIn hφ ho (b := isSub t T || isSub t U) ?_ hne fun tk => ⟨.bl _, H, I.tok _, rfl, q⟩
  have k1 := kit_bi (K := X.K) (tyS_mem ht) hT
  have k2 := kit_bi (K := X.K) (tyS_mem ht) hU
  simp only [PySem.W.kitAny, k1, k2]
  cases isSub t T <;> cases isSub t U <;> rfl
theorem call_isi {T : String} (hT : T ∈ tyL) : CallR X (.builtin "isinstance") (fun xs H Q => ∃ x t, xs = [x, .ty T] ∧ tyS H x = some t ∧ Q (.bl (isSub t T)) H) := by
  intro pins s σ H xs us Q I r h
  obtain ⟨x, t, rfl, ht, q⟩ := h
  obtain ⟨u, w', rfl, ru, rw'⟩ := vals2 r
  cases (show w' = Value.type T from rw')
  exact isinst_ok I ru (tyS_of ht) (kit_bi (tyS_mem ht) hT) fun tk => ⟨.bl _, H, I.tok _, rfl, q⟩
end
theorem bt_len : bootBuiltins "len" = some (.builtin "len") := by decide +kernel
theorem bt_isinstance : bootBuiltins "isinstance" = some (.builtin "isinstance") := by decide +kernel
theorem bt_all : bootBuiltins "all" = some (.builtin "all") := by decide +kernel
theorem bt_int : bootBuiltins "int" = some (.type "int") := by decide +kernel
theorem bt_str : bootBuiltins "str" = some (.type "str") := by decide +kernel
theorem bt_bool : bootBuiltins "bool" = some (.type "bool") := by decide +kernel
theorem bt_list : bootBuiltins "list" = some (.type "list") := by decide +kernel
theorem bt_dict : bootBuiltins "dict" = some (.type "dict") := by decide +kernel
theorem bt_tuple : bootBuiltins "tuple" = some (.type "tuple") := by decide +kernel
/-- which names of the text are Python's own -/
structure Bl (mg : Str → Option Value) : Prop where
  len : mg "len" = none
  range : mg "range" = none
  isinstance : mg "isinstance" = none
  all : mg "all" = none
  sum : mg "sum" = none
  int : mg "int" = none
  str : mg "str" = none
  bool : mg "bool" = none
  list : mg "list" = none
  dict : mg "dict" = none
  tuple : mg "tuple" = none
structure Dn (P : Program) (w : World) (K : PySem.W.Frag) (mg : Str → Option Value) (base : Heap) (k : Nat) (x : Str) (ps : List Str) (sp : Sp) : Prop where
  ex : ∃ (f : Addr) (fd : FuncData), FnOk P w K mg base CX0 k f fd ps sp ∧ Binds K fd ps [] ∧ PySem.W.keepIn K (.ref f) = true ∧ mg x = some (.ref f)
section
variable {X : Cx} {k j : Nat} {x : Str} {ps : List Str} {sp : Sp} {e : Expr} {es : List Expr} {t : TA} {p pos : Pos}
theorem pe_cd (D : Dn X.prog X.w X.K X.mg X.base k x ps sp) (hr : Room j X.A) (hj : k ≤ j) (hg : Gl X x) (ha : PA X (e :: es) t) (hdb : (x == ("__debug__" : Str)) = false := by decide)
    (he : starEach (e :: es) X.env = (false, eval e X.env) :: starEach es X.env := by rfl) (hpl : (backTo pos (starEach es X.env)).any (·.1) = false := by rfl) : PE X (.Call (.Name x p) (e :: es) [] pos) (tCall sp [] E0 t) := by
  obtain ⟨f, fd, h1, h2, h3, h4⟩ := D.ex
  exact pe_call h1 (hr.mono hj) hg h4 h3 h2 .nil pass0 ha hdb he hpl
theorem pe_cd0 (D : Dn X.prog X.w X.K X.mg X.base k x ps sp) (hr : Room j X.A) (hj : k ≤ j) (hg : Gl X x) (hdb : (x == ("__debug__" : Str)) = false := by decide) : PE X (.Call (.Name x p) [] [] pos) (tCall sp [] E0 tNil) := by
  obtain ⟨f, fd, h1, h2, h3, h4⟩ := D.ex
  exact pe_call0 h1 (hr.mono hj) hg h4 h3 h2 .nil pass0 hdb
end
end L2
namespace L2
open PySem PySem.Spec PyProof.Rows
theorem forIn_fold {α β : Type} {l : List α} {f : α → β → Sem (ForInStep β)} (g : β → α → β) (h : ∀ x ∈ l, ∀ c, f x c = pure (.yield (g c x))) : ∀ b : β, forIn l b f = pure (l.foldl g b) := by
  induction l with
  | nil => intro b; rfl
  | cons a r ih =>
    intro b
    rw [List.forIn_cons, h a List.mem_cons_self]
    show forIn r (g b a) f = _
    rw [ih (fun x hx => h x (List.mem_cons_of_mem _ hx)) (g b a)]
    rfl
def cloStep (env : Env) (cs : List (Str × Addr)) (x : Str × NameKind) : List (Str × Addr) :=
  if (x.2 == NameKind.free) = true then (match env.cells.lookup x.1 with | some a => (x.1, a) :: cs | none => cs) else cs
def clo (env : Env) (names : List (Str × NameKind)) : List (Str × Addr) := names.foldl (cloStep env) []
theorem closureFor_clo {scope : Scope} {env : Env} (h : ∀ x ∈ scope.names, x.2 = .free → ∃ c, env.cells.lookup x.1 = some c) : closureFor scope env = pure (clo env scope.names) := by
  simp only [closureFor]
  rw [forIn_fold (cloStep env) (fun x hx c => by
    obtain ⟨n, k⟩ := x
    by_cases hk : k = .free
    · subst hk
      obtain ⟨a, e⟩ := h _ hx rfl
      have e' : env.cells.lookup n = some a := e
      simp [cloStep, cellOf, e']
    · have e : (k == NameKind.free) = false := by simpa using hk
      simp [cloStep, e])]
  rfl
theorem clo_mem {env : Env} : ∀ (names : List (Str × NameKind)) (cs : List (Str × Addr)), (∀ p ∈ cs, env.cells.lookup p.1 = some p.2) → ∀ p ∈ names.foldl (cloStep env) cs, env.cells.lookup p.1 = some p.2
  | [], _, h => h
  | x :: r, cs, h => by
    refine clo_mem r (cloStep env cs x) fun p hp => ?_
    unfold cloStep at hp
    split at hp
    · split at hp
      · rename_i a e
        rcases List.mem_cons.mp hp with z | z
        · rw [z]; exact e
        · exact h p z
      · exact h p hp
    · exact h p hp
theorem clo_keep {env : Env} {p : Str × Addr} : ∀ (names : List (Str × NameKind)) (cs : List (Str × Addr)), p ∈ cs → p ∈ names.foldl (cloStep env) cs
  | [], _, h => h
  | x :: r, cs, h => by
    refine clo_keep r (cloStep env cs x) ?_
    unfold cloStep
    split
    · split
      · exact List.mem_cons_of_mem _ h
      · exact h
    · exact h
theorem clo_has {env : Env} {n : Str} {c : Addr} (e : env.cells.lookup n = some c) : ∀ (names : List (Str × NameKind)) (cs : List (Str × Addr)), (n, NameKind.free) ∈ names → (n, c) ∈ names.foldl (cloStep env) cs
  | [], _, h => nomatch h
  | x :: r, cs, h => by
    rcases List.mem_cons.mp h with z | z
    · subst z
      refine clo_keep r _ ?_
      unfold cloStep
      rw [if_pos (by rfl)]
      show (n, c) ∈ (match env.cells.lookup n with | some a => (n, a) :: cs | none => cs)
      rw [e]
      exact List.mem_cons_self
    · exact clo_has e r _ z
theorem lookup_some_of_mem {α : Type} {n : Str} {c : α} : ∀ {l : List (Str × α)}, (n, c) ∈ l → ∃ c', l.lookup n = some c'
  | [], h => nomatch h
  | (m, d) :: r, h => by
    by_cases e : n = m
    · subst e; exact ⟨d, by simp [List.lookup_cons]⟩
    · rcases List.mem_cons.mp h with z | z
      · cases z; exact absurd rfl e
      · obtain ⟨c', q⟩ := lookup_some_of_mem z
        have e2 : (n == m) = false := by simpa using e
        exact ⟨c', by rw [List.lookup_cons, e2]; exact q⟩
theorem clo_of {env : Env} {names : List (Str × NameKind)} {n : Str} {c : Addr} (h : (clo env names).lookup n = some c) : env.cells.lookup n = some c :=
  clo_mem names [] (fun _ z => nomatch z) (n, c) (PySem.mem_of_lookup h)
theorem clo_lookup {env : Env} {names : List (Str × NameKind)} {n : Str} {c : Addr} (e : env.cells.lookup n = some c) (h : (n, NameKind.free) ∈ names) : (clo env names).lookup n = some c := by
  obtain ⟨c', q⟩ := lookup_some_of_mem (clo_has e names [] h)
  have q' : (clo env names).lookup n = some c' := q
  have z := clo_of q'
  rw [e] at z
  rw [q', ← z]
/-- the outer names that the block sees: their slots -/
inductive FreeOk (X : Cx) (scope : Scope) : List (Str × Nat) → Prop where
  | nil : FreeOk X scope []
  | cons {x : Str} {i : Nat} {r : List (Str × Nat)} (h1 : X.N[i]? = some x) (h2 : X.env.kindOf x = some .cell) (h3 : scope.names.lookup x = some .free) (h : FreeOk X scope r) : FreeOk X scope ((x, i) :: r)
theorem FreeOk.mem {X : Cx} {scope : Scope} : ∀ {F : List (Str × Nat)}, FreeOk X scope F → ∀ p ∈ F, X.N[p.2]? = some p.1 ∧ X.env.kindOf p.1 = some .cell ∧ scope.names.lookup p.1 = some .free
  | _, .nil, _, h => nomatch h
  | _, .cons h1 h2 h3 h, p, hp => by
    rcases List.mem_cons.mp hp with z | z
    · subst z; exact ⟨h1, h2, h3⟩
    · exact h.mem p z
structure CompSc (X : Cx) (scope : Scope) (own : List Str) (F : List (Str × Nat)) : Prop where
  kind : scope.kind = .function
  nocell : (scope.names.all fun y => !(y.2 == NameKind.cell)) = true
  loc : (scope.names.all fun y => !(y.2 == NameKind.local) || (scope.names.lookup y.1 == some NameKind.local)) = true
  fr : (scope.names.all fun y => !(y.2 == NameKind.free) || (X.env.scope.names.lookup y.1 == some NameKind.cell)) = true
  free : FreeOk X scope F
def compN (own : List Str) (F : List (Str × Nat)) : List Str := own ++ F.map (·.1)
def compσ (own : List Str) (F : List (Str × Nat)) (σ : St) : St := own.map (fun _ => Option.none) ++ F.map (fun p => (σ[p.2]?).join)
def compCx (X : Cx) (own : List Str) (F : List (Str × Nat)) (scope : Scope) (C : Addr) (s₃ : Shared) (H₃ : Hp) (ex : List Addr) : Cx where
  prog := X.prog
  w := X.w
  K := X.K
  mg := X.mg
  base := X.base
  A := X.A
  N := compN own F
  s₀ := s₃
  H₀ := H₃
  env := compEnvC scope (clo X.env scope.names) C X.env
  outer := X.stack
  stack := X.stack
  ex := ex
  fn := fun _ => false
  calm := X.calm
  pn := []
  xe := fun _ _ => False
theorem CompSc.nc {X : Cx} {scope : Scope} {own : List Str} {F : List (Str × Nat)} (S : CompSc X scope own F) : ∀ y ∈ scope.names, y.2 ≠ .cell := fun y hy e => by
  have q := List.all_eq_true.mp S.nocell y hy
  rw [e] at q
  exact absurd q (by decide)
theorem CompSc.lc {X : Cx} {scope : Scope} {own : List Str} {F : List (Str × Nat)} (S : CompSc X scope own F) : ∀ y ∈ scope.names, y.2 = .local → scope.names.lookup y.1 = some .local := fun y hy e => by
  have q := List.all_eq_true.mp S.loc y hy
  rw [e] at q
  simpa using q
theorem CompSc.fc {X : Cx} {scope : Scope} {own : List Str} {F : List (Str × Nat)} (S : CompSc X scope own F) : ∀ y ∈ scope.names, y.2 = .free → X.env.kindOf y.1 = some .cell := fun y hy e => by
  have q := List.all_eq_true.mp S.fr y hy
  rw [e] at q
  have q' : X.env.scope.names.lookup y.1 = some NameKind.cell := by simpa using q
  exact q'
/-- a name of the relabelled scope that is a cell or free was free -/
theorem relabel_free {scope : Scope} {env : Env} (hc : ∀ y ∈ scope.names, y.2 ≠ .cell) {x : Str} (h : (relabel scope env).names.lookup x = some .cell ∨ (relabel scope env).names.lookup x = some .free) : (x, NameKind.free) ∈ scope.names := by
  have go : ∀ k, (relabel scope env).names.lookup x = some k → k = .cell ∨ k = .free → (x, NameKind.free) ∈ scope.names := fun k e hk => by
    have m := PySem.mem_of_lookup e
    unfold relabel at m
    obtain ⟨⟨n, k0⟩, hm, e2⟩ := List.mem_map.mp m
    by_cases hf : k0 = .free
    · subst hf
      dsimp only at e2
      split at e2 <;> (cases e2; exact hm)
    · have e3 : (k0 == NameKind.free) = false := by simpa using hf
      simp only [e3, Bool.false_and, Bool.false_eq_true, if_false] at e2
      cases e2
      rcases hk with z | z
      · exact absurd z (hc _ hm)
      · exact absurd z hf
  rcases h with h | h
  · exact go _ h (.inl rfl)
  · exact go _ h (.inr rfl)
theorem lookup_relabel_free {env : Env} (hf : env.scope.kind = .function) : ∀ {names : List (Str × NameKind)} {x : Str}, names.lookup x = some .free → env.kindOf x = some .cell →
    (names.map fun (n, k) => if (k == NameKind.free && env.scope.kind == .function && env.kindOf n == some .cell) then (n, NameKind.cell) else (n, k)).lookup x = some .cell
  | [], _, h, _ => by simp at h
  | (n, k) :: r, x, h, hx => by
    have ih := @lookup_relabel_free env hf r x
    rw [List.map_cons]
    by_cases e : x = n
    · subst e
      have hk : k = .free := by simpa [List.lookup_cons] using h
      subst hk
      have c : (NameKind.free == NameKind.free && env.scope.kind == .function && env.kindOf x == some .cell) = true := by rw [hf, hx]; rfl
      show List.lookup x ((if (NameKind.free == NameKind.free && env.scope.kind == .function && env.kindOf x == some .cell) = true then (x, NameKind.cell) else (x, NameKind.free)) :: _) = _
      rw [if_pos c]
      simp [List.lookup_cons]
    · have e2 : (x == n) = false := by simpa using e
      have h' : r.lookup x = some .free := by rw [List.lookup_cons, e2] at h; exact h
      have q := ih h' hx
      dsimp only
      split
      · rw [List.lookup_cons, e2]; exact q
      · rw [List.lookup_cons, e2]; exact q
section
variable {X : Cx} {pins : List (Addr × Obj)} {σ : St} {H : Hp} {s : Shared}
theorem Inv.freeCells {scope : Scope} {own : List Str} {F : List (Str × Nat)} (I : Inv X pins σ H s) (S : CompSc X scope own F) : ∀ x ∈ scope.names, x.2 = .free → ∃ c, X.env.cells.lookup x.1 = some c := fun x hx e =>
  I.ok.has x.1 (.inl (S.fc x hx e))
theorem Inv.notStk (I : Inv X pins σ H s) {b : Addr} (h1 : b ≠ X.env.locals) (h2 : b ∉ X.fs) : b ∉ frs X.stack := fun z => (List.mem_cons.mp (I.stkSub b z)).elim h1 h2
/-- the block begins -/
theorem comp_start {scope : Scope} {own : List Str} {F : List (Str × Nat)} {fp : List Addr} {h1 : Heap} {tk : Nat} (I : Inv X pins σ H s) (S : CompSc X scope own F) (hf : ∀ b ∈ fp, FpOk X pins H b) (hlt : ∀ b ∈ fp, b < s.heap.objs.size) {s3 : Shared}
    (e3 : s3 = { s with heap := s.heap.push { cls := .type "list", data := .seq ([] : List Value).toArray } })
    (hns : h1.Ns s3.heap.objs.size (fun _ => none)) (hk : ∀ b o, s3.heap.get? b = some o → h1.get? b = some o) :
    Inv (compCx X own F scope s3.heap.objs.size s3 H (s.heap.objs.size :: fp)) [] (compσ own F σ) H { s3 with heap := h1, toks := tk } := by
  have sz3 : s3.heap.objs.size = s.heap.objs.size + 1 := by rw [e3]; exact Heap.size_push ..
  have k3 : ∀ b o, s.heap.get? b = some o → s3.heap.get? b = some o := fun b o e => by rw [e3]; exact Heap.get?_push_of_some _ e
  have I3 : Inv X pins σ H s3 := by rw [e3]; exact I.kept (t' := s.toks) fun b o e => Heap.get?_push_of_some _ e
  have lkup : ∀ x c, (clo X.env scope.names).lookup x = some c → X.env.cells.lookup x = some c := fun x c e => clo_of e
  have base_lt : ∀ b o, X.base.get? b = some o → b < X.s₀.heap.objs.size := fun b o e => Nat.lt_of_lt_of_le (Heap.lt_size e) I.ok.bsz
  have kf : X.env.scope.kind = .function := I.ok.kind
  refine ⟨⟨I.ok.mod, S.kind, I.ok.glob, I.ok.blt, Nat.le_refl _, fun x y c h1 h2 => I.ok.inj x y c (lkup x c h1) (lkup y c h2), fun x hx => ?_, fun x c hx _ => (nomatch hx), I.ok.hd, I.ok.frames, .inl rfl, fun b hb => ?_, fun b o e => ?_, ?_, fun b o e hb => ?_, fun b hb => ?_, I3.stack, fun b hb => I.stkFree b hb⟩,
    rfl, I3.bare, Un.kept hk, ⟨_, hns, fun i x v e1 e2 e3' => ?_⟩, fun x c e => ?_, ?_, fun x c e => I.freeC x c (lkup x c e), fun p hp => absurd (show p ∈ ([] : List (Addr × Obj)) from hp) (by simp), I3.hok.kept hk, ?_⟩
  · have hm := relabel_free S.nc hx
    obtain ⟨c, e⟩ := I.freeCells S _ hm rfl
    exact ⟨c, clo_lookup e hm⟩
  · rcases List.mem_cons.mp hb with z | z
    · subst z
      refine ⟨fun q => ?_, fun x c e q => ?_⟩
      · have q' : s.heap.objs.size = s3.heap.objs.size := q
        omega
      · obtain ⟨v, u⟩ := I.cell x c (lkup x c e)
        exact absurd u.lt (by rw [q]; exact Nat.lt_irrefl _)
    · refine ⟨fun q => ?_, fun x c e => (hf b z).2.2.2.2.1 x c (lkup x c e)⟩
      exact Nat.ne_of_lt (Nat.lt_of_lt_of_le (hlt b z) (show s.heap.objs.size ≤ s3.heap.objs.size by omega)) q
  · obtain ⟨a1, a2⟩ := I.bs b o e
    exact ⟨k3 b o a1, a2⟩
  · exact Nat.le_trans (Nat.le_trans I.ok.bsz I.sz) (by show s.heap.objs.size ≤ s3.heap.objs.size; omega)
  · have l1 := base_lt b o e
    rcases List.mem_cons.mp hb with z | z
    · exact absurd (Nat.lt_of_lt_of_le l1 I.sz) (by rw [z]; exact Nat.lt_irrefl _)
    · rcases (hf b z).2.2.2.1 with q | q
      · exact I.ok.noex b o e q
      · exact absurd l1 (Nat.not_lt.mpr q)
  · rcases List.mem_cons.mp hb with z | z
    · subst z
      exact I.notStk (Nat.ne_of_gt I.lt) (I.nofs (Nat.le_refl _))
    · exact I.notStk (hf b z).2.1 (hf b z).2.2.1
  · -- a name that is seen
    have hi : own.length ≤ i := by
      by_cases z : i < own.length
      · rw [compσ, List.getElem?_append_left (by simpa using z), List.getElem?_map] at e2
        cases q : own[i]? with
        | none => rw [q] at e2; cases e2
        | some y => rw [q] at e2; cases e2
      · omega
    rw [compσ, List.getElem?_append_right (by simpa using hi), List.getElem?_map] at e2
    have e1' : (own ++ F.map (·.1))[i]? = some x := e1
    rw [List.getElem?_append_right hi, List.getElem?_map] at e1'
    simp only [List.length_map] at e2
    cases q : F[i - own.length]? with
    | none => rw [q] at e2; cases e2
    | some p =>
      rw [q] at e1' e2
      simp only [Option.map_some, Option.some.injEq] at e1' e2
      obtain ⟨f1, f2, f3⟩ := S.free.mem p (List.mem_of_getElem? q)
      subst e1'
      obtain ⟨m, hn, hl⟩ := I.loc
      have e4 : σ[p.2]? = some (some v) := by
        cases r : σ[p.2]? with
        | none => rw [r] at e2; cases e2
        | some o => rw [r] at e2; exact congrArg some e2
      obtain ⟨u, ru, l⟩ := hl p.2 p.1 v f1 e4 (.inr (.inl f2))
      refine ⟨u, ru, .inr ⟨.inl (lookup_relabel_free kf f3 f2), ?_⟩⟩
      rcases l with ⟨l, _⟩ | ⟨_, c, ec, z⟩
      · rw [f2] at l; cases l
      · refine ⟨c, clo_lookup ec (PySem.mem_of_lookup f3), ?_⟩
        obtain ⟨oc, ho, hd⟩ := z
        exact ⟨oc, hk _ _ (k3 _ _ ho), hd⟩
  · obtain ⟨v, oc, ho, hd⟩ := I.cell x c (lkup x c e)
    exact ⟨v, oc, hk _ _ (k3 _ _ ho), hd⟩
  · exact I.hok.fresh (by show s.heap.objs.size ≤ s3.heap.objs.size; omega)
  · show (compσ own F σ).length = (compN own F).length
    simp [compσ, compN]
/-- the block is through: the list is told -/
theorem comp_back {scope : Scope} {own : List Str} {F : List (Str × Nat)} {fp : List Addr} {s3 s4 : Shared} {σ' : St} {H' : Hp} {ys : List V} {its : List Value} {n : Nat} (I : Inv X pins σ H s) (hf : ∀ b ∈ fp, FpOk X pins H b)
    (e3 : s3 = { s with heap := s.heap.push { cls := .type "list", data := .seq ([] : List Value).toArray } })
    (J : Inv (compCx X own F scope s3.heap.objs.size s3 H (s.heap.objs.size :: fp)) [] σ' H' s4) (hz : ys.length ≤ sizeLine) (hv : Vals ys its)
    (ha : s4.heap.get? s.heap.objs.size = some { cls := .type "list", data := .seq its.toArray n }) (hn : H' s.heap.objs.size = none) : Inv X pins σ (upd H' s.heap.objs.size (.lst ys)) s4 := by
  have sz3 : s3.heap.objs.size = s.heap.objs.size + 1 := by rw [e3]; exact Heap.size_push ..
  have k3 : ∀ b o, s.heap.get? b = some o → s3.heap.get? b = some o := fun b o e => by rw [e3]; exact Heap.get?_push_of_some _ e
  have U : Un (frs X.stack) (s.heap.objs.size :: fp) H H' s3.heap s4.heap := J.base
  have ne : ∀ b o, s.heap.get? b = some o → b ≠ s.heap.objs.size := fun b o e => Nat.ne_of_lt (Heap.lt_size e)
  have nx : ∀ b o, s.heap.get? b = some o → b ∉ fp → b ∉ s.heap.objs.size :: fp := fun b o e h z => (List.mem_cons.mp z).elim (ne b o e) h
  have os4 : s4.os = s.os := by
    have q : s4.os = s3.os := J.os
    rw [q, e3]
  refine I.call' (ch := fp) os4 ⟨fun b o e z hb hx => U.keep b o (k3 b o e) z hb (nx b o e hx), fun b o e z hb hx => U.slot b o (k3 b o e) z hb (nx b o e hx), fun b o e z hx => ?_, fun b o e hx => U.there b o (k3 b o e) (nx b o e hx), fun b xs e => ?_, fun b o u e => ?_, fun b ps e => ?_⟩ (fun b u e => ?_) J.bare fun b hb => ?_
  · rw [upd_ne (ne b o e)]
    exact U.free b o (k3 b o e) z (nx b o e hx)
  · have q := U.tups b xs e
    rw [upd_ne (ne_of_none q hn)]; exact q
  · have q := U.frzs b o u e
    rw [upd_ne (ne_of_none q hn)]; exact q
  · obtain ⟨more, q⟩ := U.tbls b ps e
    exact ⟨more, by rw [upd_ne (ne_of_none q hn)]; exact q⟩
  · by_cases hb : b = s.heap.objs.size
    · subst hb
      rw [upd_same] at e
      cases e
      exact ⟨hz, its, n, hv, ha⟩
    · rw [upd_ne hb] at e
      exact (J.hok b u e).stay (fun _ _ _ q => q) (fun c q => by rw [upd_ne (ne_of_none q hn)]; exact q) fun c xs q => by rw [upd_ne (ne_of_none q hn)]; exact q
  · obtain ⟨_, f1, _, f3, f4, f5⟩ := hf b hb
    exact ⟨f3, f1, f4, f5⟩
/-- the block's own names are let go -/
theorem comp_letgo {H' : Hp} {s4 : Shared} {C : Addr} {h' : Heap} {σ4 : St} (I : Inv X pins σ H s) (hC : s.heap.objs.size ≤ C) (I4 : Inv X pins σ4 H' s4) (hn : H' C = none) (hs : Heap.SameBut C s4.heap h') : Inv X pins σ4 H' { s4 with heap := h' } := by
  have q := I4.turned (it := C) (t' := s4.toks) (h' := h') (fun b o hb e => (hs.2 b hb).trans e) hn (Nat.ne_of_gt (Nat.lt_of_lt_of_le I.lt hC)) (.inr (Nat.le_trans I.sz hC)) (fun x c e z => ?_) (fun p hp z => ?_)
  · exact q
  · obtain ⟨v, u⟩ := I.cell x c e
    exact absurd (Nat.lt_of_lt_of_le u.lt (by rw [z]; exact hC)) (Nat.lt_irrefl _)
  · exact absurd (Nat.lt_of_lt_of_le (Heap.lt_size (I.pin p hp).1) (by rw [z]; exact hC)) (Nat.lt_irrefl _)
end
def PTs (X : Cx) (ifs : List Expr) (t : TT) : Prop :=
  ∀ (pins : List (Addr × Obj)) (s : Shared) (σ : St) (H : Hp) (Q : Bool → Hp → Prop), Inv X pins σ H s → t σ H Q →
    wpAny (model X.prog X.w) X.A (forIn ifs true fun c r => if r = true then do let ok ← isTrue c X.env (eval c X.env); pure (ForInStep.yield ok) else pure (ForInStep.yield r)) (TP X pins σ Q) X.xe s
def tTrue : TT := fun _ H Q => Q true H
theorem pts_nil {X : Cx} : PTs X [] tTrue := fun _ _ _ H _ I h => wpAny_tests_nil ⟨H, I, h⟩
theorem pts_one {X : Cx} {c : Expr} {t : TT} (h : PT X c t) : PTs X [c] t := fun pins s σ H Q I q => wpAny_tests_one (h pins s σ H Q I q)
theorem compLoop_go {prog : Program} {w : World} {A : Around} {R : Result → Shared → Prop} {s : Shared} {elt target iter : Expr} {ifs : List Expr} {scope : Scope} {pos : Pos} {it acc : Value} {env : Env} (I : Nat → Shared → Prop)
    (turn : ∀ n s, I n s → wpAny (model prog w) A (pyNext it) (fun r s₁ => match r with
      | none => R (.ok .next) s₁
      | some v => wpAny (model prog w) A (letOwnedTupleGo target it v) (fun _ s₂ => wpAny (model prog w) A (assign target env v) (fun _ s₃ =>
          wpAny (model prog w) A (forIn ifs true fun c r => if r = true then do let ok ← isTrue c env (eval c env); pure (ForInStep.yield ok) else pure (ForInStep.yield r)) (fun ok s₄ =>
            if ok = true then wpAny (model prog w) A (eval elt env) (fun x s₅ =>
              wpAny (model prog w) A (call (.builtin "list.append") [acc, x]) (fun _ s₆ => ∃ m, m < n ∧ I m s₆) (fun _ _ => False) s₅) (fun _ _ => False) s₄
            else ∃ m, m < n ∧ I m s₄) (fun _ _ => False) s₃) (fun _ _ => False) s₂) (fun _ _ => False) s₁) (fun _ _ => False) s)
    (n : Nat) (h : I n s) : codeAny (model prog w) A (.compLoop (.ListComp elt [⟨target, iter, ifs, 0⟩] scope pos) 0 it acc env) R s := by
  refine codeAny_loop rfl I (fun n s hI => ?_) n h
  show wpAny _ A ((compTurn (.ListComp elt [⟨target, iter, ifs, 0⟩] scope pos) 0 it acc env).onRaise (fun x => do noteFrame x env; theTreesLotGoes x)) _ _ s
  refine wpAny_noted ?_
  rw [compTurn_list]
  refine wpAny_bind (wpAny_standAt (wpAny_bind (wpAny_mono (turn n s hI) (fun r s₁ h₁ => ?_) fun _ _ f => f.elim)))
  cases r with
  | none => exact wpAny_pure h₁
  | some v =>
    refine wpAny_bind (wpAny_mono h₁ (fun _ s₂ h₂ => wpAny_bind (wpAny_mono h₂ (fun _ s₃ h₃ => wpAny_bind (wpAny_mono h₃ (fun ok s₄ h₄ => ?_) fun _ _ f => f.elim)) fun _ _ f => f.elim)) fun _ _ f => f.elim)
    cases ok with
    | false => exact wpAny_pure ⟨rfl, h₄⟩
    | true => exact wpAny_bind (wpAny_bind (wpAny_mono h₄ (fun x s₅ h₅ => wpAny_bind (wpAny_mono h₅ (fun _ s₆ h₆ => wpAny_pure (wpAny_pure ⟨rfl, h₆⟩)) fun _ _ f => f.elim)) fun _ _ f => f.elim))
/-- the slots of σ' stand in σ too -/
def Weak (σ σ' : St) : Prop := σ'.length = σ.length ∧ ∀ (i : Nat) v, σ'[i]? = some (some v) → σ[i]? = some (some v)
theorem weak_set {σ : St} {i : Nat} {v : Option V} (h : σ[i]? = some none) : Weak (σ.set i v) σ := by
  refine ⟨by simp, fun j u e => ?_⟩
  by_cases hj : i = j
  · subst hj; rw [h] at e; cases e
  · rw [List.getElem?_set_ne hj]; exact e
/-- [elt for tg in iter if ..]: W is the word between two turns: the turn, a measure, what was told so far, the heap -/
def CompBody (own : List Str) (F : List (Str × Nat)) (g : TG) (tt : TT) (te : TE) (σ : St) (Q : VK) (J : It) (H1 : Hp) : Prop := ∃ W : Nat → Nat → List V → Hp → Prop, (∃ m, W 0 m [] H1) ∧ ∀ i m ys H', W i m ys H' → ys.length ≤ i →
  (J.stop i H' ∧ i ≤ sizeLine ∧ ∀ p, H' p = none → Q (.ref p) (upd H' p (.lst ys))) ∨
  (J.go i H' ∧ i < sizeLine ∧ ∃ N : List V → Hp → Prop, (∀ ys' H'', N ys' H'' → ∃ m', m' < m ∧ W (i + 1) m' ys' H'') ∧
    ∀ x H2, J.yld i H' x H2 → g x (compσ own F σ) H2 fun σ3 H3 => Weak σ3 (compσ own F σ) ∧ tt σ3 H3 fun b H4 => if b = true then te σ3 H4 fun y H5 => N (ys ++ [y]) H5 else N ys H4)
def tComp (own : List Str) (F : List (Str × Nat)) (wi : TI) (g : TG) (tt : TT) (te : TE) : TE := fun σ H Q => wi σ H fun J H1 => CompBody own F g tt te σ Q J H1
section
variable {X : Cx} {scope : Scope} {own : List Str} {F : List (Str × Nat)} {elt tg iter : Expr} {ifs : List Expr} {pos : Pos} {wi : TI} {g : TG} {tt : TT} {te : TE}
/-- a new empty list is laid -/
abbrev pushed (s : Shared) : Shared := { s with heap := s.heap.push { cls := .type "list", data := .seq ([] : List Value).toArray } }
/-- the block's run, up to its end -/
theorem comp_run {pins : List (Addr × Obj)} {σ : St} {H : Hp} {s : Shared} {Q : VK} {RR : Addr → Result → Shared → Prop} {it : Addr} {fp : List Addr} {tn : Nat → Heap → Prop} {J : It} (S : CompSc X scope own F) (hc : X.calm = true)
    (hg : ∀ C s₃ H₃ ex, PG (compCx X own F scope C s₃ H₃ ex) tg g) (ht : ∀ C s₃ H₃ ex, PTs (compCx X own F scope C s₃ H₃ ex) ifs tt) (he : ∀ C s₃ H₃ ex, PE (compCx X own F scope C s₃ H₃ ex) elt te)
    (I : Inv X pins σ H s) (T : Turn X.prog X.w X.K tg J fp it tn) (st : tn 0 s.heap) (hf : ∀ b ∈ fp, FpOk X pins H b)
    (h : CompBody own F g tt te σ Q J H)
    (hR : ∀ C s4 H4, s.heap.objs.size ≤ C → C ≠ s.heap.objs.size → Inv X pins σ H4 s4 → Q (.ref s.heap.objs.size) H4 → H4 C = none → (∃ m, s4.heap.Ns C m) → RR C (.ok .next) s4) :
    wpAny (model X.prog X.w) X.A (newList []) (fun acc s₃ => wpAny (model X.prog X.w) X.A (newFunctionEnv scope X.env.globals (clo X.env scope.names) [] X.env.qual none .none (some X.env)) (fun cenv s₄ =>
      codeAny (model X.prog X.w) X.A (.compStart (.ListComp elt [⟨tg, iter, ifs, 0⟩] scope pos) 0 (.ref it) acc { cenv with scope := relabel scope X.env }) (fun r s' => acc = .ref s.heap.objs.size ∧ RR cenv.locals r s') s₄) X.xe s₃) X.xe s := by
  obtain ⟨W, ⟨m0, w0⟩, turn⟩ := h
  have hlt : ∀ b ∈ fp, b < s.heap.objs.size := fun b hb => by
    obtain ⟨o, e, _⟩ := T.obj _ _ st b hb
    exact Heap.lt_size e
  refine wpAny_newObj_type (wpAny_newFunctionEnv S.nc (by intro y hy; simp at hy) (fun h₁ hns₁ hsb₁ => ?_) S.kind)
  dsimp only at hns₁ hsb₁ ⊢
  have e3' : pushed s = { s with heap := s.heap.push { cls := .type "list", data := .seq ([] : List Value).toArray } } := rfl
  have sz3 : (pushed s).heap.objs.size = s.heap.objs.size + 1 := Heap.size_push ..
  have k3 : ∀ b o, (pushed s).heap.get? b = some o → h₁.get? b = some o := fun b o e => hsb₁.extBut b o (Nat.ne_of_lt (Heap.lt_size e)) (Heap.get?_push_of_some _ e)
  have k2 : ∀ b o, s.heap.get? b = some o → (pushed s).heap.get? b = some o := fun b o e => Heap.get?_push_of_some _ e
  have hns : h₁.Ns (pushed s).heap.objs.size (fun _ => none) := by simpa using hns₁
  have I0 : Inv (compCx X own F scope (pushed s).heap.objs.size (pushed s) H (s.heap.objs.size :: fp)) [] (compσ own F σ) H { pushed s with heap := h₁, toks := (pushed s).toks + ([] : List (Str × Value)).length } := comp_start I S hf hlt e3' hns k3
  have acc0 : h₁.get? s.heap.objs.size = some { cls := .type "list", data := .seq ([] : List Value).toArray 0 } := k3 _ _ (Heap.get?_push_size _ rfl)
  have ht0 : tn 0 h₁ := T.keep _ _ _ st fun b _ o e => k3 b o (k2 b o e)
  have loop : codeAny (model X.prog X.w) X.A (.compLoop (.ListComp elt [⟨tg, iter, ifs, 0⟩] scope pos) 0 (.ref it) (.ref s.heap.objs.size) (compEnvC scope (clo X.env scope.names) (pushed s).heap.objs.size X.env)) (RR (pushed s).heap.objs.size) { pushed s with heap := h₁, toks := (pushed s).toks + ([] : List (Str × Value)).length } := by
    refine compLoop_go (fun n s' => ∃ i ys H' its k, Inv (compCx X own F scope (pushed s).heap.objs.size (pushed s) H (s.heap.objs.size :: fp)) [] (compσ own F σ) H' s' ∧ tn i s'.heap ∧ (∀ b ∈ fp, H' b = none) ∧ H' s.heap.objs.size = none ∧
      Vals ys its ∧ s'.heap.get? s.heap.objs.size = some { cls := .type "list", data := .seq its.toArray k } ∧ ys.length ≤ i ∧ W i n ys H') ?_ m0 ⟨0, [], H, [], 0, I0, ht0, fun b hb => (hf b hb).1, I.hok.fresh (Nat.le_refl _), .nil, acc0, Nat.le_refl _, w0⟩
    rintro n s5 ⟨i, ys, H5, its, k, I5, t5, fr5, ha5, v5, o5, l5, w5⟩
    have pn5 : Inv (compCx X own F scope (pushed s).heap.objs.size (pushed s) H (s.heap.objs.size :: fp)) [(s.heap.objs.size, { cls := .type "list", data := .seq its.toArray k })] (compσ own F σ) H5 s5 := I5.pins_of fun p hp => by
      have z : p = (s.heap.objs.size, { cls := .type "list", data := .seq its.toArray k }) := by simpa using hp
      subst z
      obtain ⟨x1, x2⟩ := I0.ok.exf s.heap.objs.size List.mem_cons_self
      exact ⟨o5, ha5, x1, I0.ok.exfs _ List.mem_cons_self, fun v z => by cases z⟩
    have fp5 : ∀ {H' : Hp}, (∀ b ∈ fp, H' b = none) → ∀ b ∈ fp, FpOk (compCx X own F scope (pushed s).heap.objs.size (pushed s) H (s.heap.objs.size :: fp)) [(s.heap.objs.size, { cls := .type "list", data := .seq its.toArray k })] H' b := fun {H'} hn b hb => by
      obtain ⟨x1, x2⟩ := I0.ok.exf b (List.mem_cons_of_mem _ hb)
      refine ⟨hn b hb, x1, I0.ok.exfs b (List.mem_cons_of_mem _ hb), .inl (List.mem_cons_of_mem _ hb), x2, fun p hp => ?_⟩
      have z : p = (s.heap.objs.size, { cls := .type "list", data := .seq its.toArray k }) := by
        have hp' : p ∈ ([] : List (Addr × Obj)) ++ [(s.heap.objs.size, { cls := .type "list", data := .seq its.toArray k })] := hp
        simpa using hp'
      subst z
      exact Nat.ne_of_gt (hlt b hb)
    rcases turn i n ys H5 w5 l5 with ⟨stop, hz, q⟩ | ⟨go, hz, N, hN, step⟩
    · refine thn (T.done (compCx X own F scope (pushed s).heap.objs.size (pushed s) H (s.heap.objs.size :: fp)) rfl rfl rfl hc i _ s5 _ H5 (fun _ _ => False) pn5 (fp5 fr5) t5 stop) fun r s6 ⟨hr, I6⟩ => ?_
      subst hr
      obtain ⟨a6, b6, _⟩ := I6.pin (s.heap.objs.size, { cls := .type "list", data := .seq its.toArray k }) (List.mem_append_right _ (List.mem_singleton.mpr rfl))
      have J6 := I6.pins_of (pins' := []) (fun p hp => nomatch hp)
      have I7 := comp_back I hf e3' J6 (Nat.le_trans l5 hz) v5 a6 b6
      have hC : H5 (pushed s).heap.objs.size = none := J6.free
      refine hR _ s6 _ (show s.heap.objs.size ≤ (pushed s).heap.objs.size by omega) (fun z => by have z' : (pushed s).heap.objs.size = s.heap.objs.size := z; omega) I7 (q _ b6) (by rw [upd_ne (fun z => by have z' : (pushed s).heap.objs.size = s.heap.objs.size := z; omega)]; exact hC) ?_
      obtain ⟨m, hn, _⟩ := J6.loc
      exact ⟨m, hn⟩
    · refine thn (T.item (compCx X own F scope (pushed s).heap.objs.size (pushed s) H (s.heap.objs.size :: fp)) rfl rfl rfl hc i _ s5 _ H5 (fun _ _ => False) pn5 (fp5 fr5) t5 go) fun r s6 ⟨u, hr, h6⟩ => ?_
      subst hr
      refine thn h6 fun _ s7 ⟨x, H7, I7, r7, y7, t7, fr7⟩ => ?_
      have J7 := I7.pinned (fp5 fr7) (T.obj _ _ t7)
      refine thn (hg _ _ _ _ _ s7 _ H7 x u _ J7 r7 (step x H7 y7)) fun _ s8 ⟨σ8, H8, I8, wk, q8⟩ => ?_
      refine thn (ht _ _ _ _ _ s8 σ8 H8 _ I8 q8) fun ok s9 ⟨H9, I9, q9⟩ => ?_
      have keep : ∀ {σ' : St} {H' : Hp} {s' : Shared}, Inv (compCx X own F scope (pushed s).heap.objs.size (pushed s) H (s.heap.objs.size :: fp)) ([(s.heap.objs.size, { cls := .type "list", data := .seq its.toArray k })] ++ pinsAt fp s7.heap) σ' H' s' →
          tn (i + 1) s'.heap ∧ (∀ b ∈ fp, H' b = none) ∧ H' s.heap.objs.size = none ∧ s'.heap.get? s.heap.objs.size = some { cls := .type "list", data := .seq its.toArray k } := fun {σ' H' s'} J => by
        have pa := J.pin (s.heap.objs.size, { cls := .type "list", data := .seq its.toArray k }) (List.mem_append_right _ (List.mem_append_left _ (List.mem_singleton.mpr rfl)))
        refine ⟨T.keep _ _ _ t7 fun b hb o e => (J.pin (b, o) (List.mem_append_right _ (List.mem_append_right _ (mem_pinsAt hb e)))).1, fun b hb => ?_, pa.2.1, pa.1⟩
        obtain ⟨o, e, d⟩ := T.obj _ _ t7 b hb
        exact (J.pin (b, o) (List.mem_append_right _ (List.mem_append_right _ (mem_pinsAt hb e)))).2.1
      cases ok with
      | false =>
        rw [if_neg Bool.false_ne_true] at q9 ⊢
        obtain ⟨m', hm, w9⟩ := hN _ _ q9
        obtain ⟨a1, a2, a3, a4⟩ := keep I9
        exact ⟨m', hm, i + 1, ys, H9, its, k, (I9.pins_of (pins' := []) (fun p hp => nomatch hp)).weak wk.1 wk.2, a1, a2, a3, v5, a4, Nat.le_succ_of_le l5, w9⟩
      | true =>
        rw [if_pos rfl] at q9 ⊢
        refine thn (he _ _ _ _ _ s9 σ8 H9 _ I9 q9) fun u' s10 ⟨y, H10, I10, r10, q10⟩ => ?_
        obtain ⟨m', hm, w10⟩ := hN _ _ q10
        obtain ⟨a1, a2, a3, a4⟩ := keep I10
        have hl := v5.length
        refine call_meets PySem.F.slot_list_append ⟨_, a4, rfl⟩ PySem.F.entry_list_append (PySem.F.args_list_append_2 _ _) (PySem.list_append s.heap.objs.size its.toArray k u' (by rw [List.size_toArray]; omega)) ⟨a4, ?_⟩
        have q := PySem.IsL.update a4 (fun xs : Array Value => xs.push u')
        have eq : its.toArray.push u' = (its ++ [u']).toArray := by simp
        rw [eq] at q
        obtain ⟨x1, x2⟩ := I0.ok.exf s.heap.objs.size List.mem_cons_self
        have I11 := (I10.pins_of (pins' := []) (fun p hp => nomatch hp)).turned (it := s.heap.objs.size) (t' := s10.toks) (h' := s10.heap.update s.heap.objs.size (Obj.mapSeq (fun xs : Array Value => xs.push u'))) (fun b o hb e => (Heap.get?_update_other s10.heap _ (Ne.symm hb)).trans e) a3 x1 (.inl List.mem_cons_self) x2 (fun p hp => absurd (show p ∈ ([] : List (Addr × Obj)) from hp) (by simp))
        refine ⟨m', hm, i + 1, ys ++ [y], H10, its ++ [u'], _, I11.weak wk.1 wk.2, ?_, a2, a3, v5.append (.cons r10 .nil), q, by rw [List.length_append, List.length_singleton]; omega, w10⟩
        exact T.keep _ _ _ a1 fun b hb o e => (Heap.get?_update_other s10.heap _ (Nat.ne_of_gt (hlt b hb))).trans e
  have loop' := codeAny_mono loop (R' := fun r s' => Value.ref s.heap.objs.size = .ref s.heap.objs.size ∧ RR (pushed s).heap.objs.size r s') fun r s' z => ⟨rfl, z⟩
  exact codeAny_compStart_list loop' (T.self X.A 0 _ _ _ ht0 loop')
theorem pe_comp (S : CompSc X scope own F) (hc : X.calm = true) (hi : PI X tg iter wi)
    (hg : ∀ C s₃ H₃ ex, PG (compCx X own F scope C s₃ H₃ ex) tg g) (ht : ∀ C s₃ H₃ ex, PTs (compCx X own F scope C s₃ H₃ ex) ifs tt) (he : ∀ C s₃ H₃ ex, PE (compCx X own F scope C s₃ H₃ ex) elt te)
    (hs : ∀ x, foldedSetIterable iter X.env x = pure x := by intro _; rfl) : PE X (.ListComp elt [⟨tg, iter, ifs, 0⟩] scope pos) (tComp own F wi g tt te) := by
  intro pins s σ H Q I h
  rw [eval_ListComp]
  refine wpAny_comprehension_free (use := none) rfl hs (closureFor_clo (I.freeCells S)) S.kind S.lc ?_
  refine thn (hi pins s σ H _ I h) fun v s1 h1 => thn h1 fun itv s2 ⟨it, fp, tn, J, H2, e, I2, T, st2, f2, q2⟩ => ?_
  subst e
  refine thn (comp_run (Q := Q) (RR := fun C r s' => compPost (model X.prog X.w) X.A X.xe none (EP X pins σ Q) (.ref s2.heap.objs.size) C r s') S hc hg ht he I2 T st2 f2 q2 fun C s4 H4 c1 c2 I4 q4 n4 hm => ?_) fun acc s3 h3 => thn h3 fun cenv s4 h4 => codeAny_mono h4 fun r s' ⟨ea, hr⟩ => ?_
  · obtain ⟨m, hn⟩ := hm
    exact ⟨m, hn, fun h' hs' => ⟨.ref s2.heap.objs.size, H4, comp_letgo I2 c1 I4 n4 hs', rfl, q4⟩⟩
  · rw [ea]; exact hr
/-- x = [..], where the store comes ahead of the letting go -/
theorem ps_comp {i : Nat} {x : Str} {pos' spos : Pos} (hN : X.N.Nodup) (hi' : X.N[i]? = some x) (hx : Loc X.env.scope x) (S : CompSc X scope own F) (hc : X.calm = true) (hi : PI X tg iter wi)
    (hg : ∀ C s₃ H₃ ex, PG (compCx X own F scope C s₃ H₃ ex) tg g) (ht : ∀ C s₃ H₃ ex, PTs (compCx X own F scope C s₃ H₃ ex) ifs tt) (he : ∀ C s₃ H₃ ex, PE (compCx X own F scope C s₃ H₃ ex) elt te)
    (hsw : swapsWith (.ListComp elt [⟨tg, iter, ifs, 0⟩] scope pos) (some (.Name x pos')) spos.line X.env = pure true := by rfl)
    (hs : ∀ x, foldedSetIterable iter X.env x = pure x := by intro _; rfl) (hf : X.fn x = true ∨ X.env.scope.names.lookup x = some .local := by first | exact .inl rfl | exact .inr rfl | assumption) :
    PS X (.Assign [.Name x pos'] (.ListComp elt [⟨tg, iter, ifs, 0⟩] scope pos) spos) (tAsg (tComp own F wi g tt te) (gName i)) := by
  intro pins s σ H D I h
  rw [exec_Assign_Name_used x pos' _ _ hsw]
  refine wpAny_bind (wpAny_standAt (wpAny_bind ?_))
  refine wpAny_bind ?_
  refine wpAny_mono (Q := fun _ s' => SP X pins D .next s') ?_ (fun _ s' q => wpAny_pure (wpAny_pure q)) fun _ _ z => z
  refine wpAny_comprehension_free (use := some (assign (.Name x pos') X.env)) rfl hs (closureFor_clo (I.freeCells S)) S.kind S.lc ?_
  refine thn (hi pins s σ H _ I h) fun v s1 h1 => thn h1 fun itv s2 ⟨it, fp, tn, J, H2, e, I2, T, st2, f2, q2⟩ => ?_
  subst e
  refine thn (comp_run (Q := fun x H1 => gName i x σ H1 D.nx) (RR := fun C r s' => compPost (model X.prog X.w) X.A X.xe (some (assign (.Name x pos') X.env)) (fun _ s' => SP X pins D .next s') (.ref s2.heap.objs.size) C r s') S hc hg ht he I2 T st2 f2 q2 fun C s4 H4 c1 c2 I4 q4 n4 hm => ?_) fun acc s3 h3 => thn h3 fun cenv s4 h4 => codeAny_mono h4 fun r s' ⟨ea, hr⟩ => ?_
  · obtain ⟨m, hn⟩ := hm
    refine wpAny_assign_Name (store_ok2 I4 hN hi' hx (v := .ref s2.heap.objs.size) rfl (fun s5 I5 ⟨a, sb, ha⟩ => ?_) hf)
    have aC : a ≠ C := by
      rcases ha with z | z
      · rw [z]; exact Nat.ne_of_lt (Nat.lt_of_lt_of_le I2.lt c1)
      · obtain ⟨v, u⟩ := I2.cell _ _ z
        exact Nat.ne_of_lt (Nat.lt_of_lt_of_le u.lt c1)
    exact ⟨m, hn.sameBut sb (Ne.symm aC), fun h' hs' => ⟨_, H4, comp_letgo I2 c1 I5 n4 hs', q4⟩⟩
  · rw [ea]; exact hr
end
end L2
namespace L2
open PySem PySem.Spec PyProof.Rows
inductive T where
  | non | bl (b : Bool) | int (i : Int) | str (x : List Nat) | lst (ts : List T) | dic (ks : List (List Nat)) (ts : List T) | tup (ts : List T)
mutual
/-- the value stands for the tree -/
def Rep (H : Hp) : V → T → Prop
  | v, .non => v = .non
  | v, .bl b => v = .bl b
  | v, .int i => v = .int i
  | v, .str x => v = .str (tx x)
  | v, .lst ts => ∃ a vs, v = .ref a ∧ H a = some (.lst vs) ∧ Reps H vs ts
  | v, .dic ks ts => ∃ a ps, v = .ref a ∧ H a = some (.dK ps) ∧ ps.map (·.1) = ks.map (fun k => (Sum.inr (tx k) : Key)) ∧ Reps H (ps.map (·.2)) ts
  | v, .tup ts => ∃ a vs, v = .ref a ∧ H a = some (.tup vs) ∧ Reps H vs ts
def Reps (H : Hp) : List V → List T → Prop
  | vs, [] => vs = []
  | vs, t :: ts => ∃ v r, vs = v :: r ∧ Rep H v t ∧ Reps H r ts
end
mutual
theorem Rep.same {H H' : Hp} (e : Same H H') : ∀ (v : V) (t : T), Rep H v t → Rep H' v t
  | _, .non, h => h
  | _, .bl _, h => h
  | _, .int _, h => h
  | _, .str _, h => h
  | _, .lst ts, ⟨a, vs, h1, h2, h3⟩ => ⟨a, vs, h1, e _ _ h2, Reps.same e vs ts h3⟩
  | _, .dic ks ts, ⟨a, ps, h1, h2, h3, h4⟩ => ⟨a, ps, h1, e _ _ h2, h3, Reps.same e _ ts h4⟩
  | _, .tup ts, ⟨a, vs, h1, h2, h3⟩ => ⟨a, vs, h1, e _ _ h2, Reps.same e vs ts h3⟩
theorem Reps.same {H H' : Hp} (e : Same H H') : ∀ (vs : List V) (ts : List T), Reps H vs ts → Reps H' vs ts
  | _, [], h => h
  | _, t :: ts, ⟨v, r, h1, h2, h3⟩ => ⟨v, r, h1, Rep.same e v t h2, Reps.same e r ts h3⟩
end
theorem Reps.snoc {H : Hp} {v : V} {t : T} (h : Rep H v t) : ∀ {vs : List V} {ts : List T}, Reps H vs ts → Reps H (vs ++ [v]) (ts ++ [t])
  | _, [], e => by
    have e' : _ = [] := e
    subst e'
    exact ⟨v, [], rfl, h, rfl⟩
  | _, t' :: ts, ⟨v', r, h1, h2, h3⟩ => by
    subst h1
    exact ⟨v', r ++ [v], rfl, h2, Reps.snoc h h3⟩
theorem Reps.length {H : Hp} : ∀ {vs : List V} {ts : List T}, Reps H vs ts → vs.length = ts.length
  | _, [], e => by
    have e' : _ = [] := e
    subst e'; rfl
  | _, t' :: ts, ⟨v', r, h1, h2, h3⟩ => by
    subst h1
    simp [Reps.length h3]
theorem Reps.get {H : Hp} : ∀ {vs : List V} {ts : List T} {i : Nat} {v : V}, Reps H vs ts → vs[i]? = some v → ∃ t, ts[i]? = some t ∧ Rep H v t
  | _, [], i, v, e, h => by
    have e' : _ = [] := e
    subst e'; simp at h
  | _, t' :: ts, 0, v, ⟨v', r, h1, h2, h3⟩, h => by
    subst h1
    simp at h; subst h
    exact ⟨t', rfl, h2⟩
  | _, t' :: ts, i + 1, v, ⟨v', r, h1, h2, h3⟩, h => by
    subst h1
    obtain ⟨t, e, q⟩ := Reps.get (i := i) (v := v) h3 (by simpa using h)
    exact ⟨t, by simpa using e, q⟩
def tyT : T → String
  | .non => "NoneType"
  | .bl _ => "bool"
  | .int _ => "int"
  | .str _ => "str"
  | .lst _ => "list"
  | .dic _ _ => "dict"
  | .tup _ => "tuple"
theorem Rep.ty {H : Hp} {v : V} : ∀ {t : T}, Rep H v t → tyS H v = some (tyT t)
  | .non, h => by cases (show v = .non from h); rfl
  | .bl b, h => by cases (show v = .bl b from h); rfl
  | .int i, h => by cases (show v = .int i from h); rfl
  | .str x, h => by cases (show v = .str (tx x) from h); rfl
  | .lst ts, h => by obtain ⟨a, vs, e, h2, _⟩ := h; subst e; show (match H a with | some (.lst _) => some "list" | some (.tup _) => some "tuple" | some (.dK _) => some "dict" | _ => none) = _; rw [h2]; rfl
  | .dic ks ts, h => by obtain ⟨a, vs, e, h2, _⟩ := h; subst e; show (match H a with | some (.lst _) => some "list" | some (.tup _) => some "tuple" | some (.dK _) => some "dict" | _ => none) = _; rw [h2]; rfl
  | .tup ts, h => by obtain ⟨a, vs, e, h2, _⟩ := h; subst e; show (match H a with | some (.lst _) => some "list" | some (.tup _) => some "tuple" | some (.dK _) => some "dict" | _ => none) = _; rw [h2]; rfl
def letL : List Nat := (List.range 26).map (· + 97)
def figL : List Nat := (List.range 10).map (· + 48)
/-- the signs of texts: from the blank to ~ but the percent sign -/
def sgnL : List Nat := ((List.range 95).map (· + 32)).filter (· != 37)
def okName (w : List Nat) : Bool := decide (1 ≤ w.length) && decide (w.length ≤ 12) && (match w with | [] => false | c :: _ => decide (c ∈ letL)) && w.all (fun c => decide (c ∈ letL ++ figL))
def okText (w : List Nat) : Bool := decide (w.length ≤ 30) && w.all (fun c => decide (c ∈ sgnL))
mutual
def Nice : Nat → T → Prop
  | _, .non => True
  | _, .bl _ => True
  | _, .int i => -(10 ^ 12) ≤ i ∧ i ≤ 10 ^ 12
  | _, .str x => okText x = true
  | d, .lst ts => 1 ≤ d ∧ ts.length ≤ 4 ∧ NiceL (d - 1) ts
  | d, .dic ks ts => 1 ≤ d ∧ ts.length ≤ 4 ∧ ks.length = ts.length ∧ ks.Nodup ∧ (∀ k ∈ ks, okName k = true) ∧ NiceL (d - 1) ts
  | _, .tup _ => False
def NiceL : Nat → List T → Prop
  | _, [] => True
  | d, t :: ts => Nice d t ∧ NiceL d ts
end
theorem NiceL.snoc {d : Nat} {t : T} (h : Nice d t) : ∀ {ts : List T}, NiceL d ts → NiceL d (ts ++ [t])
  | [], _ => ⟨h, trivial⟩
  | _ :: ts, ⟨a, b⟩ => ⟨a, NiceL.snoc h b⟩
end L2
namespace L2
open PySem PySem.Spec PyProof.Rows
theorem same_new {H : Hp} {p : Addr} (h : H p = none) (o : HO) : Same H (upd H p o) := fun b u q => by rw [upd_ne (ne_of_none q h)]; exact q
section
variable {K : PySem.W.Frag} {H : Hp} {Q : VK} {a b : Addr} {xs ys : List V}
theorem rEqL_i {neg : Bool} (h1 : SqL K H a xs) (h2 : SqL K H b ys) (f1 : xs.all flatV = true) (f2 : ys.all flatV = true) (q : Q (.bl (if neg then !eqLs xs ys else eqLs xs ys)) H) : rEqL K neg (.ref a) (.ref b) H Q :=
  ⟨a, b, xs, ys, rfl, rfl, h1, h2, f1, f2, q⟩
theorem rIxL_i {i : Int} {v : V} (h1 : SqL K H a xs) (h2 : atI xs i = some v) (q : Q v H) : rIxL K (.ref a) (.int i) H Q := ⟨a, xs, i, v, rfl, rfl, h1, h2, q⟩
theorem rIxT_i {i : Int} {v : V} (h1 : SqT K H a xs) (h2 : atI xs i = some v) (q : Q v H) : rIxT K (.ref a) (.int i) H Q := ⟨a, xs, i, v, rfl, rfl, h1, h2, q⟩
theorem rIxS_i {z : Str} {i : Int} {c : Nat} (h1 : z.length ≤ sizeLine) (h2 : atI (ts z) i = some c) (q : Q (.str (tx [c])) H) : rIxS (.str z) (.int i) H Q := ⟨z, i, c, rfl, rfl, h1, h2, q⟩
end
/-- an item at a place that is not written -/
theorem atI_of {α : Type} {xs : List α} {i : Int} (h0 : 0 ≤ i) (h1 : i < xs.length) : ∃ v, atI xs i = some v ∧ v ∈ xs := by
  obtain ⟨j, rfl⟩ := Int.eq_ofNat_of_zero_le h0
  have hj : j < xs.length := by omega
  exact ⟨xs[j], atI_nat (by simp [hj]), List.getElem_mem hj⟩
theorem atI_getD {α : Type} {xs : List α} {i : Int} {d : α} (h0 : 0 ≤ i) (h1 : i < xs.length) : atI xs i = some (xs.getD i.toNat d) := by
  obtain ⟨j, rfl⟩ := Int.eq_ofNat_of_zero_le h0
  have hj : j < xs.length := by omega
  refine atI_nat ?_
  simp [List.getD, hj]
/-- a comprehension over one name: Pv holds between two turns -/
theorem comp_by {x : Str} {F : List (Str × Nat)} {J : It} {n : Nat} {tt : TT} {te : TE} {σ : St} {Q : VK} {H1 : Hp} (Pv : Nat → List V → Hp → Prop) (hn : n ≤ sizeLine) (h0 : Pv 0 [] H1) (hgo : ∀ i ys H, i < n → Pv i ys H → J.go i H)
    (hst : ∀ ys H, Pv n ys H → J.stop n H)
    (hs : ∀ i ys H y H2, i < n → ys.length ≤ i → Pv i ys H → J.yld i H y H2 → tt (some y :: F.map (fun p => (σ[p.2]?).join)) H2 fun b H3 => if b = true then te (some y :: F.map (fun p => (σ[p.2]?).join)) H3 fun z H4 => Pv (i + 1) (ys ++ [z]) H4 else Pv (i + 1) ys H3)
    (hd : ∀ ys H, ys.length ≤ n → Pv n ys H → ∀ p, H p = none → Q (.ref p) (upd H p (.lst ys))) : CompBody [x] F (gName 0) tt te σ Q J H1 := by
  refine ⟨fun i m ys H => m = n - i ∧ i ≤ n ∧ Pv i ys H, ⟨n, by simp, Nat.zero_le _, h0⟩, ?_⟩
  rintro i m ys H ⟨rfl, hi, p⟩ hl
  by_cases hlt : i < n
  · refine .inr ⟨hgo i ys H hlt p, by omega, Pv (i + 1), fun ys' H'' q => ⟨n - (i + 1), by omega, rfl, hlt, q⟩, fun y H2 hy => ?_⟩
    exact ⟨weak_set (i := 0) rfl, hs i ys H y H2 hlt hl p hy⟩
  · have e : i = n := by omega
    subst e
    exact .inl ⟨hst ys H p, hn, hd ys H hl p⟩
/-- .. over a range, without a test -/
theorem comp_rng {x : Str} {F : List (Str × Nat)} {lo : Int} {n : Nat} {te : TE} {σ : St} {Q : VK} {H1 : Hp} (Pv : Nat → List V → Hp → Prop) (hn : n ≤ sizeLine) (h0 : Pv 0 [] H1)
    (hs : ∀ (i : Nat) ys H, i < n → ys.length ≤ i → Pv i ys H → te (some (.int (lo + i)) :: F.map (fun p => (σ[p.2]?).join)) H fun z H4 => Pv (i + 1) (ys ++ [z]) H4)
    (hd : ∀ ys H, ys.length ≤ n → Pv n ys H → ∀ p, H p = none → Q (.ref p) (upd H p (.lst ys))) : CompBody [x] F (gName 0) tTrue te σ Q (Itr lo n) H1 :=
  comp_by Pv hn h0 (fun i _ _ h _ => h) (fun _ _ _ => Nat.le_refl _) (fun i ys H y H2 h1 h2 h3 h4 => by
    obtain ⟨rfl, rfl⟩ := h4
    exact hs i ys _ h1 h2 h3) hd
/-- .. over a text -/
theorem comp_str {x : Str} {F : List (Str × Nat)} {w : Str} {tt : TT} {te : TE} {σ : St} {Q : VK} {H1 : Hp} (Pv : Nat → List V → Hp → Prop) (hn : (ts w).length ≤ sizeLine) (h0 : Pv 0 [] H1)
    (hs : ∀ i c ys H, (ts w)[i]? = some c → ys.length ≤ i → Pv i ys H → tt (some (.str (tx [c])) :: F.map (fun p => (σ[p.2]?).join)) H fun b H3 => if b = true then te (some (.str (tx [c])) :: F.map (fun p => (σ[p.2]?).join)) H3 fun z H4 => Pv (i + 1) (ys ++ [z]) H4 else Pv (i + 1) ys H3)
    (hd : ∀ ys H, ys.length ≤ (ts w).length → Pv (ts w).length ys H → ∀ p, H p = none → Q (.ref p) (upd H p (.lst ys))) : CompBody [x] F (gName 0) tt te σ Q (Its w) H1 :=
  comp_by Pv hn h0 (fun i _ _ h _ => h) (fun _ _ _ => Nat.le_refl _) (fun i ys H y H2 h1 h2 h3 h4 => by
    obtain ⟨rfl, c, hc, rfl⟩ := h4
    exact hs i c ys _ hc h2 h3) hd
end L2
namespace L2
open PySem PySem.Spec PyProof.Rows
section
variable {X : Cx} {x : Str} {pos : Pos}
theorem pe_gs {z : Str} (hg : Gl X x) (h : ∃ t, X.mg x = some (.str z t)) (hd : (x == ("__debug__" : Str)) = false := by decide) : PE X (.Name x pos) (tC (.str z)) := by
  obtain ⟨t, h⟩ := h
  exact pe_glob hg h ⟨t, rfl⟩ hd
theorem pe_gi {z : Int} (hg : Gl X x) (h : ∃ t, X.mg x = some (.int z t)) (hd : (x == ("__debug__" : Str)) = false := by decide) : PE X (.Name x pos) (tC (.int z)) := by
  obtain ⟨t, h⟩ := h
  exact pe_glob hg h ⟨t, rfl⟩ hd
end
end L2
namespace L2
open PySem PySem.Spec PyProof.Rows
theorem cxOf_K {CX : CXT} {P : Program} {w : World} {K : PySem.W.Frag} {mg : Str → Option Value} {base : Heap} {N : List Str} {qual : Str} {scope : Scope} {f : Addr} {cd : Value} {A : Around} {outer : List Env} {s : Shared} {H : Hp} {E : XK} : (cxOf CX P w K mg base N qual scope f cd A outer s H E).K = K := rfl
theorem nox_K {X : Cx} : X.nox.K = X.K := rfl
theorem compCx_K {X : Cx} {own : List Str} {F : List (Str × Nat)} {scope : Scope} {C : Addr} {s₃ : Shared} {H₃ : Hp} {ex : List Addr} : (compCx X own F scope C s₃ H₃ ex).K = X.K := rfl
theorem flat_ints (ns : List Int) : (ns.map V.int).all flatV = true := by
  rw [List.all_map]; exact List.all_eq_true.mpr fun _ _ => rfl
theorem flat_strs (ns : List Str) : (ns.map V.str).all flatV = true := by
  rw [List.all_map]; exact List.all_eq_true.mpr fun _ _ => rfl
theorem eqLs_nil (xs : List V) : eqLs xs [] = xs.isEmpty := by cases xs <;> rfl
end L2
namespace L2
theorem natAbs10 : Int.natAbs 10 = 10 := rfl
end L2
namespace L2
open PySem PySem.Spec PyProof.Rows
def ForB (g : TG) (tb : TS) (D : Ends) (σ : St) (J : It) (H1 : Hp) : Prop := ∃ W : Nat → Nat → St → Hp → Prop, (∃ m, W 0 m σ H1) ∧ ∀ i m σ H, W i m σ H →
  (J.stop i H ∧ D.nx σ H) ∨ (J.go i H ∧ ∃ N : St → Hp → Prop, (∀ σ' H', N σ' H' → ∃ m', m' < m ∧ W (i + 1) m' σ' H') ∧ ∀ x H', J.yld i H x H' → g x σ H' fun σ2 H2 => tb { D with nx := N, ct := N, bk := D.nx } σ2 H2)
theorem tFor_eq (wi : TI) (g : TG) (tb : TS) (D : Ends) (σ : St) (H : Hp) : tFor wi g tb D σ H = wi σ H fun J H1 => ForB g tb D σ J H1 := rfl
theorem forB_rng {lo : Int} {n : Nat} {g : TG} {tb : TS} {D : Ends} {σ : St} {H : Hp} (Pv : Nat → St → Hp → Prop) (h0 : Pv 0 σ H)
    (hs : ∀ i σ H, i < n → Pv i σ H → g (.int (lo + i)) σ H fun σ2 H2 => tb { D with nx := Pv (i + 1), ct := Pv (i + 1), bk := D.nx } σ2 H2) (hd : ∀ σ H, Pv n σ H → D.nx σ H) : ForB g tb D σ (Itr lo n) H := for_range Pv h0 hs hd
theorem forB_list {K : PySem.W.Frag} {a : Addr} {xs : List V} {g : TG} {tb : TS} {D : Ends} {σ : St} {H : Hp} (Pv : Nat → St → Hp → Prop) (h0 : Pv 0 σ H) (hl : ∀ i σ H, i ≤ xs.length → Pv i σ H → SqL K H a xs)
    (hs : ∀ i x σ H, xs[i]? = some x → Pv i σ H → g x σ H fun σ2 H2 => tb { D with nx := Pv (i + 1), ct := Pv (i + 1), bk := D.nx } σ2 H2) (hd : ∀ σ H, Pv xs.length σ H → D.nx σ H) : ForB g tb D σ (Itl K a) H := for_list Pv h0 hl hs hd
section
variable {X : Cx}
theorem call_intB : CallR X (.type "int") (fun xs H Q => ∃ k, xs = [.bl k] ∧ Q (.int (if k then 1 else 0)) H) := fun pins s σ H xs us Q I r h => call_int1 pins s σ H xs us Q I r (.inr h)
theorem call_len_l : CallR X (.builtin "len") (fun xs H Q => ∃ p, xs = [.ref p] ∧ ∃ ys, SqL X.K H p ys ∧ Q (.int ys.length) H) := fun pins s σ H xs us Q I r ⟨p, e, ys, h, q⟩ => call_len_seq pins s σ H xs us Q I r ⟨p, ys, e, .inl h, q⟩
end
abbrev nK (k : List Nat) : Key := Sum.inr (tx k)
theorem nK_inj {a b : List Nat} (h : nK a = nK b) : a = b := by
  have e : tx a = tx b := Sum.inr.inj h
  rw [← ts_tx a, e, ts_tx]
theorem Reps.repl {H : Hp} {k : Key} {v : V} {t : T} (hv : Rep H v t) : ∀ {ps : List (Key × V)} {ts : List T}, Reps H (ps.map (·.2)) ts → ∃ ts', Reps H ((ps.map fun kv => if kv.1 = k then (kv.1, v) else kv).map (·.2)) ts' ∧ ts'.length = ts.length ∧ ∀ u ∈ ts', u ∈ ts ∨ u = t
  | [], ts, h => ⟨ts, h, rfl, fun u hu => .inl hu⟩
  | p :: ps, [], h => by
    have h' : (p :: ps).map (·.2) = [] := h
    cases h'
  | p :: ps, u :: ts, ⟨v', r, e, h1, h2⟩ => by
    have e' : p.2 :: ps.map (·.2) = v' :: r := e
    injection e' with e1 e2
    subst e1 e2
    obtain ⟨ts', r', l', m'⟩ := Reps.repl hv h2
    by_cases hk : p.1 = k
    · refine ⟨t :: ts', ⟨v, _, ?_, hv, r'⟩, by simp [l'], fun z hz => ?_⟩
      · rw [List.map_cons, if_pos hk, List.map_cons]
      · rcases List.mem_cons.mp hz with q | q
        · exact .inr q
        · exact (m' z q).imp (List.mem_cons_of_mem _) id
    · refine ⟨u :: ts', ⟨p.2, _, ?_, h1, r'⟩, by simp [l'], fun z hz => ?_⟩
      · rw [List.map_cons, if_neg hk, List.map_cons]
      · rcases List.mem_cons.mp hz with q | q
        · exact .inl (by rw [q]; exact List.mem_cons_self)
        · exact (m' z q).imp (List.mem_cons_of_mem _) id
end L2
namespace L2
open PySem PySem.Spec PyProof.Rows
theorem ts_l36 : ts (Str.ofString "abcdefghijklmnopqrstuvwxyz0123456789") = letL ++ figL := by decide +kernel
theorem ts_l26 : ts (Str.ofString "abcdefghijklmnopqrstuvwxyz") = letL := by decide +kernel
theorem ts_f10 : ts (Str.ofString "0123456789") = figL := by decide +kernel
theorem ts_a : ts (Str.ofString "a") = [97] := by decide +kernel
theorem of_nil : Str.ofString "" = tx [] := by decide +kernel
theorem rep_one (c k : Nat) : (List.replicate k [c]).flatten = List.replicate k c := by
  induction k with
  | zero => rfl
  | succ k ih => rw [List.replicate_succ, List.flatten_cons, ih, List.replicate_succ]; rfl
theorem okName_of {w : List Nat} (h1 : w.length ≤ 12) (h3 : ∃ c r, w = c :: r ∧ c ∈ letL) (h4 : ∀ c ∈ w, c ∈ letL ++ figL) : okName w = true := by
  obtain ⟨c, r, rfl, hc⟩ := h3
  unfold okName
  simp only [Bool.and_eq_true, decide_eq_true_eq, List.all_eq_true]
  exact ⟨⟨⟨by simp, h1⟩, hc⟩, h4⟩
theorem at_l36 {i : Int} (h0 : 0 ≤ i) (h1 : i < 36) : ∃ c, atI (letL ++ figL) i = some c ∧ c ∈ letL ++ figL := atI_of h0 (by show i < ((36 : Nat) : Int); omega)
theorem at_l26 {i : Int} (h0 : 0 ≤ i) (h1 : i < 26) : ∃ c, atI (letL ++ figL) i = some c ∧ c ∈ letL := by
  obtain ⟨j, rfl⟩ := Int.eq_ofNat_of_zero_le h0
  have hj : j < 26 := by omega
  have hj' : j < letL.length := hj
  refine ⟨letL[j], atI_nat (by rw [List.getElem?_append_left hj']; simp [hj']), List.getElem_mem hj'⟩
theorem a_letL : 97 ∈ letL := by decide
theorem letL_sub {c : Nat} (h : c ∈ letL) : c ∈ letL ++ figL := List.mem_append_left _ h
end L2
namespace L2
theorem all_filter {α : Type} (p : α → Bool) : ∀ l : List α, l.all p = (l.filter fun c => !p c).isEmpty
  | [] => rfl
  | a :: r => by
    rw [List.all_cons, List.filter_cons, all_filter p r]
    cases p a <;> simp
end L2
namespace L2
open PySem PySem.Spec PyProof.Rows
end L2
namespace L2
open PySem PySem.Spec PyProof.Rows
theorem HOk.sim {P : Program} {w : World} {H H' : Hp} {h : Heap} (ok : HOk P w H h) (ho : ∀ b a, H b = some (.own a) → H' b = some (.own a)) (ht : ∀ b xs, H b = some (.tup xs) → H' b = some (.tup xs))
    (hs : ∀ b u, H' b = some u → H b = some u ∨ (∃ o, H b = some (.frz o u)) ∨ ∃ o u', u = .frz o u' ∧ H b = some u' ∧ h.get? b = some o) : HOk P w H' h := fun b u e => by
  rcases hs b u e with q | ⟨o, q⟩ | ⟨o, u', rfl, q, g⟩
  · exact (ok b u q).stay (fun _ _ _ z => z) (fun c z => ho c b z) fun c xs z => ht c xs z
  · obtain ⟨_, z⟩ := (show ObjOk P w H h b (.frz o u) from ok b _ q)
    exact z.stay (fun _ _ _ z => z) (fun c z => ho c b z) fun c xs z => ht c xs z
  · exact ⟨g, (ok b u' q).stay (fun _ _ _ z => z) (fun c z => ho c b z) fun c xs z => ht c xs z⟩
section
variable {X : Cx} {pins : List (Addr × Obj)} {σ σ' : St} {H H' : Hp} {s s' : Shared}
theorem Inv.sim (I : Inv X pins σ H s) (hn : ∀ b, H b = none → H' b = none) (ho : ∀ b a, H b = some (.own a) → H' b = some (.own a)) (ht : ∀ b xs, H b = some (.tup xs) → H' b = some (.tup xs))
    (hb : ∀ b ps, H b = some (.tbl ps) → H' b = some (.tbl ps)) (hf : ∀ b o u, X.H₀ b = some (.frz o u) → H' b = some (.frz o u))
    (hs : ∀ b u, H' b = some u → H b = some u ∨ (∃ o, H b = some (.frz o u)) ∨ ∃ o u', u = .frz o u' ∧ H b = some u' ∧ s.heap.get? b = some o) : Inv X pins σ H' s :=
  ⟨I.ok, I.os, I.bare, ⟨I.base.keep, I.base.slot, fun b o e n hx => hn b (I.base.free b o e n hx), I.base.there, fun b xs e => ht b xs (I.base.tups b xs e), hf, fun b ps e => by
    obtain ⟨m, q⟩ := I.base.tbls b ps e
    exact ⟨m, hb b _ q⟩⟩, I.loc, I.cell, hn _ I.free, fun x c e => hn _ (I.freeC x c e), fun p hp => by
    obtain ⟨a, b, c, d, e⟩ := I.pin p hp
    exact ⟨a, hn _ b, c, d, e⟩, I.hok.sim ho ht hs, I.len⟩
theorem Inv.freeze {d : Addr} {kvs : List (Key × V)} {o : Obj} (I : Inv X pins σ H s) (h : H d = some (.dK kvs)) (hg : s.heap.get? d = some o) : Inv X pins σ (upd H d (.frz o (.dK kvs))) s := by
  have ne : ∀ b u, H b = u → u ≠ some (.dK kvs) → b ≠ d := fun b u e n z => by subst z; exact n (e.symm.trans h)
  refine I.sim (fun b e => by rw [upd_ne (ne b _ e (by intro z; cases z))]; exact e) (fun b a e => by rw [upd_ne (ne b _ e (by intro z; cases z))]; exact e) (fun b a e => by rw [upd_ne (ne b _ e (by intro z; cases z))]; exact e)
    (fun b a e => by rw [upd_ne (ne b _ e (by intro z; cases z))]; exact e) (fun b o' u e => ?_) fun b u e => ?_
  · have e' := I.base.frzs b o' u e
    rw [upd_ne (ne b _ e' (by intro z; cases z))]; exact e'
  · by_cases hb : b = d
    · subst hb
      rw [upd_same] at e; cases e
      exact .inr (.inr ⟨o, _, rfl, h, hg⟩)
    · rw [upd_ne hb] at e; exact .inl e
/-- what was known to its object for a walk is freed again -/
def thaw (H H' : Hp) : Hp := fun b => match H b with
  | some (.frz _ _) => H' b
  | _ => match H' b with
    | some (.frz _ u) => some u
    | y => y
theorem thaw_frz {b : Addr} {o : Obj} {u : HO} (h : H b = some (.frz o u)) : thaw H H' b = H' b := by unfold thaw; rw [h]
theorem thaw_none {b : Addr} (h : H' b = none) : thaw H H' b = none := by unfold thaw; rw [h]; split <;> rfl
theorem thaw_of {b : Addr} {u : HO} (h : H' b = some u) (n : ∀ o v, u ≠ .frz o v) : thaw H H' b = some u := by
  unfold thaw; rw [h]
  split
  · rfl
  · cases u <;> first | rfl | exact absurd rfl (n _ _)
theorem thaw_at {b : Addr} {o : Obj} {u : HO} (h : H' b = some (.frz o u)) (n : ∀ o v, H b ≠ some (.frz o v)) : thaw H H' b = some u := by
  unfold thaw; rw [h]
  cases e : H b with
  | none => rfl
  | some v => cases v <;> first | rfl | exact absurd e (n _ _)
theorem thaw_inv {b : Addr} {u : HO} (h : thaw H H' b = some u) : H' b = some u ∨ ∃ o, H' b = some (.frz o u) := by
  unfold thaw at h
  split at h
  · exact .inl h
  · split at h
    · rename_i o v e
      cases h
      exact .inr ⟨_, e⟩
    · exact .inl h
theorem Inv.thaw (I : Inv X pins σ H s) (J : Inv X pins σ' H' s') : Inv X pins σ' (thaw H H') s' :=
  J.sim (fun b e => thaw_none e) (fun b a e => thaw_of e (by intro o v z; cases z)) (fun b a e => thaw_of e (by intro o v z; cases z)) (fun b a e => thaw_of e (by intro o v z; cases z))
    (fun b o u e => by rw [thaw_frz (I.base.frzs b o u e)]; exact J.base.frzs b o u e) fun b u e => (thaw_inv e).imp id .inl
/-- from H on, thawed: nothing that was tracked has changed -/
theorem thaw_same {H H' : Hp} (h : ∀ b u, H b = some u → H' b = some u ∨ ((∃ o, H' b = some (.frz o u)) ∧ ∀ o v, u ≠ .frz o v)) : Same H (L2.thaw H H') := fun b u e => by
  rcases h b u e with q | ⟨⟨o, q⟩, n⟩
  · cases u with
    | frz o v => rw [thaw_frz e]; exact q
    | _ => exact thaw_of q (by intro o v z; cases z)
  · refine thaw_at q fun o' v z => ?_
    rw [e] at z; cases z; exact n _ _ rfl
def tThaw (t : TE) : TE := fun σ H Q => t σ H fun v H' => Q v (thaw H H')
theorem pe_thaw {e : Expr} {t : TE} (h : PE X e t) : PE X e (tThaw t) := by
  intro pins s σ H Q I q
  refine thn (h pins s σ H _ I q) fun u s1 ⟨v, H1, I1, r, q1⟩ => ⟨v, _, I.thaw I1, r, q1⟩
end
theorem KV.get {κ : Type} : ∀ {kvs : List (κ × V)} {vs : List (κ × Value)} {i : Nat} {kv : κ × V}, KV kvs vs → kvs[i]? = some kv → ∃ q, vs[i]? = some q ∧ kv.1 = q.1 ∧ RelV kv.2 q.2
  | _, _, _, _, .nil, e => by simp at e
  | _, _, 0, _, .cons r _, e => by simp at e; subst e; exact ⟨_, rfl, r⟩
  | _, _, i + 1, x, .cons _ t, e => by
    obtain ⟨u, h1, h2⟩ := KV.get (i := i) (kv := x) t (by simpa using e)
    exact ⟨u, by simpa using h1, h2⟩
theorem rel_key {P : Program} {w : World} {k : Key} {u : Value} (h : (mixKind P w).is k u = true) : RelV (kV k) u := by
  rcases keyIs_shape (show keyIs k u = true from h) with ⟨i, t, rfl, rfl⟩ | ⟨x, t, rfl, rfl⟩
  · exact ⟨t, rfl⟩
  · exact ⟨t, rfl⟩
theorem dictAt_of {P : Program} {w : World} {H : Hp} {h : Heap} {d : Addr} {o : Obj} {kvs : List (Key × V)} {es : Array DictEntry} {ep : Nat} (ok : HOk P w H h) (e : H d = some (.frz o (.dK kvs))) (he : o.data = .dict es ep) :
    ∃ vs, KV kvs vs ∧ h.DictAt (mixKind P w) d vs ep ∧ (d == sysModules) = false ∧ kvs.length ≤ sizeLine := by
  obtain ⟨g, z, hd, vs, rel, o', es', ep', ho, c, hdat, r⟩ := (show ObjOk P w H h d (.frz o (.dK kvs)) from ok d _ e)
  rw [g] at ho; cases ho
  rw [he] at hdat; cases hdat
  exact ⟨vs, rel, ⟨o, es, g, c, he, r⟩, hd, z⟩
/-- the keys of the dict at d, which stays the very object -/
def Itd (d : Addr) (o : Obj) (kvs : List (Key × V)) : It :=
  ⟨fun i H => i < kvs.length ∧ H d = some (.frz o (.dK kvs)), fun i H y H' => H' = H ∧ ∃ kv, kvs[i]? = some kv ∧ y = kV kv.1, fun i H => kvs.length ≤ i ∧ H d = some (.frz o (.dK kvs))⟩
theorem turn_dict {P : Program} {w : World} {K : PySem.W.Frag} {tg : Expr} (d it : Addr) (o : Obj) (kvs : List (Key × V)) : Turn P w K tg (Itd d o kvs) [it] it (fun i h => ∃ es ep, o.data = .dict es ep ∧ h.IsKeyIter it d i kvs.length ep) where
  mem := by simp
  obj := fun i h st b hb => by
    obtain ⟨es, ep, _, ob, e, c, dd⟩ := st
    have e' : b = it := by simpa using hb
    subst e'
    exact ⟨ob, e, fun v z => by rw [dd] at z; cases z⟩
  keep := fun i h h' st k => by
    obtain ⟨es, ep, a, st⟩ := st
    exact ⟨es, ep, a, st.at fun ob e => k it (by simp) ob e⟩
  item := by
    intro X hP hw hK hc i pins s σ H E I hf st hg
    subst hP hw hK
    obtain ⟨es, ep, hes, st⟩ := st
    obtain ⟨hi, hg⟩ := hg
    obtain ⟨vs, rel, hm, _, _⟩ := dictAt_of I.hok hg hes
    obtain ⟨f0, f1, f2, f3, f4, f5⟩ := hf it (by simp)
    have hl := rel.length
    obtain ⟨kv, hkv⟩ : ∃ kv, kvs[i]? = some kv := ⟨kvs[i], by simp [hi]⟩
    obtain ⟨q, hq, hq1, hq2⟩ := KV.get rel hkv
    rw [hl] at st
    refine wpAny_pyNext_dict_item (k := q.1) (v := q.2) st hm hq fun key h' hk st' sb => ?_
    have I1 : Inv X pins σ H { s with heap := h' } := I.turned (t' := s.toks) (fun b o hb e => (sb.2 b hb).trans e) f0 f1 f3 f4 f5
    obtain ⟨ob, e, c, dd⟩ := id st'
    exact ⟨key, rfl, go_of (s := { s with heap := h' }) e c dd (by decide) ⟨kV kv.1, H, I1, by rw [hq1]; exact rel_key hk, ⟨rfl, kv, hkv, rfl⟩, ⟨es, ep, hes, by rw [hl]; exact st'⟩, fun b hb => (hf b hb).1⟩⟩
  done := by
    intro X hP hw hK hc i pins s σ H E I hf st hg
    subst hP hw hK
    obtain ⟨es, ep, hes, st⟩ := st
    obtain ⟨hi, hg⟩ := hg
    obtain ⟨vs, rel, hm, _, _⟩ := dictAt_of I.hok hg hes
    obtain ⟨f0, f1, f2, f3, f4, f5⟩ := hf it (by simp)
    have hl := rel.length
    rw [hl] at st
    exact wpAny_pyNext_dict_end (I.ok.hd hc) st hm (by simp; omega) fun h' eb => ⟨rfl, I.turned (t' := s.toks) (fun b o hb e => eb b o hb e) f0 f1 f3 f4 f5⟩
  self := fun _ _ _ _ _ st h => by
    obtain ⟨es, ep, _, st⟩ := st
    exact wpAny_pyIter_keyiter st h
def iDict (tl : TE) : TI := fun σ H R => tl σ H fun x H1 => ∃ d kvs, x = .ref d ∧ ((H1 d = some (.dK kvs) ∧ ∀ o, R (Itd d o kvs) (upd H1 d (.frz o (.dK kvs)))) ∨ ∃ o, H1 d = some (.frz o (.dK kvs)) ∧ R (Itd d o kvs) H1)
section
variable {X : Cx}
theorem pi_dict {tg l : Expr} {tl : TE} (hl : PE X l tl) : PI X tg l (iDict tl) := by
  intro pins s σ H R I h
  refine thn (hl pins s σ H _ I h) fun v s1 ⟨x, H1, I1, r1, q1⟩ => ?_
  obtain ⟨d, kvs, rfl, q⟩ := q1
  cases r1
  have fin : ∀ o H2, Inv X pins σ H2 s1 → H2 d = some (.frz o (.dK kvs)) → R (Itd d o kvs) H2 → wpAny (model X.prog X.w) X.A (pyIter (.ref d)) (PIE X pins σ tg R) X.xe s1 := fun o H2 I2 e q => by
    obtain ⟨g, z, hd, vs, rel, o', es, ep, ho, c, hdat, r⟩ := (show ObjOk X.prog X.w H2 s1.heap d (.frz o (.dK kvs)) from I2.hok d _ e)
    rw [g] at ho; cases ho
    have hm : s1.heap.DictAt (mixKind X.prog X.w) d vs ep := ⟨o, es, g, c, hdat, r⟩
    refine wpAny_pyIter_dict hd hm ?_
    refine ⟨s1.heap.objs.size, [s1.heap.objs.size], _, _, H2, rfl, I2.kept (t' := s1.toks) fun b o e => Heap.get?_push_of_some _ e, turn_dict d _ o kvs, ⟨es, ep, hdat, _, Heap.get?_push_size _ rfl, rfl, by rw [rel.length]; rfl⟩, fun b hb => ?_, q⟩
    have e : b = s1.heap.objs.size := by simpa using hb
    subst e
    exact I2.fpOk (Nat.le_refl _) (I2.hok.fresh (Nat.le_refl _))
  rcases q with ⟨e, q⟩ | ⟨o, e, q⟩
  · obtain ⟨z, hd, vs, rel, o, es, ep, ho, _⟩ := (show ObjOk X.prog X.w H1 s1.heap d (.dK kvs) from I1.hok d _ e)
    exact fin o _ (I1.freeze e ho) upd_same (q o)
  · exact fin o _ I1 e q
end
theorem comp_dict {x : Str} {F : List (Str × Nat)} {d : Addr} {o : Obj} {kvs : List (Key × V)} {tt : TT} {te : TE} {σ : St} {Q : VK} {H1 : Hp} (Pv : Nat → List V → Hp → Prop) (hn : kvs.length ≤ sizeLine) (h0 : Pv 0 [] H1) (hz : ∀ i ys H, Pv i ys H → H d = some (.frz o (.dK kvs)))
    (hs : ∀ i kv ys H, kvs[i]? = some kv → ys.length ≤ i → Pv i ys H → tt (some (kV kv.1) :: F.map (fun p => (σ[p.2]?).join)) H fun b H3 => if b = true then te (some (kV kv.1) :: F.map (fun p => (σ[p.2]?).join)) H3 fun z H4 => Pv (i + 1) (ys ++ [z]) H4 else Pv (i + 1) ys H3)
    (hd : ∀ ys H, ys.length ≤ kvs.length → Pv kvs.length ys H → ∀ p, H p = none → Q (.ref p) (upd H p (.lst ys))) : CompBody [x] F (gName 0) tt te σ Q (Itd d o kvs) H1 :=
  comp_by Pv hn h0 (fun i ys H h p => ⟨h, hz i ys H p⟩) (fun ys H p => ⟨Nat.le_refl _, hz _ ys H p⟩) (fun i ys H y H2 h1 h2 h3 h4 => by
    obtain ⟨rfl, kv, hkv, rfl⟩ := h4
    exact hs i kv ys _ hkv h2 h3) hd
/-- .. over a list -/
theorem comp_list {K : PySem.W.Frag} {x : Str} {F : List (Str × Nat)} {a : Addr} {xs : List V} {tt : TT} {te : TE} {σ : St} {Q : VK} {H1 : Hp} (Pv : Nat → List V → Hp → Prop) (hn : xs.length ≤ sizeLine) (h0 : Pv 0 [] H1) (hz : ∀ i ys H, i ≤ xs.length → Pv i ys H → SqL K H a xs)
    (hs : ∀ i v ys H, xs[i]? = some v → ys.length ≤ i → Pv i ys H → tt (some v :: F.map (fun p => (σ[p.2]?).join)) H fun b H3 => if b = true then te (some v :: F.map (fun p => (σ[p.2]?).join)) H3 fun z H4 => Pv (i + 1) (ys ++ [z]) H4 else Pv (i + 1) ys H3)
    (hd : ∀ ys H, ys.length ≤ xs.length → Pv xs.length ys H → ∀ p, H p = none → Q (.ref p) (upd H p (.lst ys))) : CompBody [x] F (gName 0) tt te σ Q (Itl K a) H1 :=
  comp_by Pv hn h0 (fun i ys H h p => ⟨xs, xs[i], hz i ys H (Nat.le_of_lt h) p, by simp [h]⟩) (fun ys H p => ⟨xs, hz _ ys H (Nat.le_refl _) p, Nat.le_refl _⟩) (fun i ys H y H2 h1 h2 h3 h4 => by
    obtain ⟨rfl, hy⟩ := h4
    exact hs i y ys _ (hy xs (hz i ys _ (Nat.le_of_lt h1) h3)) h2 h3) hd
def valsO (p d : Addr) : HO := .ext fun h => h.IsValuesView p d
section
variable {X : Cx}
def rVals : V → List V → Hp → VK → Prop := fun x vs H Q => ∃ d kvs, x = .ref d ∧ vs = [] ∧ Rd H d (.dK kvs) ∧ ∀ p, H p = none → Q (.ref p) (upd H p (valsO p d))
end
end L2
namespace L2
open PySem PySem.Spec PyProof.Rows
section
variable {prog : Program} {w : World} {A : Around} {E : Value → Shared → Prop}
end
section
variable {X : Cx}
end
end L2
namespace L2
open PySem PySem.Spec PyProof.Rows
/-- more names of Python's own -/
structure Bl2 (mg : Str → Option Value) : Prop extends Bl mg where
  max : mg "max" = none
  min : mg "min" = none
  sorted : mg "sorted" = none
def mxI (b z : Int) : Int := if z > b then z else b
def mxD (k : Int) : List Int → Int
  | [] => k
  | b :: r => r.foldl mxI b
section
variable {prog : Program} {w : World} {A : Around}
end
section
variable {X : Cx}
def rMaxD (K : PySem.W.Frag) : V → V → Hp → VK → Prop := fun x y H Q => ∃ (p : Addr) (ns : List Int) (k : Int), x = .ref p ∧ y = .int k ∧ SqL K H p (ns.map V.int) ∧ Q (.int (mxD k ns)) H
variable {e d : Expr} {te td : TE} {p kp pos : Pos}
def tMaxD (K : PySem.W.Frag) (te td : TE) : TE := fun σ H Q => te σ H fun x H1 => td σ H1 fun y H2 => rMaxD K x y H2 Q
end
end L2
namespace L2
open PySem PySem.Spec PyProof.Rows
mutual
def T.dep : T → Nat
  | .lst ts => T.deps ts + 1
  | .dic _ ts => T.deps ts + 1
  | .tup ts => T.deps ts + 1
  | .non => 0
  | .bl _ => 0
  | .int _ => 0
  | .str _ => 0
def T.deps : List T → Nat
  | [] => 0
  | t :: ts => max (T.dep t) (T.deps ts)
end
mutual
/-- no tuple within -/
def T.pure : T → Prop
  | .tup _ => False
  | .lst ts => T.pures ts
  | .dic ks ts => ks.Nodup ∧ T.pures ts
  | .non => True
  | .bl _ => True
  | .int _ => True
  | .str _ => True
def T.pures : List T → Prop
  | [] => True
  | t :: ts => T.pure t ∧ T.pures ts
end
theorem T.deps_le {t : T} : ∀ {ts : List T}, t ∈ ts → T.dep t ≤ T.deps ts
  | [], h => nomatch h
  | u :: ts, h => by
    show T.dep t ≤ max (T.dep u) (T.deps ts)
    rcases List.mem_cons.mp h with e | e
    · subst e; exact Nat.le_max_left _ _
    · exact Nat.le_trans (T.deps_le e) (Nat.le_max_right _ _)
def EqM (P : Program) (w : World) (A : Around) (s : Shared) (u v : Value) : Prop := ∀ (E : Value → Shared → Prop) (Q : Bool → Shared → Prop), Q true s → wpAny (model P w) A (eqBool u v) Q E s
def RcM (P : Program) (w : World) (A : Around) (s : Shared) (u v : Value) : Prop := ∀ (E : Value → Shared → Prop) (Q : Value → Shared → Prop), Q (.bool true) s → wpAny (model P w) A (richCompare .Eq u v) Q E s
theorem EqM.of_at {P : Program} {w : World} {A : Around} {s : Shared} {u v : Value} (h : SeqAt.EqAt A s u v true) : EqM P w A s u v := fun E Q q => h P w E Q q
theorem EqM.refs {P : Program} {w : World} {A : Around} {s : Shared} {a b : Addr} (h : a ≠ b → RcM P w A s (.ref a) (.ref b)) : EqM P w A s (.ref a) (.ref b) := by
  by_cases e : a = b
  · subst e; exact .of_at (SeqAt.EqAt.same _)
  · intro E Q q
    unfold eqBool
    refine wpAny_holding (wpAny_ite_split (fun z => ?_) fun _ => wpAny_bind (h e E _ (wpAny_truthy_bool q)))
    have := eq_of_beq z
    injection this with this
    exact absurd this e
section
variable {P : Program} {w : World}
open AutoSeq1 (wpAny_loadPart')
open MeetsSeq MeetsSeq2 MeetsSeq3 SeqRoads2 SeqAt
theorem eqm_loop (l b : Addr) (xs ys : Array Value) (n m : Nat) (d1 d2 : Option Addr) (sl1 sl2 : Array (Option Value)) (hsz : xs.size = ys.size) (k : Nat) :
    ∀ i : Nat, xs.size - i = k → MeetsIn P w (Builtin.«list.__eq__.loop» ⟨[.ref l, .ref b, rawInt i, rawInt 2], []⟩)
      (fun A R s => s.heap.get? l = some { cls := .type "list", dict := d1, data := .seq xs n, slots := sl1 } ∧ s.heap.get? b = some { cls := .type "list", dict := d2, data := .seq ys m, slots := sl2 } ∧
        (∀ j (h1 : j < xs.size) (h2 : j < ys.size), EqM P w A.in1 s xs[j] ys[j]) ∧ R (.ok (.ret (.bool true))) s) := by
  induction k with
  | zero =>
    intro i hk A R s h
    obtain ⟨hp, g, d, tk, os⟩ := s
    obtain ⟨hl, hb, he, h⟩ := h
    wp_walk using wpAny_loadPart' hl, wpAny_loadPart' hb
    have z1 : xs[((i : Nat) : Int).toNat]? = none := by simp; omega
    have z2 : ys[((i : Nat) : Int).toNat]? = none := by simp; omega
    rw [z1, z2]
    wp_walk using wpAny_loadPart' hl, wpAny_loadPart' hb
    show R (.ok (.ret (.bool (xs.size == ys.size)))) _
    rw [hsz, beq_self_eq_true]; exact h
  | succ k ih =>
    intro i hk A R s h
    obtain ⟨hp, g, d, tk, os⟩ := s
    obtain ⟨hl, hb, he, h⟩ := h
    wp_walk using wpAny_loadPart' hl, wpAny_loadPart' hb
    have l1 : i < xs.size := by omega
    have l2 : i < ys.size := by omega
    have z1 : xs[((i : Nat) : Int).toNat]? = some xs[i] := by simp [l1]
    have z2 : ys[((i : Nat) : Int).toNat]? = some ys[i] := by simp [l2]
    rw [z1, z2]
    refine wpAny_bind (he i l1 l2 _ _ ?_)
    wp_walk
    rw [show ((i : Int) + 1) = ((i + 1 : Nat) : Int) by omega]
    refine ⟨plainId_quiet plain_eq_loop _, codeAny_builtin entry_eq_loop ?_⟩
    rw [Around.under_plainId plain_eq_loop _]
    exact ih (i + 1) (by omega) A R _ ⟨hl, hb, he, h⟩
theorem eqm_list (l b : Addr) (xs ys : Array Value) (n m : Nat) (d1 d2 : Option Addr) (sl1 sl2 : Array (Option Value)) (hsz : xs.size = ys.size) : MeetsIn P w (Builtin.«list.__eq__» ⟨[.ref l, .ref b], []⟩)
      (fun A R s => s.heap.get? l = some { cls := .type "list", dict := d1, data := .seq xs n, slots := sl1 } ∧ s.heap.get? b = some { cls := .type "list", dict := d2, data := .seq ys m, slots := sl2 } ∧
        (∀ j (h1 : j < xs.size) (h2 : j < ys.size), EqM P w A.in1 s xs[j] ys[j]) ∧ R (.ok (.ret (.bool true))) s) := by
  intro A R s h
  obtain ⟨hp, g, d, tk, os⟩ := s
  obtain ⟨hl, hb, he, h⟩ := h
  have f3 := AutoSeq1.sub_list_list
  have hne : ¬ (xs.size != ys.size) = true := by simp [hsz]
  wp_walk using wpAny_loadPart' hl, wpAny_loadPart' hb
  refine ⟨plainId_quiet plain_eq_loop _, codeAny_builtin entry_eq_loop ?_⟩
  rw [Around.under_plainId plain_eq_loop _]
  exact eqm_loop l b xs ys n m d1 d2 sl1 sl2 hsz _ 0 rfl A R _ ⟨hl, hb, he, h⟩
theorem RcM.lists {A : Around} {s : Shared} {l b : Addr} {xs ys : Array Value} (hl : s.heap.IsList l xs) (hb : s.heap.IsList b ys) (hsz : xs.size = ys.size) (hu : A.units < cLine)
    (he : ∀ j (h1 : j < xs.size) (h2 : j < ys.size), EqM P w A.in1 s xs[j] ys[j]) : RcM P w A s (.ref l) (.ref b) := fun E Q q => by
  obtain ⟨⟨c1, d1, dt1, sl1⟩, ho, hc, n, hd⟩ := id hl
  obtain ⟨⟨c2, d2, dt2, sl2⟩, ho2, hc2, n2, hd2⟩ := id hb
  simp only at hc hd hc2 hd2
  subst hc hd hc2 hd2
  refine wpAny_richCompare_same_room (op := .Eq) ⟨_, ho, rfl⟩ ⟨_, ho2, rfl⟩ F.slot_list_eq (call_meetsIn F.slot_list_eq ⟨_, ho, rfl⟩ F.entry_list_eq (F.args_list_eq_2 _ _) (eqm_list l b xs ys n n2 d1 d2 sl1 sl2 hsz) ⟨ho, ho2, he, ?_⟩) hu
  exact ⟨(fun x => nomatch x), q⟩
end
section
variable {X : Cx} {pins : List (Addr × Obj)} {σ : St} {H : Hp} {s : Shared}
theorem nodup_nK {ks : List (List Nat)} (h : ks.Nodup) : (ks.map nK).Nodup := by
  induction ks with
  | nil => exact List.nodup_nil
  | cons k r ih =>
    rw [List.nodup_cons] at h
    rw [List.map_cons, List.nodup_cons]
    refine ⟨fun hm => ?_, ih h.2⟩
    obtain ⟨k', hk, e⟩ := List.mem_map.mp hm
    exact h.1 (nK_inj e ▸ hk)
end
end L2
namespace L2
open PySem PySem.Spec PyProof.Rows
mutual
def T.sz : T → Nat
  | .lst ts => T.szs ts + 1
  | .dic _ ts => T.szs ts + 1
  | .tup ts => T.szs ts + 1
  | .non => 1
  | .bl _ => 1
  | .int _ => 1
  | .str _ => 1
def T.szs : List T → Nat
  | [] => 0
  | t :: ts => T.sz t + T.szs ts
end
mutual
def Occ (H : Hp) (d : Addr) : V → T → Prop
  | v, .lst ts => v = .ref d ∨ ∃ a vs, v = .ref a ∧ H a = some (.lst vs) ∧ Occs H d vs ts
  | v, .dic _ ts => v = .ref d ∨ ∃ a ps, v = .ref a ∧ H a = some (.dK ps) ∧ Occs H d (ps.map (·.2)) ts
  | v, .tup ts => v = .ref d ∨ ∃ a vs, v = .ref a ∧ H a = some (.tup vs) ∧ Occs H d vs ts
  | _, .non => False
  | _, .bl _ => False
  | _, .int _ => False
  | _, .str _ => False
def Occs (H : Hp) (d : Addr) : List V → List T → Prop
  | v :: vs, t :: ts => Occ H d v t ∨ Occs H d vs ts
  | _, _ => False
end
mutual
/-- a store at an address that does not stand in it changes nothing of it -/
theorem Rep.away {H : Hp} {d : Addr} {o : HO} : ∀ (x : V) (t : T), Rep H x t → ¬ Occ H d x t → Rep (upd H d o) x t
  | _, .non, h, _ => h
  | _, .bl _, h, _ => h
  | _, .int _, h, _ => h
  | _, .str _, h, _ => h
  | x, .lst ts, ⟨a, vs, e, ha, hs⟩, n => by
    have ne : a ≠ d := fun z => n (.inl (by rw [e, z]))
    exact ⟨a, vs, e, by rw [upd_ne ne]; exact ha, Reps.away vs ts hs fun z => n (.inr ⟨a, vs, e, ha, z⟩)⟩
  | x, .dic ks ts, ⟨a, ps, e, ha, hk, hs⟩, n => by
    have ne : a ≠ d := fun z => n (.inl (by rw [e, z]))
    exact ⟨a, ps, e, by rw [upd_ne ne]; exact ha, hk, Reps.away _ ts hs fun z => n (.inr ⟨a, ps, e, ha, z⟩)⟩
  | x, .tup ts, ⟨a, vs, e, ha, hs⟩, n => by
    have ne : a ≠ d := fun z => n (.inl (by rw [e, z]))
    exact ⟨a, vs, e, by rw [upd_ne ne]; exact ha, Reps.away vs ts hs fun z => n (.inr ⟨a, vs, e, ha, z⟩)⟩
theorem Reps.away {H : Hp} {d : Addr} {o : HO} : ∀ (xs : List V) (ts : List T), Reps H xs ts → ¬ Occs H d xs ts → Reps (upd H d o) xs ts
  | _, [], h, _ => h
  | _, t :: ts, ⟨x, xr, e, h1, h2⟩, n => by
    subst e
    exact ⟨x, xr, rfl, Rep.away x t h1 fun z => n (.inl z), Reps.away xr ts h2 fun z => n (.inr z)⟩
end
mutual
theorem Occ.sub {H : Hp} {d : Addr} : ∀ (x : V) (t : T), Rep H x t → Occ H d x t → ∃ t', Rep H (.ref d) t' ∧ T.sz t' ≤ T.sz t
  | _, .non, _, h => h.elim
  | _, .bl _, _, h => h.elim
  | _, .int _, _, h => h.elim
  | _, .str _, _, h => h.elim
  | x, .lst ts, hr, h => by
    rcases h with e | ⟨a, vs, e, ha, h⟩
    · exact ⟨.lst ts, e ▸ hr, Nat.le_refl _⟩
    · obtain ⟨a', vs', e', ha', hs⟩ := hr
      rw [e] at e'; cases e'
      rw [ha] at ha'; cases ha'
      obtain ⟨t', q, l⟩ := Occs.sub vs ts hs h
      exact ⟨t', q, Nat.le_succ_of_le l⟩
  | x, .dic ks ts, hr, h => by
    rcases h with e | ⟨a, vs, e, ha, h⟩
    · exact ⟨.dic ks ts, e ▸ hr, Nat.le_refl _⟩
    · obtain ⟨a', vs', e', ha', _, hs⟩ := hr
      rw [e] at e'; cases e'
      rw [ha] at ha'; cases ha'
      obtain ⟨t', q, l⟩ := Occs.sub _ ts hs h
      exact ⟨t', q, Nat.le_succ_of_le l⟩
  | x, .tup ts, hr, h => by
    rcases h with e | ⟨a, vs, e, ha, h⟩
    · exact ⟨.tup ts, e ▸ hr, Nat.le_refl _⟩
    · obtain ⟨a', vs', e', ha', hs⟩ := hr
      rw [e] at e'; cases e'
      rw [ha] at ha'; cases ha'
      obtain ⟨t', q, l⟩ := Occs.sub vs ts hs h
      exact ⟨t', q, Nat.le_succ_of_le l⟩
theorem Occs.sub {H : Hp} {d : Addr} : ∀ (xs : List V) (ts : List T), Reps H xs ts → Occs H d xs ts → ∃ t', Rep H (.ref d) t' ∧ T.sz t' ≤ T.szs ts
  | xs, [], _, h => by cases xs <;> exact h.elim
  | _, t :: ts, ⟨x, xr, e, h1, h2⟩, h => by
    subst e
    rcases h with h | h
    · obtain ⟨t', q, l⟩ := Occ.sub x t h1 h
      exact ⟨t', q, Nat.le_trans l (Nat.le_add_right _ _)⟩
    · obtain ⟨t', q, l⟩ := Occs.sub xr ts h2 h
      exact ⟨t', q, Nat.le_trans l (Nat.le_add_left _ _)⟩
end
theorem nKs_inj : ∀ {a b : List (List Nat)}, a.map nK = b.map nK → a = b
  | [], [], _ => rfl
  | [], _ :: _, h => by simp at h
  | _ :: _, [], h => by simp at h
  | x :: a, y :: b, h => by
    rw [List.map_cons, List.map_cons] at h
    injection h with h1 h2
    rw [nK_inj h1, nKs_inj h2]
mutual
theorem Rep.one {H : Hp} : ∀ (t : T) (x : V) (t' : T), Rep H x t → Rep H x t' → t = t'
  | .non, x, t', h, h' => by
    cases (show x = .non from h)
    cases t' with
    | non => rfl
    | bl b => cases (show V.non = .bl b from h')
    | int b => cases (show V.non = .int b from h')
    | str b => cases (show V.non = .str (tx b) from h')
    | lst ts => obtain ⟨a, vs, e, _⟩ := h'; cases e
    | dic ks ts => obtain ⟨a, vs, e, _⟩ := h'; cases e
    | tup ts => obtain ⟨a, vs, e, _⟩ := h'; cases e
  | .bl c, x, t', h, h' => by
    cases (show x = .bl c from h)
    cases t' with
    | non => cases (show V.bl c = .non from h')
    | bl b => cases (show V.bl c = .bl b from h'); rfl
    | int b => cases (show V.bl c = .int b from h')
    | str b => cases (show V.bl c = .str (tx b) from h')
    | lst ts => obtain ⟨a, vs, e, _⟩ := h'; cases e
    | dic ks ts => obtain ⟨a, vs, e, _⟩ := h'; cases e
    | tup ts => obtain ⟨a, vs, e, _⟩ := h'; cases e
  | .int c, x, t', h, h' => by
    cases (show x = .int c from h)
    cases t' with
    | non => cases (show V.int c = .non from h')
    | bl b => cases (show V.int c = .bl b from h')
    | int b => cases (show V.int c = .int b from h'); rfl
    | str b => cases (show V.int c = .str (tx b) from h')
    | lst ts => obtain ⟨a, vs, e, _⟩ := h'; cases e
    | dic ks ts => obtain ⟨a, vs, e, _⟩ := h'; cases e
    | tup ts => obtain ⟨a, vs, e, _⟩ := h'; cases e
  | .str c, x, t', h, h' => by
    cases (show x = .str (tx c) from h)
    cases t' with
    | non => cases (show V.str (tx c) = .non from h')
    | bl b => cases (show V.str (tx c) = .bl b from h')
    | int b => cases (show V.str (tx c) = .int b from h')
    | str b =>
      have e : V.str (tx c) = .str (tx b) := h'
      injection e with e
      have e2 : ts (tx c) = ts (tx b) := by rw [e]
      rw [ts_tx, ts_tx] at e2
      rw [e2]
    | lst ts => obtain ⟨a, vs, e, _⟩ := h'; cases e
    | dic ks ts => obtain ⟨a, vs, e, _⟩ := h'; cases e
    | tup ts => obtain ⟨a, vs, e, _⟩ := h'; cases e
  | .lst us, x, t', ⟨a, vs, e, ha, hs⟩, h' => by
    subst e
    cases t' with
    | non => cases (show V.ref a = .non from h')
    | bl b => cases (show V.ref a = .bl b from h')
    | int b => cases (show V.ref a = .int b from h')
    | str b => cases (show V.ref a = .str (tx b) from h')
    | lst ts =>
      obtain ⟨a', vs', e', ha', hs'⟩ := h'
      cases e'
      rw [ha] at ha'; cases ha'
      rw [Reps.one us vs ts hs hs']
    | dic ks ts => obtain ⟨a', vs', e', ha', _⟩ := h'; cases e'; rw [ha] at ha'; cases ha'
    | tup ts => obtain ⟨a', vs', e', ha', _⟩ := h'; cases e'; rw [ha] at ha'; cases ha'
  | .dic js us, x, t', ⟨a, vs, e, ha, hk, hs⟩, h' => by
    subst e
    cases t' with
    | non => cases (show V.ref a = .non from h')
    | bl b => cases (show V.ref a = .bl b from h')
    | int b => cases (show V.ref a = .int b from h')
    | str b => cases (show V.ref a = .str (tx b) from h')
    | lst ts => obtain ⟨a', vs', e', ha', _⟩ := h'; cases e'; rw [ha] at ha'; cases ha'
    | dic ks ts =>
      obtain ⟨a', vs', e', ha', hk', hs'⟩ := h'
      cases e'
      rw [ha] at ha'; cases ha'
      rw [Reps.one us _ ts hs hs', nKs_inj (hk.symm.trans hk')]
    | tup ts => obtain ⟨a', vs', e', ha', _⟩ := h'; cases e'; rw [ha] at ha'; cases ha'
  | .tup us, x, t', ⟨a, vs, e, ha, hs⟩, h' => by
    subst e
    cases t' with
    | non => cases (show V.ref a = .non from h')
    | bl b => cases (show V.ref a = .bl b from h')
    | int b => cases (show V.ref a = .int b from h')
    | str b => cases (show V.ref a = .str (tx b) from h')
    | lst ts => obtain ⟨a', vs', e', ha', _⟩ := h'; cases e'; rw [ha] at ha'; cases ha'
    | dic ks ts => obtain ⟨a', vs', e', ha', _⟩ := h'; cases e'; rw [ha] at ha'; cases ha'
    | tup ts =>
      obtain ⟨a', vs', e', ha', hs'⟩ := h'
      cases e'
      rw [ha] at ha'; cases ha'
      rw [Reps.one us vs ts hs hs']
theorem Reps.one {H : Hp} : ∀ (us : List T) (xs : List V) (ts : List T), Reps H xs us → Reps H xs ts → us = ts
  | [], xs, ts, h, h' => by
    cases (show xs = [] from h)
    cases ts with
    | nil => rfl
    | cons t ts => obtain ⟨x, r, e, _⟩ := h'; cases e
  | u :: us, xs, ts, ⟨x, r, e, h1, h2⟩, h' => by
    subst e
    cases ts with
    | nil => cases (show x :: r = [] from h')
    | cons t ts =>
      obtain ⟨x', r', e', h1', h2'⟩ := h'
      cases e'
      rw [Rep.one u x t h1 h1', Reps.one us r ts h2 h2']
end
theorem valV_ix : ∀ {vs : List (Key × V)} {i : Nat} {k : Key} {y : V}, (vs.map (·.1)).Nodup → vs[i]? = some (k, y) → valV vs k = some y
  | [], i, k, y, _, h => by simp at h
  | p :: vs, 0, k, y, _, h => by
    simp only [List.getElem?_cons_zero, Option.some.injEq] at h
    subst h
    exact valV_pos rfl
  | p :: vs, i + 1, k, y, nd, h => by
    rw [List.map_cons, List.nodup_cons] at nd
    have h' : vs[i]? = some (k, y) := by simpa using h
    have ne : ¬ p.1 = k := fun e => nd.1 (List.mem_map.mpr ⟨(k, y), List.mem_of_getElem? h', e.symm⟩)
    rw [valV_neg ne]
    exact valV_ix nd.2 h'
mutual
theorem Nice.pure {d : Nat} : ∀ (t : T), Nice d t → T.pure t
  | .non, _ => True.intro
  | .bl _, _ => True.intro
  | .int _, _ => True.intro
  | .str _, _ => True.intro
  | .lst ts, h => NiceL.pure (d := d - 1) ts h.2.2
  | .dic ks ts, h => ⟨h.2.2.2.1, NiceL.pure (d := d - 1) ts h.2.2.2.2.2⟩
  | .tup _, h => h.elim
theorem NiceL.pure {d : Nat} : ∀ (ts : List T), NiceL d ts → T.pures ts
  | [], _ => True.intro
  | t :: ts, h => ⟨Nice.pure t h.1, NiceL.pure ts h.2⟩
end
mutual
theorem Nice.dep : ∀ (t : T) {d : Nat}, Nice d t → T.dep t ≤ d
  | .non, _, _ => Nat.zero_le _
  | .bl _, _, _ => Nat.zero_le _
  | .int _, _, _ => Nat.zero_le _
  | .str _, _, _ => Nat.zero_le _
  | .lst ts, d, h => by
    have := NiceL.dep ts h.2.2
    have := h.1
    show T.deps ts + 1 ≤ d
    omega
  | .dic ks ts, d, h => by
    have := NiceL.dep ts h.2.2.2.2.2
    have := h.1
    show T.deps ts + 1 ≤ d
    omega
  | .tup _, _, h => h.elim
theorem NiceL.dep : ∀ (ts : List T) {d : Nat}, NiceL d ts → T.deps ts ≤ d
  | [], _, _ => Nat.zero_le _
  | t :: ts, _, h => Nat.max_le.mpr ⟨Nice.dep t h.1, NiceL.dep ts h.2⟩
end
theorem one_pow5 (d : Nat) : 1 ≤ 5 ^ d := Nat.one_le_pow _ _ (by decide)
mutual
theorem Nice.sz : ∀ (t : T) {d : Nat}, Nice d t → T.sz t ≤ 5 ^ d
  | .non, d, _ => one_pow5 d
  | .bl _, d, _ => one_pow5 d
  | .int _, d, _ => one_pow5 d
  | .str _, d, _ => one_pow5 d
  | .lst ts, d, h => by
    obtain ⟨h1, h2, h3⟩ := h
    obtain ⟨e, rfl⟩ : ∃ e, d = e + 1 := ⟨d - 1, by omega⟩
    have := NiceL.sz ts h3
    have p := one_pow5 e
    show T.szs ts + 1 ≤ 5 ^ (e + 1)
    rw [Nat.add_sub_cancel] at this
    have q : ts.length * 5 ^ e ≤ 4 * 5 ^ e := Nat.mul_le_mul_right _ h2
    rw [Nat.pow_succ]; omega
  | .dic ks ts, d, h => by
    obtain ⟨h1, h2, _, _, _, h3⟩ := h
    obtain ⟨e, rfl⟩ : ∃ e, d = e + 1 := ⟨d - 1, by omega⟩
    have := NiceL.sz ts h3
    have p := one_pow5 e
    show T.szs ts + 1 ≤ 5 ^ (e + 1)
    rw [Nat.add_sub_cancel] at this
    have q : ts.length * 5 ^ e ≤ 4 * 5 ^ e := Nat.mul_le_mul_right _ h2
    rw [Nat.pow_succ]; omega
  | .tup _, _, h => h.elim
theorem NiceL.sz : ∀ (ts : List T) {d : Nat}, NiceL d ts → T.szs ts ≤ ts.length * 5 ^ d
  | [], _, _ => Nat.zero_le _
  | t :: ts, d, h => by
    have a := Nice.sz t h.1
    have b := NiceL.sz ts h.2
    show T.sz t + T.szs ts ≤ (ts.length + 1) * 5 ^ d
    rw [Nat.succ_mul]; omega
end
theorem tyS_tup {H : Hp} {a : Addr} {xs : List V} (h : H a = some (.tup xs)) : tyS H (.ref a) = some "tuple" := by
  show (match H a with | some (.lst _) => some "list" | some (.tup _) => some "tuple" | some (.dK _) => some "dict" | _ => none) = _; rw [h]
theorem tyS_lst {H : Hp} {a : Addr} {xs : List V} (h : H a = some (.lst xs)) : tyS H (.ref a) = some "list" := by
  show (match H a with | some (.lst _) => some "list" | some (.tup _) => some "tuple" | some (.dK _) => some "dict" | _ => none) = _; rw [h]
theorem tyS_dK {H : Hp} {a : Addr} {xs : List (Key × V)} (h : H a = some (.dK xs)) : tyS H (.ref a) = some "dict" := by
  show (match H a with | some (.lst _) => some "list" | some (.tup _) => some "tuple" | some (.dK _) => some "dict" | _ => none) = _; rw [h]
theorem tyS_same {H H' : Hp} (g : Same H H') {v : V} {t : String} (h : tyS H v = some t) : tyS H' v = some t := by
  cases v with
  | ref a =>
    have h' : (match H a with | some (.lst _) => some "list" | some (.tup _) => some "tuple" | some (.dK _) => some "dict" | _ => none) = some t := h
    cases e : H a with
    | none => rw [e] at h'; cases h'
    | some o =>
      rw [e] at h'
      cases o with
      | lst xs => cases h'; exact tyS_lst (g _ _ e)
      | tup xs => cases h'; exact tyS_tup (g _ _ e)
      | dK kvs => cases h'; exact tyS_dK (g _ _ e)
      | _ => cases h'
  | _ => exact h
theorem Same.put {H H' : Hp} {p : Addr} (g : Same H H') (h : H p = none) (o : HO) : Same H (upd H' p o) := fun b u e => by
  rw [upd_ne (ne_of_none e h)]; exact g b u e
theorem take_succ_of {α : Type} {l : List α} {i : Nat} {a : α} (h : l[i]? = some a) : l.take (i + 1) = l.take i ++ [a] := by rw [List.take_add_one, h]; rfl
theorem T.sz_pos : ∀ t : T, 1 ≤ T.sz t
  | .non => Nat.le_refl _
  | .bl _ => Nat.le_refl _
  | .int _ => Nat.le_refl _
  | .str _ => Nat.le_refl _
  | .lst _ => Nat.le_add_left _ _
  | .dic _ _ => Nat.le_add_left _ _
  | .tup _ => Nat.le_add_left _ _
theorem T.szs_len : ∀ ts : List T, ts.length ≤ T.szs ts
  | [] => Nat.le_refl _
  | t :: ts => by
    have a := T.sz_pos t
    have b := T.szs_len ts
    show ts.length + 1 ≤ T.sz t + T.szs ts
    omega
theorem T.szs_le {t : T} : ∀ {ts : List T}, t ∈ ts → T.sz t ≤ T.szs ts
  | [], h => nomatch h
  | u :: ts, h => by
    show T.sz t ≤ T.sz u + T.szs ts
    rcases List.mem_cons.mp h with e | e
    · subst e; exact Nat.le_add_right _ _
    · exact Nat.le_trans (T.szs_le e) (Nat.le_add_left _ _)
mutual
theorem Rep.plain {H H' : Hp} (g : ∀ a u, (∀ o v, u ≠ HO.frz o v) → H a = some u → H' a = some u) : ∀ (x : V) (t : T), Rep H x t → Rep H' x t
  | _, .non, h => h
  | _, .bl _, h => h
  | _, .int _, h => h
  | _, .str _, h => h
  | _, .lst ts, ⟨a, vs, h1, h2, h3⟩ => ⟨a, vs, h1, g _ _ (by intro o v z; cases z) h2, Reps.plain g vs ts h3⟩
  | _, .dic ks ts, ⟨a, ps, h1, h2, h3, h4⟩ => ⟨a, ps, h1, g _ _ (by intro o v z; cases z) h2, h3, Reps.plain g _ ts h4⟩
  | _, .tup ts, ⟨a, vs, h1, h2, h3⟩ => ⟨a, vs, h1, g _ _ (by intro o v z; cases z) h2, Reps.plain g vs ts h3⟩
theorem Reps.plain {H H' : Hp} (g : ∀ a u, (∀ o v, u ≠ HO.frz o v) → H a = some u → H' a = some u) : ∀ (vs : List V) (ts : List T), Reps H vs ts → Reps H' vs ts
  | _, [], h => h
  | _, t :: ts, ⟨v, r, h1, h2, h3⟩ => ⟨v, r, h1, Rep.plain g v t h2, Reps.plain g r ts h3⟩
end
theorem Reps.thaw {H H' : Hp} {vs : List V} {ts : List T} (h : Reps H' vs ts) : Reps (L2.thaw H H') vs ts := Reps.plain (fun _ _ n e => thaw_of e n) vs ts h
theorem Rep.thaw {H H' : Hp} {v : V} {t : T} (h : Rep H' v t) : Rep (L2.thaw H H') v t := Rep.plain (fun _ _ n e => thaw_of e n) v t h
/-- a dict frozen for a walk, then freed -/
theorem thaw_walk {H H' : Hp} {d : Addr} {o : Obj} {ps : List (Key × V)} (hd : H d = some (.dK ps)) (g : Same (upd H d (.frz o (.dK ps))) H') : Same H (L2.thaw H H') := thaw_same fun b u e => by
  by_cases hb : b = d
  · subst hb
    rw [hd] at e; cases e
    exact .inr ⟨⟨o, g _ _ upd_same⟩, by intro o v z; cases z⟩
  · exact .inl (g _ _ (by rw [upd_ne hb]; exact e))
def T.kids : T → List T
  | .lst us => us
  | .dic _ us => us
  | _ => []
def T.next (ts : List T) : List T := (ts.map T.kids).flatten
theorem T.szs_append : ∀ (a b : List T), T.szs (a ++ b) = T.szs a + T.szs b
  | [], b => by show T.szs b = 0 + T.szs b; omega
  | t :: a, b => by
    show T.sz t + T.szs (a ++ b) = T.sz t + T.szs a + T.szs b
    rw [T.szs_append a b]; omega
theorem Reps.append {H : Hp} {ys : List V} {vs : List T} (h' : Reps H ys vs) : ∀ {xs : List V} {us : List T}, Reps H xs us → Reps H (xs ++ ys) (us ++ vs)
  | xs, [], h => by
    cases (show xs = [] from h)
    exact h'
  | _, u :: us, ⟨x, r, e, h1, h2⟩ => by
    subst e
    exact ⟨x, r ++ ys, rfl, h1, Reps.append h' h2⟩
def T.holds (t : T) : Bool := isSub (tyT t) "list" || isSub (tyT t) "dict"
def tMid (t : TS) : TS := fun D σ H => ∃ M : St → Hp → Prop, t { D with nx := M } σ H ∧ ∀ σ' H', M σ' H' → D.nx σ' H'
theorem ps_mid {X : Cx} {st : Stmt} {t : TS} (h : PS X st t) : PS X st (tMid t) := by
  intro pins s σ H D I ⟨M, q, m⟩
  refine thn (h pins s σ H _ I q) fun f s1 z => ?_
  cases f with
  | next => obtain ⟨σ', H', J, q⟩ := z; exact ⟨σ', H', J, m _ _ q⟩
  | brk => exact z
  | cont => exact z
  | ret u => exact z
end L2
namespace L2
open PySem PySem.Spec PyProof.Rows
section
variable {X : Cx}
end
end L2
namespace L2
open PySem PySem.Spec PyProof.Rows
section
variable {X : Cx}
def rIndex (K : PySem.W.Frag) : V → List V → Hp → VK → Prop := fun x vs H Q => ∃ (p : Addr) (ss : List Str) (k : Str) (j : Nat), x = .ref p ∧ vs = [.str k] ∧ SqL K H p (ss.map V.str) ∧ ss[j]? = some k ∧ (∀ i, i < j → ss[i]? ≠ some k) ∧ j < 1000000 ∧ Q (.int j) H
theorem strOf_ix {ss : List Str} {us : List Value} (r : Vals (ss.map V.str) us) {j : Nat} (h : j < us.length) : ∃ z t, ss[j]? = some z ∧ us[j] = Value.str z t := by
  have hl := r.length
  rw [List.length_map] at hl
  obtain ⟨u, hu, t, ht⟩ := r.get (i := j) (x := .str ss[j]) (by simp [hl, h])
  rw [List.getElem?_eq_getElem h] at hu
  exact ⟨ss[j], t, by simp [hl, h], (Option.some.inj hu).trans ht⟩
def isStrK (k : Str) : Value → Bool
  | .str z _ => z == k
  | _ => false
theorem mt_index : MtR X "list.index" (rIndex X.K) := by
  intro pins s σ H x vs v us Q I rx rv h
  obtain ⟨p, ss, k, j, rfl, rfl, hq, hj, hno, hsm, q⟩ := h
  cases rx
  obtain ⟨u, rfl, t, rfl⟩ := rv.one
  obtain ⟨its, r, pl, _⟩ := I.list hq
  have hl := r.length
  rw [List.length_map] at hl
  have hjl : j < ss.length := (List.getElem?_eq_some_iff.mp hj).1
  obtain ⟨⟨cls, dd, data, sl⟩, ho, hc, n, hd⟩ := id pl.isList
  simp only at hc hd
  subst hc hd
  refine call_meets PySem.F.slot_list_index ⟨_, ho, rfl⟩ PySem.F.entry_list_index (PySem.F.args_list_index_2 _ _) (SeqAt.list_indexAt p its.toArray n dd sl (.str k t) (isStrK k) j (by simp; omega) (by omega) ?_ ?_) ⟨ho, fun y hy => ?_, ⟨.int j, H, I.tok _, ⟨_, rfl⟩, q⟩⟩
  · obtain ⟨z, t', e1, e2⟩ := strOf_ix r (j := j) (by omega)
    rw [hj] at e1; cases e1
    show isStrK k its[j] = true
    rw [e2]; exact beq_self_eq_true k
  · intro m hm hlt
    obtain ⟨z, t', e1, e2⟩ := strOf_ix r (j := m) (by simpa using hm)
    show isStrK k its[m] = false
    rw [e2]
    have ne : z ≠ k := fun e => hno m hlt (by rw [e1, e])
    exact beq_eq_false_iff_ne.mpr ne
  · obtain ⟨m, hm, e⟩ := Array.mem_iff_getElem.mp hy
    obtain ⟨z, t', e1, e2⟩ := strOf_ix r (j := m) (by simpa using hm)
    have e3 : y = Value.str z t' := by rw [← e]; simpa using e2
    subst e3
    exact SeqAt.EqAt.str_str z t' k t
end
end L2
namespace L2
open PySem PySem.Spec PyProof.Rows
inductive C where
  | non | bl (b : Bool) | int (i : Int) | str (x : List Nat) | row (xs : List C) | rcd (xs : List C) | odd
def C.ord : C → Nat
  | .non => 0
  | .bl _ => 1
  | .int _ => 2
  | .str _ => 3
  | .row _ => 4
  | .rcd _ => 5
  | .odd => 6
def lookT (k : List Nat) : List (List Nat) → List T → T
  | k' :: ks, c :: cs => if k' = k then c else lookT k ks cs
  | _, _ => .tup []
def sgI (a b : Int) : Int := (if b < a then 1 else 0) - (if a < b then 1 else 0)
def cmpS (a b : List Nat) : Int := (if b < a then 1 else 0) - (if a < b then 1 else 0)
mutual
/-- names few enough to be sorted -/
def T.few : T → Prop
  | .dic ks ts => ks.Nodup ∧ ks.length < 64 ∧ ks.length = ts.length ∧ T.fews ts
  | .lst ts => ts.length ≤ 100000 ∧ T.fews ts
  | .tup _ => False
  | .non => True
  | .bl _ => True
  | .int _ => True
  | .str _ => True
def T.fews : List T → Prop
  | [] => True
  | t :: ts => T.few t ∧ T.fews ts
end
theorem lookT_ix {k : List Nat} : ∀ {ks : List (List Nat)} {ts : List T} {i : Nat} {t : T}, ks.Nodup → ks[i]? = some k → ts[i]? = some t → lookT k ks ts = t
  | [], _, i, _, _, h, _ => by simp at h
  | k' :: ks, [], i, _, _, _, h => by simp at h
  | k' :: ks, u :: ts, 0, t, nd, h1, h2 => by
    simp only [List.getElem?_cons_zero, Option.some.injEq] at h1 h2
    subst h1 h2
    exact if_pos rfl
  | k' :: ks, u :: ts, i + 1, t, nd, h1, h2 => by
    rw [List.nodup_cons] at nd
    have h1' : ks[i]? = some k := by simpa using h1
    have ne : ¬ k' = k := fun e => nd.1 (e ▸ List.mem_of_getElem? h1')
    show (if k' = k then u else lookT k ks ts) = t
    rw [if_neg ne]
    exact lookT_ix nd.2 h1' (by simpa using h2)
theorem fews_of {ts : List T} (h : ∀ t ∈ ts, T.few t) : T.fews ts := by
  induction ts with
  | nil => exact True.intro
  | cons t ts ih => exact ⟨h t List.mem_cons_self, ih fun u hu => h u (List.mem_cons_of_mem _ hu)⟩
/-- the name's thing, of a record laid out -/
theorem Rep.at_name {H : Hp} {ps : List (Key × V)} {ks : List (List Nat)} {us : List T} (nk : ks.Nodup) (hk : ps.map (·.1) = ks.map fun k => (Sum.inr (tx k) : Key)) (hs : Reps H (ps.map (·.2)) us) {k : List Nat} (hm : k ∈ ks) :
    ∃ v, valV ps (Sum.inr (tx k)) = some v ∧ Rep H v (lookT k ks us) := by
  obtain ⟨j, hj⟩ := List.mem_iff_getElem?.mp hm
  have hp : (ps.map (·.1))[j]? = some (Sum.inr (tx k) : Key) := by rw [hk, List.getElem?_map, hj]; rfl
  rw [List.getElem?_map] at hp
  cases hpj : ps[j]? with
  | none => rw [hpj] at hp; cases hp
  | some kv =>
    rw [hpj] at hp
    have ek : kv.1 = (Sum.inr (tx k) : Key) := Option.some.inj hp
    have hpj' : ps[j]? = some ((Sum.inr (tx k) : Key), kv.2) := by rw [hpj, ← ek]
    obtain ⟨t, ht, hr⟩ := hs.get (i := j) (v := kv.2) (by rw [List.getElem?_map, hpj]; rfl)
    refine ⟨kv.2, valV_ix (by rw [hk]; exact nodup_nK nk) hpj', ?_⟩
    rw [lookT_ix nk hj ht]
    exact hr
end L2
namespace L2
open PySem PySem.Spec PyProof.Rows
def LtM (P : Program) (w : World) (A : Around) (s : Shared) (u v : Value) (b : Bool) : Prop := ∀ (E : Value → Shared → Prop) (Q : Value → Shared → Prop), Q (.bool b) s → wpAny (model P w) A (richCompare .Lt u v) Q E s
def EqB (P : Program) (w : World) (A : Around) (s : Shared) (u v : Value) (b : Bool) : Prop := ∀ (E : Value → Shared → Prop) (Q : Bool → Shared → Prop), Q b s → wpAny (model P w) A (eqBool u v) Q E s
def RqM (P : Program) (w : World) (A : Around) (s : Shared) (u v : Value) (b : Bool) : Prop := ∀ (E : Value → Shared → Prop) (Q : Value → Shared → Prop), Q (.bool b) s → wpAny (model P w) A (richCompare .Eq u v) Q E s
/-- how two rows of values compare, pair by pair -/
inductive Zc (P : Program) (w : World) (A : Around) (s : Shared) : List Value → List Value → Int → Prop
  | nil : Zc P w A s [] [] 0
  | less {y : Value} {ys : List Value} : Zc P w A s [] (y :: ys) (-1)
  | more {x : Value} {xs : List Value} : Zc P w A s (x :: xs) [] 1
  | eq {x y : Value} {xs ys : List Value} {c : Int} : EqB P w A s x y true → Zc P w A s xs ys c → Zc P w A s (x :: xs) (y :: ys) c
  | ne {x y : Value} {xs ys : List Value} {c : Int} : EqB P w A s x y false → LtM P w A s x y (decide (c < 0)) → c ≠ 0 → Zc P w A s (x :: xs) (y :: ys) c
section
variable {P : Program} {w : World} {A : Around} {s : Shared} {E : Value → Shared → Prop}
theorem tup_lt {a b : Addr} {xs ys : Array Value} {c : Int} {R : Fin → Shared → Prop} (hx : IsTup s.heap a xs) (hy : IsTup s.heap b ys) (hz : Zc P w A s xs.toList ys.toList c) (h : R (.done (.ret (.bool (decide (c < 0))))) s) :
    wpAny (model P w) A (Builtin.«tuple.__lt__» ⟨[.ref a, .ref b], []⟩) R E s := by
  have hTb := hy.typeIs
  obtain ⟨oa, hoa, _, na, hda⟩ := hx
  obtain ⟨ob, hob, _, nb, hdb⟩ := hy
  show wpAny _ _ (isInstance (.ref b) (.type "tuple") >>= _) _ _ s
  refine wpAny_bind (wpAny_isInstance hTb isSubtype_tuple_tuple ?_)
  simp only [Bool.not_true, Bool.false_eq_true, if_false]
  refine wpAny_bind (wpAny_tupleItemsOf hoa hda ?_)
  refine wpAny_bind (wpAny_tupleItemsOf hob hdb ?_)
  refine wpAny_bind ?_
  refine wpAny_forIn_list _
    (fun rest r s' => r.1 = none ∧ s' = s ∧ ∃ xs' ys', rest = List.zip xs' ys' ∧ Zc P w A s xs' ys' c ∧ xs'.length + ys.size = ys'.length + xs.size)
    _ ?_ ?_ _ _ ⟨rfl, rfl, xs.toList, ys.toList, rfl, hz, by simp; omega⟩
  · rintro ⟨u, v⟩ rest r s' ⟨hr, rfl, xs', ys', hz', hc, hlen⟩
    cases hc with
    | nil => simp at hz'
    | less => simp at hz'
    | more => simp at hz'
    | eq he hc' =>
      simp only [List.zip_cons_cons, List.cons.injEq, Prod.mk.injEq] at hz'
      obtain ⟨⟨rfl, rfl⟩, rfl⟩ := hz'
      refine wpAny_bind (he _ _ ?_)
      simp only [Bool.not_true, Bool.false_eq_true, if_false]
      exact wpAny_pure ⟨rfl, rfl, _, _, rfl, hc', by simp only [List.length_cons] at hlen; omega⟩
    | ne he hl _ =>
      simp only [List.zip_cons_cons, List.cons.injEq, Prod.mk.injEq] at hz'
      obtain ⟨⟨rfl, rfl⟩, rfl⟩ := hz'
      refine wpAny_bind (he _ _ ?_)
      simp only [Bool.not_false, if_true]
      refine wpAny_bind (wpAny_rule (wpAny_bind (hl _ _ ?_)))
      exact wpAny_bind (wpAny_pure (wpAny_pure (wpAny_pure h)))
  · rintro ⟨r1, r2⟩ s' ⟨hr, rfl, xs', ys', hz', hc, hlen⟩
    simp only at hr
    subst hr
    refine wpAny_pure ?_
    have hfin : (decide (xs.size < ys.size)) = decide (c < 0) := by
      cases hc with
      | nil => simp only [List.length_nil] at hlen; exact decide_eq_decide.mpr ⟨fun h => by omega, fun h => by omega⟩
      | less => simp only [List.length_nil, List.length_cons] at hlen; exact decide_eq_decide.mpr ⟨fun h => by omega, fun h => by omega⟩
      | more => simp only [List.length_nil, List.length_cons] at hlen; exact decide_eq_decide.mpr ⟨fun h => by omega, fun h => by omega⟩
      | eq => simp at hz'
      | ne => simp at hz'
    show R (.done (.ret (.bool (decide (xs.size < ys.size))))) s'
    rw [hfin]; exact h
theorem tup_eq {a b : Addr} {xs ys : Array Value} {c : Int} {R : Fin → Shared → Prop} (hx : IsTup s.heap a xs) (hy : IsTup s.heap b ys) (hz : Zc P w A s xs.toList ys.toList c) (h : R (.done (.ret (.bool (decide (c = 0))))) s) :
    wpAny (model P w) A (Builtin.«tuple.__eq__» ⟨[.ref a, .ref b], []⟩) R E s := by
  have hTb := hy.typeIs
  obtain ⟨oa, hoa, _, na, hda⟩ := hx
  obtain ⟨ob, hob, _, nb, hdb⟩ := hy
  show wpAny _ _ (isInstance (.ref b) (.type "tuple") >>= _) _ _ s
  refine wpAny_bind (wpAny_isInstance hTb isSubtype_tuple_tuple ?_)
  simp only [Bool.not_true, Bool.false_eq_true, if_false]
  refine wpAny_bind (wpAny_tupleItemsOf hoa hda ?_)
  refine wpAny_bind (wpAny_tupleItemsOf hob hdb ?_)
  refine wpAny_bind ?_
  refine wpAny_forIn_list _
    (fun rest r s' => r.1 = none ∧ s' = s ∧ ∃ xs' ys', rest = List.zip xs' ys' ∧ Zc P w A s xs' ys' c ∧ xs'.length + ys.size = ys'.length + xs.size)
    _ ?_ ?_ _ _ ⟨rfl, rfl, xs.toList, ys.toList, rfl, hz, by simp; omega⟩
  · rintro ⟨u, v⟩ rest r s' ⟨hr, rfl, xs', ys', hz', hc, hlen⟩
    cases hc with
    | nil => simp at hz'
    | less => simp at hz'
    | more => simp at hz'
    | eq he hc' =>
      simp only [List.zip_cons_cons, List.cons.injEq, Prod.mk.injEq] at hz'
      obtain ⟨⟨rfl, rfl⟩, rfl⟩ := hz'
      refine wpAny_bind (he _ _ ?_)
      simp only [Bool.not_true, Bool.false_eq_true, if_false]
      exact wpAny_pure ⟨rfl, rfl, _, _, rfl, hc', by simp only [List.length_cons] at hlen; omega⟩
    | ne he hl hn =>
      simp only [List.zip_cons_cons, List.cons.injEq, Prod.mk.injEq] at hz'
      obtain ⟨⟨rfl, rfl⟩, rfl⟩ := hz'
      refine wpAny_bind (he _ _ ?_)
      simp only [Bool.not_false, if_true]
      rw [decide_eq_false hn] at h
      exact wpAny_bind (wpAny_pure (wpAny_pure (wpAny_pure h)))
  · rintro ⟨r1, r2⟩ s' ⟨hr, rfl, xs', ys', hz', hc, hlen⟩
    simp only at hr
    subst hr
    refine wpAny_pure ?_
    have hfin : (xs.size == ys.size) = decide (c = 0) := by
      rw [show (xs.size == ys.size) = decide (xs.size = ys.size) from rfl]
      cases hc with
      | nil => simp only [List.length_nil] at hlen; exact decide_eq_decide.mpr ⟨fun h => rfl, fun h => by omega⟩
      | less => simp only [List.length_nil, List.length_cons] at hlen; exact decide_eq_decide.mpr ⟨fun h => by omega, fun h => by omega⟩
      | more => simp only [List.length_nil, List.length_cons] at hlen; exact decide_eq_decide.mpr ⟨fun h => by omega, fun h => by omega⟩
      | eq => simp at hz'
      | ne => simp at hz'
    show R (.done (.ret (.bool (xs.size == ys.size)))) s'
    rw [hfin]; exact h
theorem LtM.tups {a b : Addr} {xs ys : Array Value} {c : Int} (hx : IsTup s.heap a xs) (hy : IsTup s.heap b ys) (hu : A.units < cLine) (hz : Zc P w A.in1 s xs.toList ys.toList c) : LtM P w A s (.ref a) (.ref b) (decide (c < 0)) := fun E Q q =>
  wpAny_richCompare_same_room (op := .Lt) hx.typeIs hy.typeIs F.slot_tuple_lt (wpAny_call_entry F.slot_tuple_lt hx.typeIs F.entry_tuple_lt (tup_lt hx hy hz ⟨_, rfl, (fun e => nomatch e), q⟩) (F.args_tuple_lt_2 _ _)) hu
theorem RqM.tups {a b : Addr} {xs ys : Array Value} {c : Int} (hx : IsTup s.heap a xs) (hy : IsTup s.heap b ys) (hu : A.units < cLine) (hz : Zc P w A.in1 s xs.toList ys.toList c) : RqM P w A s (.ref a) (.ref b) (decide (c = 0)) := fun E Q q =>
  wpAny_richCompare_same_room (op := .Eq) hx.typeIs hy.typeIs F.slot_tuple_eq (wpAny_call_entry F.slot_tuple_eq hx.typeIs F.entry_tuple_eq (tup_eq hx hy hz ⟨_, rfl, (fun e => nomatch e), q⟩) (F.args_tuple_eq_2 _ _)) hu
theorem EqB.refs {a b : Addr} {k : Bool} (he : a = b → k = true) (h : a ≠ b → RqM P w A s (.ref a) (.ref b) k) : EqB P w A s (.ref a) (.ref b) k := by
  by_cases e : a = b
  · rw [he e]; subst e; exact fun E Q q => SeqAt.EqAt.same _ _ _ E Q q
  · intro E Q q
    unfold eqBool
    refine wpAny_holding (wpAny_ite_split (fun z => ?_) fun _ => wpAny_bind (h e E _ (wpAny_truthy_bool q)))
    have := eq_of_beq z
    injection this with this
    exact absurd this e
end
mutual
/-- how two trees of tuples compare: 0, less or more; none: not asked -/
def tcmp : T → T → Option Int
  | .bl a, .bl b => some (sgI (if a then 1 else 0) (if b then 1 else 0))
  | .int a, .int b => some (sgI a b)
  | .str a, .str b => some (cmpS a b)
  | .tup a, .tup b => tcmps a b
  | _, _ => none
def tcmps : List T → List T → Option Int
  | [], [] => some 0
  | [], _ :: _ => some (-1)
  | _ :: _, [] => some 1
  | x :: xs, y :: ys => match tcmp x y with
    | some c => if c = 0 then tcmps xs ys else some c
    | none => none
end
theorem sgI_self (a : Int) : sgI a a = 0 := by simp [sgI]
theorem sgI_0 {a b : Int} : sgI a b = 0 ↔ a = b := by unfold sgI; split <;> split <;> omega
theorem sgI_lt {a b : Int} : sgI a b < 0 ↔ a < b := by unfold sgI; split <;> split <;> omega
theorem cmpS_self (a : List Nat) : cmpS a a = 0 := by simp [cmpS]
theorem cmpS_lt {a b : List Nat} : cmpS a b < 0 ↔ a < b := by
  unfold cmpS
  by_cases h : a < b
  · have h' : ¬ b < a := fun z => List.lt_asymm h z
    simp [h, h']
  · simp only [h, if_false]
    split <;> simp
theorem cmpS_0 {a b : List Nat} : cmpS a b = 0 ↔ a = b := by
  constructor
  · intro e
    unfold cmpS at e
    by_cases h : a < b
    · have h' : ¬ b < a := fun z => List.lt_asymm h z
      simp [h, h'] at e
    · by_cases h' : b < a
      · simp [h, h'] at e
      · exact List.le_antisymm h' h
  · intro e; subst e; exact cmpS_self a
mutual
theorem rep_tcmp {H : Hp} : ∀ {t t' : T} {v : V} {c : Int}, Rep H v t → Rep H v t' → tcmp t t' = some c → c = 0
  | .bl a, .bl b, v, c, h1, h2, e => by
    have e1 : V.bl a = V.bl b := (show v = .bl a from h1) ▸ h2
    injection e1 with e1; subst e1
    have e' : some (sgI (if a then 1 else 0) (if a then 1 else 0)) = some c := by rw [tcmp] at e; exact e
    rw [sgI_self] at e'; exact (Option.some.inj e').symm
  | .int a, .int b, v, c, h1, h2, e => by
    have e1 : V.int a = V.int b := (show v = .int a from h1) ▸ h2
    injection e1 with e1; subst e1
    rw [tcmp, sgI_self] at e; exact (Option.some.inj e).symm
  | .str a, .str b, v, c, h1, h2, e => by
    have e1 : V.str (tx a) = V.str (tx b) := (show v = .str (tx a) from h1) ▸ h2
    injection e1 with e1
    have e2 : a = b := by rw [← ts_tx a, e1, ts_tx]
    subst e2
    rw [tcmp, cmpS_self] at e; exact (Option.some.inj e).symm
  | .tup ts, .tup ts', v, c, ⟨a, vs, e1, h1, h2⟩, ⟨b, ws, e3, h3, h4⟩, e => by
    subst e1
    injection e3 with e3; subst e3
    rw [h1] at h3
    injection h3 with h3; injection h3 with h3; subst h3
    rw [tcmp] at e
    exact reps_tcmp h2 h4 e
  | .non, t', _, _, _, _, e => by cases t' <;> (rw [tcmp] at e <;> first | cases e | (intros; nofun))
  | .lst _, t', _, _, _, _, e => by cases t' <;> (rw [tcmp] at e <;> first | cases e | (intros; nofun))
  | .dic _ _, t', _, _, _, _, e => by cases t' <;> (rw [tcmp] at e <;> first | cases e | (intros; nofun))
  | .bl _, .non, _, _, _, _, e => by simp [tcmp] at e
  | .bl _, .int _, _, _, _, _, e => by simp [tcmp] at e
  | .bl _, .str _, _, _, _, _, e => by simp [tcmp] at e
  | .bl _, .lst _, _, _, _, _, e => by simp [tcmp] at e
  | .bl _, .dic _ _, _, _, _, _, e => by simp [tcmp] at e
  | .bl _, .tup _, _, _, _, _, e => by simp [tcmp] at e
  | .int _, .non, _, _, _, _, e => by simp [tcmp] at e
  | .int _, .bl _, _, _, _, _, e => by simp [tcmp] at e
  | .int _, .str _, _, _, _, _, e => by simp [tcmp] at e
  | .int _, .lst _, _, _, _, _, e => by simp [tcmp] at e
  | .int _, .dic _ _, _, _, _, _, e => by simp [tcmp] at e
  | .int _, .tup _, _, _, _, _, e => by simp [tcmp] at e
  | .str _, .non, _, _, _, _, e => by simp [tcmp] at e
  | .str _, .bl _, _, _, _, _, e => by simp [tcmp] at e
  | .str _, .int _, _, _, _, _, e => by simp [tcmp] at e
  | .str _, .lst _, _, _, _, _, e => by simp [tcmp] at e
  | .str _, .dic _ _, _, _, _, _, e => by simp [tcmp] at e
  | .str _, .tup _, _, _, _, _, e => by simp [tcmp] at e
  | .tup _, .non, _, _, _, _, e => by simp [tcmp] at e
  | .tup _, .bl _, _, _, _, _, e => by simp [tcmp] at e
  | .tup _, .int _, _, _, _, _, e => by simp [tcmp] at e
  | .tup _, .str _, _, _, _, _, e => by simp [tcmp] at e
  | .tup _, .lst _, _, _, _, _, e => by simp [tcmp] at e
  | .tup _, .dic _ _, _, _, _, _, e => by simp [tcmp] at e
theorem reps_tcmp {H : Hp} : ∀ {ts ts' : List T} {vs : List V} {c : Int}, Reps H vs ts → Reps H vs ts' → tcmps ts ts' = some c → c = 0
  | [], [], vs, c, _, _, e => by rw [tcmps] at e; exact (Option.some.inj e).symm
  | [], _ :: _, vs, c, h1, ⟨x, r, e1, _⟩, e => by
    cases (show vs = [] from h1)
    cases e1
  | _ :: _, [], vs, c, ⟨x, r, e1, _⟩, h2, e => by
    cases (show vs = [] from h2)
    cases e1
  | t :: ts, t' :: ts', vs, c, ⟨x, r, e1, h1, h2⟩, ⟨x', r', e2, h3, h4⟩, e => by
    subst e1
    injection e2 with e2 e3
    subst e2 e3
    rw [tcmps] at e
    cases hc : tcmp t t' with
    | none => rw [hc] at e; cases e
    | some d =>
      rw [hc] at e
      have hd := rep_tcmp h1 h3 hc
      subst hd
      exact reps_tcmp h2 h4 (by simpa using e)
end
section
variable {X : Cx} {pins : List (Addr × Obj)} {σ : St} {H : Hp} {s : Shared}
mutual
/-- == and < of two trees of tuples -/
theorem tup_at (I : Inv X pins σ H s) : ∀ (t t' : T) {x y : V} {u v : Value} {A : Around} {c : Int}, Rep H x t → Rep H y t' → RelV x u → RelV y v → tcmp t t' = some c → A.units + T.dep t < cLine →
    EqB X.prog X.w A s u v (decide (c = 0)) ∧ LtM X.prog X.w A s u v (decide (c < 0)) ∧ RqM X.prog X.w A s u v (decide (c = 0))
  | .bl a, t', x, y, u, v, A, c, hx, hy, rx, ry, e, _ => by
    cases t' with
    | bl b =>
      cases (show x = .bl a from hx); cases (show y = .bl b from hy)
      cases (show u = Value.bool a from rx); cases (show v = Value.bool b from ry)
      rw [tcmp] at e
      have ec := (Option.some.inj e).symm
      have e1 : decide (c = 0) = (a == b) := by rw [ec]; cases a <;> cases b <;> rfl
      have e2 : decide (c < 0) = decide (b2i a < b2i b) := by rw [ec]; cases a <;> cases b <;> rfl
      rw [e1, e2]
      exact ⟨fun E Q q => SeqAt.EqAt.bool_bool a b _ _ E Q q, fun E Q q => PyProof.Rows.lt_bool q, fun E Q q => SeqAt.RcAt.bool_bool a b _ _ E Q q⟩
    | _ => simp [tcmp] at e
  | .int a, t', x, y, u, v, A, c, hx, hy, rx, ry, e, _ => by
    cases t' with
    | int b =>
      cases (show x = .int a from hx); cases (show y = .int b from hy)
      obtain ⟨t1, rfl⟩ := rx
      obtain ⟨t2, rfl⟩ := ry
      rw [tcmp] at e
      have ec := (Option.some.inj e).symm
      have e1 : decide (c = 0) = (a == b) := by rw [ec]; exact decide_eq_decide.mpr sgI_0
      have e2 : decide (c < 0) = decide (a < b) := by rw [ec]; exact decide_eq_decide.mpr sgI_lt
      rw [e1, e2]
      exact ⟨fun E Q q => SeqAt.EqAt.int_int a t1 b t2 _ _ E Q q, fun E Q q => PyProof.Rows.lt_int q, fun E Q q => SeqAt.RcAt.int_int a t1 b t2 _ _ E Q q⟩
    | _ => simp [tcmp] at e
  | .str a, t', x, y, u, v, A, c, hx, hy, rx, ry, e, _ => by
    cases t' with
    | str b =>
      cases (show x = .str (tx a) from hx); cases (show y = .str (tx b) from hy)
      obtain ⟨t1, rfl⟩ := rx
      obtain ⟨t2, rfl⟩ := ry
      rw [tcmp] at e
      have ec := (Option.some.inj e).symm
      have e1 : decide (c = 0) = (tx a == tx b) := by
        rw [ec]
        by_cases h : a = b
        · subst h; rw [cmpS_self, beq_self_eq_true]; rfl
        · have h1 : ¬ cmpS a b = 0 := fun z => h (cmpS_0.mp z)
          have h2 : tx a ≠ tx b := fun z => h (by rw [← ts_tx a, z, ts_tx])
          rw [decide_eq_false h1, beq_eq_false_iff_ne.mpr h2]
      have e2 : decide (c < 0) = decide (a < b) := by rw [ec]; exact decide_eq_decide.mpr cmpS_lt
      rw [e1, e2]
      exact ⟨fun E Q q => SeqAt.EqAt.str_str (tx a) t1 (tx b) t2 _ _ E Q q, fun E Q q => PyProof.Rows.lt_str q, fun E Q q => SeqAt.RcAt.str_str (tx a) t1 (tx b) t2 _ _ E Q q⟩
    | _ => simp [tcmp] at e
  | .tup ts, t', x, y, u, v, A, c, hx, hy, rx, ry, e, hd => by
    cases t' with
    | tup ts' =>
      have hc0 := fun (h : Rep H x (.tup ts')) => rep_tcmp hx h e
      obtain ⟨a, xs, e1, ha, hxs⟩ := hx
      obtain ⟨b, ys, e2, hb, hys⟩ := hy
      subst e1 e2
      cases rx; cases ry
      obtain ⟨us, r1, p1, _⟩ := I.tuple (SqT.of ha)
      obtain ⟨vs, r2, p2, _⟩ := I.tuple (SqT.of hb)
      rw [tcmp] at e
      have hd' : A.units + (T.deps ts + 1) < cLine := hd
      have z := tups_at I ts ts' (A := A.in1) hxs hys r1 r2 e (by show A.units + 1 + _ < _; omega)
      have hu : A.units < cLine := by omega
      have zz : RqM X.prog X.w A s (.ref a) (.ref b) (decide (c = 0)) := RqM.tups p1 p2 hu (by simpa using z)
      refine ⟨EqB.refs (fun e3 => ?_) (fun _ => zz), LtM.tups p1 p2 hu (by simpa using z), zz⟩
      subst e3
      rw [hc0 ⟨a, ys, rfl, hb, hys⟩]
      rfl
    | _ => simp [tcmp] at e
  | .non, t', _, _, _, _, _, _, _, _, _, _, e, _ => by cases t' <;> simp [tcmp] at e
  | .lst _, t', _, _, _, _, _, _, _, _, _, _, e, _ => by cases t' <;> simp [tcmp] at e
  | .dic _ _, t', _, _, _, _, _, _, _, _, _, _, e, _ => by cases t' <;> simp [tcmp] at e
theorem tups_at (I : Inv X pins σ H s) : ∀ (ts ts' : List T) {xs ys : List V} {us vs : List Value} {A : Around} {c : Int}, Reps H xs ts → Reps H ys ts' → Vals xs us → Vals ys vs → tcmps ts ts' = some c → A.units + T.deps ts < cLine →
    Zc X.prog X.w A s us vs c
  | [], [], xs, ys, us, vs, A, c, hx, hy, rx, ry, e, _ => by
    cases (show xs = [] from hx); cases (show ys = [] from hy)
    cases rx; cases ry
    rw [tcmps] at e
    rw [← Option.some.inj e]
    exact .nil
  | [], _ :: _, xs, ys, us, vs, A, c, hx, ⟨y, yr, e2, _⟩, rx, ry, e, _ => by
    cases (show xs = [] from hx); subst e2
    cases rx
    cases ry
    rw [tcmps] at e
    rw [← Option.some.inj e]
    exact .less
  | _ :: _, [], xs, ys, us, vs, A, c, ⟨x, xr, e1, _⟩, hy, rx, ry, e, _ => by
    cases (show ys = [] from hy); subst e1
    cases rx
    cases ry
    rw [tcmps] at e
    rw [← Option.some.inj e]
    exact .more
  | t :: ts, t' :: ts', xs, ys, us, vs, A, c, ⟨x, xr, e1, hx, hxr⟩, ⟨y, yr, e2, hy, hyr⟩, rx, ry, e, hd => by
    subst e1 e2
    cases rx with
    | cons rx1 rx2 =>
      cases ry with
      | cons ry1 ry2 =>
        have hd' : A.units + max (T.dep t) (T.deps ts) < cLine := hd
        have q1 := Nat.le_max_left (T.dep t) (T.deps ts)
        have q2 := Nat.le_max_right (T.dep t) (T.deps ts)
        rw [tcmps] at e
        cases hc : tcmp t t' with
        | none => rw [hc] at e; cases e
        | some d =>
          rw [hc] at e
          have z := tup_at I t t' (A := A) hx hy rx1 ry1 hc (by omega)
          by_cases hd0 : d = 0
          · rw [decide_eq_true hd0] at z
            exact .eq z.1 (tups_at I ts ts' hxr hyr rx2 ry2 (by simpa [hd0] using e) (by omega))
          · rw [decide_eq_false hd0] at z
            have ed : d = c := by simpa [hd0] using e
            subst ed
            exact .ne z.1 z.2.1 hd0
end
/-- one == other and one < other of tuples -/
def rEqU : R2 := fun x y H Q => ∃ t t' c, Rep H x t ∧ Rep H y t' ∧ tcmp t t' = some c ∧ T.dep t ≤ 60 ∧ Q (.bl (decide (c = 0))) H
theorem op_eq_U (hu : X.A.units + 64 < cLine) : OpR X (compareOp .Eq) rEqU := by
  intro pins s σ H x y v u Q I rx ry h
  obtain ⟨t, t', c, hx, hy, hc, hd, q⟩ := h
  exact (tup_at I t t' (A := X.A) hx hy rx ry hc (by omega)).2.2 _ _ ⟨.bl _, H, I, rfl, q⟩
end
end L2
namespace L2
open PySem PySem.Spec PyProof.Rows
mutual
def C.ok : C → Prop
  | .odd => False
  | .row cs => C.oks cs
  | .rcd cs => C.okps cs
  | .non => True
  | .bl _ => True
  | .int _ => True
  | .str _ => True
def C.oks : List C → Prop
  | [] => True
  | c :: cs => C.ok c ∧ C.oks cs
def C.okps : List C → Prop
  | [] => True
  | c :: cs => C.okq c ∧ C.okps cs
def C.okq : C → Prop
  | .row cs => C.okl cs
  | .non => False
  | .bl _ => False
  | .int _ => False
  | .str _ => False
  | .rcd _ => False
  | .odd => False
def C.okl : List C → Prop
  | [] => False
  | c :: cs => (∃ k, c = .str k) ∧ cs.length = 1 ∧ C.oks cs
end
theorem oks_of {cs : List C} (h : ∀ c ∈ cs, C.ok c) : C.oks cs := by
  induction cs with
  | nil => rw [C.oks]; exact True.intro
  | cons c cs ih => rw [C.oks]; exact ⟨h c List.mem_cons_self, ih fun u hu => h u (List.mem_cons_of_mem _ hu)⟩
theorem oks_mem {cs : List C} (h : C.oks cs) {c : C} (hc : c ∈ cs) : C.ok c := by
  induction cs with
  | nil => cases hc
  | cons d cs ih =>
    rw [C.oks] at h
    rcases List.mem_cons.mp hc with e | e
    · subst e; exact h.1
    · exact ih h.2 e
theorem T.deps_of {n : Nat} {ts : List T} (h : ∀ t ∈ ts, T.dep t ≤ n) : T.deps ts ≤ n := by
  induction ts with
  | nil => exact Nat.zero_le _
  | cons t ts ih => exact Nat.max_le.mpr ⟨h t List.mem_cons_self, ih fun u hu => h u (List.mem_cons_of_mem _ hu)⟩
section
variable {X : Cx}
/-- a tuple of texts among the module's names -/
def TupG (K : PySem.W.Frag) (mg : Str → Option Value) (x : Str) (ss : List Str) (a : Addr) : Prop := mg x = some (.ref a) ∧ ∃ (o : Obj) (its : Array Value) (n : Nat), K.lookup a = some o ∧ o.cls = .type "tuple" ∧ o.dict = none ∧ o.data = .seq its n ∧ its.size ≤ sizeLine ∧ Vals (ss.map V.str) its.toList
theorem TupG.ty {K : PySem.W.Frag} {mg : Str → Option Value} {x : Str} {ss : List Str} {a : Addr} {H : Hp} (h : TupG K mg x ss a) : tyV K "tuple" (.ref a) H := by
  obtain ⟨_, o, its, n, h1, h2, h3, _⟩ := h
  exact .inr (.inl ⟨rfl, o, h1, h2, h3⟩)
end
end L2
namespace L2
open PySem PySem.Spec PyProof.Rows
section
variable {X : Cx} {e k : Expr} {te : TE} {tk : TO} {pos p2 : Pos}
end
end L2
namespace L2
open PySem PySem.Spec PyProof.Rows
mutual
/-- small numbers, short texts -/
def T.calm : T → Prop
  | .int i => -(10 ^ 12) ≤ i ∧ i ≤ 10 ^ 12
  | .str x => x.length ≤ 100
  | .lst ts => T.calms ts
  | .dic _ ts => T.calms ts
  | .tup ts => T.calms ts
  | .non => True
  | .bl _ => True
def T.calms : List T → Prop
  | [] => True
  | t :: ts => T.calm t ∧ T.calms ts
end
theorem T.calms_of {ts : List T} (h : ∀ t ∈ ts, T.calm t) : T.calms ts := by
  induction ts with
  | nil => exact True.intro
  | cons t ts ih => exact ⟨h t List.mem_cons_self, ih fun u hu => h u (List.mem_cons_of_mem _ hu)⟩
/-- what is drawn and varied: d deep at most, z things in all at most -/
structure Fit (d z : Nat) (t : T) : Prop where
  few : T.few t
  calm : T.calm t
  dep : T.dep t ≤ d
  sz : T.sz t ≤ z
theorem few_pure : ∀ (n : Nat) (t : T), T.dep t ≤ n → T.few t → T.pure t := by
  intro n
  induction n with
  | zero =>
    intro t hd hf
    cases t with
    | lst ts => exact absurd hd (Nat.not_succ_le_zero _)
    | dic ks ts => exact absurd hd (Nat.not_succ_le_zero _)
    | tup ts => exact hf.elim
    | _ => exact True.intro
  | succ n ih =>
    have all : ∀ ts : List T, T.deps ts ≤ n → T.fews ts → T.pures ts := by
      intro ts
      induction ts with
      | nil => intros; exact True.intro
      | cons t ts ih2 =>
        intro hd hf
        have hd' : max (T.dep t) (T.deps ts) ≤ n := hd
        exact ⟨ih t (by omega) hf.1, ih2 (by omega) hf.2⟩
    intro t hd hf
    cases t with
    | lst ts => exact all ts (Nat.le_of_succ_le_succ hd) hf.2
    | dic ks ts => exact ⟨hf.1, all ts (Nat.le_of_succ_le_succ hd) hf.2.2.2⟩
    | tup ts => exact hf.elim
    | _ => exact True.intro
theorem Fit.pure {d z : Nat} {t : T} (h : Fit d z t) : T.pure t := few_pure d t h.dep h.few
theorem Fit.mono {d z d' z' : Nat} {t : T} (h : Fit d z t) (hd : d ≤ d') (hz : z ≤ z') : Fit d' z' t := ⟨h.few, h.calm, Nat.le_trans h.dep hd, Nat.le_trans h.sz hz⟩
end L2
namespace L2
open PySem PySem.Spec PyProof.Rows
section
variable {P : Program} {w : World}
end
section
variable {X : Cx}
end
end L2
namespace L2
open PySem PySem.Spec PyProof.Rows
theorem cut_from (xs : List V) (i : Nat) : cutV xs (some (i : Int)) none = xs.drop i := by
  unfold cutV
  rw [HT.sIx_nat]
  show (xs.drop (min i xs.length)).take (xs.length - min i xs.length) = _
  by_cases h : i ≤ xs.length
  · rw [Nat.min_eq_left h, List.take_of_length_le (by rw [List.length_drop]; omega)]
  · rw [Nat.min_eq_right (by omega), List.drop_length, List.drop_of_length_le (by omega), List.take_nil]
theorem Reps.take {H : Hp} : ∀ {xs : List V} {us : List T} (i : Nat), Reps H xs us → Reps H (xs.take i) (us.take i)
  | xs, us, 0, _ => by rw [List.take_zero, List.take_zero]; exact rfl
  | xs, [], i + 1, h => by cases (show xs = [] from h); exact rfl
  | xs, u :: us, i + 1, ⟨x, r, e, h1, h2⟩ => by
    subst e
    rw [List.take_succ_cons, List.take_succ_cons]
    exact ⟨x, _, rfl, h1, Reps.take i h2⟩
theorem Reps.drop {H : Hp} : ∀ {xs : List V} {us : List T} (i : Nat), Reps H xs us → Reps H (xs.drop i) (us.drop i)
  | xs, us, 0, h => by rw [List.drop_zero, List.drop_zero]; exact h
  | xs, [], i + 1, h => by cases (show xs = [] from h); exact rfl
  | xs, u :: us, i + 1, ⟨x, r, e, h1, h2⟩ => by
    subst e
    rw [List.drop_succ_cons, List.drop_succ_cons]
    exact Reps.drop i h2
theorem Reps.reverse {H : Hp} : ∀ {xs : List V} {us : List T}, Reps H xs us → Reps H xs.reverse us.reverse
  | xs, [], h => by cases (show xs = [] from h); exact rfl
  | xs, u :: us, ⟨x, r, e, h1, h2⟩ => by
    subst e
    rw [List.reverse_cons, List.reverse_cons]
    exact Reps.snoc h1 (Reps.reverse h2)
theorem szs_append : ∀ (a b : List T), T.szs (a ++ b) = T.szs a + T.szs b
  | [], b => by show T.szs b = 0 + T.szs b; omega
  | u :: a, b => by
    show T.sz u + T.szs (a ++ b) = T.sz u + T.szs a + T.szs b
    rw [szs_append a b]; omega
theorem sz_pos : ∀ (t : T), 1 ≤ T.sz t
  | .lst ts => Nat.succ_le_succ (Nat.zero_le _)
  | .dic _ ts => Nat.succ_le_succ (Nat.zero_le _)
  | .tup ts => Nat.succ_le_succ (Nat.zero_le _)
  | .non => Nat.le_refl _
  | .bl _ => Nat.le_refl _
  | .int _ => Nat.le_refl _
  | .str _ => Nat.le_refl _
theorem len_szs : ∀ (ts : List T), ts.length ≤ T.szs ts
  | [] => Nat.le_refl _
  | t :: ts => by
    have := len_szs ts
    have := sz_pos t
    show ts.length + 1 ≤ T.sz t + T.szs ts
    omega
/-- a row made of fitting things fits -/
theorem Fit.row {d z : Nat} {us : List T} (h : ∀ u ∈ us, T.few u ∧ T.calm u ∧ T.dep u + 1 ≤ d) (hd : 1 ≤ d) (hz : T.szs us + 1 ≤ z) (hl : T.szs us ≤ 100000) : Fit d z (.lst us) := by
  refine ⟨⟨Nat.le_trans (len_szs us) hl, fews_of fun u hu => (h u hu).1⟩, T.calms_of fun u hu => (h u hu).2.1, ?_, hz⟩
  have : T.deps us ≤ d - 1 := T.deps_of fun u hu => by have := (h u hu).2.2; omega
  show T.deps us + 1 ≤ d
  omega
end L2
namespace L2
open PySem PySem.Spec PyProof.Rows
section
variable {X : Cx} {pins : List (Addr × Obj)} {σ σ' : St} {H H' : Hp} {s s' : Shared}
end
/-- the heap without what stands at d -/
def hide (H : Hp) (d : Addr) : Hp := fun b => if b = d then none else H b
theorem hide_ne {H : Hp} {d b : Addr} (h : b ≠ d) : hide H d b = H b := if_neg h
/-- seen with d hidden: it stands without d -/
theorem Rep.off {H H' : Hp} {d : Addr} {o : Obj} {u : HO} (hd : H' d = some (.frz o u)) {v : V} {t : T} (h : Rep H' v t) : Rep (hide (L2.thaw H H') d) v t :=
  Rep.plain (fun b w n e => by
    have hb : b ≠ d := fun z => by subst z; rw [hd] at e; cases e; exact n _ _ rfl
    rw [hide_ne hb]
    exact thaw_of e n) v t h
end L2
namespace L2
open PySem PySem.Spec PyProof.Rows
end L2
namespace L2
open PySem PySem.Spec PyProof.Rows PySem.Builtin PySem.Builtin.Str
section
variable {prog : Program} {w : World} {A : Around} {E : Value → Shared → Prop} {s : Shared} {x y : Str} {t u : Tok} {Q : Value → Shared → Prop}
/-- parted by a text: the new list lies at the heap's end -/
theorem split_new (hy : (y.length == 0) = false) (hx : x.length ≤ 1000000)
    (q : ∀ (l : List (Str × Tok)) (k : Nat), l.map (·.1) = Txt.split x y → Q (.ref s.heap.objs.size) { s with heap := s.heap.push { cls := .type "list", data := .seq (strValues l).toArray }, toks := k }) :
    wpAny (model prog w) A (call (.builtin "str.split") [.str x t, .str y u]) Q E s := by
  have hz : x.length ≤ sizeLine := by rw [sizeLine_eq]; omega
  cases c1 : (decide (x.length < y.length) || decide (PySem.Builtin.Str.strKind x < PySem.Builtin.Str.strKind y)) with
  | true =>
    refine call_meets F.slot_str_split (typeIs_str _ _ _) F.entry_str_split (F.args_str_split_2 _ _)
      (meets_str_split_cannot_occur x y t u c1) ?_
    exact q [(x, t)] s.toks (by unfold Txt.split; rw [if_pos c1]; rfl)
  | false =>
    have n1 : ¬ ((decide (x.length < y.length) || decide (PySem.Builtin.Str.strKind x < PySem.Builtin.Str.strKind y)) = true) := by rw [c1]; exact Bool.false_ne_true
    cases c2 : (occurrences x y 0 x.length (x.length + 1)).isEmpty with
    | true =>
      refine call_meets F.slot_str_split (typeIs_str _ _ _) F.entry_str_split (F.args_str_split_2 _ _)
        (meets_str_split_not_found x y t u c1 hy c2) ?_
      exact q [(x, t)] s.toks (by unfold Txt.split; rw [if_neg n1, if_pos c2]; rfl)
    | false =>
      have n2 : ¬ ((occurrences x y 0 x.length (x.length + 1)).isEmpty = true) := by rw [c2]; exact Bool.false_ne_true
      have hn : (partsBetween x (occurrences x y 0 x.length (x.length + 1)) y.length).length ≤ sizeLine := by
        have := StrLaws.occ_length_le x y 0 x.length (x.length + 1)
        rw [length_partsBetween, sizeLine_eq]; omega
      refine call_meets F.slot_str_split (typeIs_str _ _ _) F.entry_str_split (F.args_str_split_2 _ _)
        (meets_str_split_sep x y t u c1 hy c2 hz hn) ?_
      have z := q (numbered s.toks (partsBetween x (occurrences x y 0 x.length (x.length + 1)) y.length)) (s.toks + (partsBetween x (occurrences x y 0 x.length (x.length + 1)) y.length).length)
        ((numbered_texts _ _).trans (by unfold Txt.split; rw [if_neg n1, if_neg n2]))
      rw [← strsFrom_eq] at z
      exact z
end
section
variable {X : Cx}
def rSplit : V → List V → Hp → VK → Prop := fun x vs H Q => ∃ (z y : Str), x = .str z ∧ vs = [.str y] ∧ y.length ≠ 0 ∧ z.length ≤ 1000000 ∧ ∀ l, H l = none → Q (.ref l) (upd H l (.lst ((Txt.split z y).map V.str)))
theorem strVals_of : ∀ (l : List (Str × Tok)), Vals ((l.map (·.1)).map V.str) (strValues l)
  | [] => .nil
  | p :: l => .cons ⟨p.2, rfl⟩ (strVals_of l)
theorem mt_split : MtR X "str.split" rSplit := by
  intro pins s σ H x vs v us Q I rx rv h
  obtain ⟨z, y, rfl, rfl, hy, hz, q⟩ := h
  obtain ⟨t, rfl⟩ := rx
  obtain ⟨u, rfl, t', rfl⟩ := rv.one
  refine split_new (by simp [hy]) hz fun l k e => ?_
  have hf : H s.heap.objs.size = none := I.hok.fresh (Nat.le_refl _)
  refine ⟨.ref s.heap.objs.size, upd H s.heap.objs.size (.lst ((Txt.split z y).map V.str)), I.laid (fun b u e => Heap.get?_push_of_some _ e) (Nat.le_refl _) ?_, rfl, q _ hf⟩
  refine ⟨?_, strValues l, 0, ?_, Heap.get?_push_size _ rfl⟩
  · have := split_le z y
    rw [List.length_map, sizeLine_eq]; omega
  · rw [← e]; exact strVals_of l
/-- with a token drawn ahead: what is told of an expression -/
def PEt (X : Cx) (e : Expr) (t : TE) : Prop :=
  ∀ (pins : List (Addr × Obj)) (s : Shared) (σ : St) (H : Hp) (Q : VK), Inv X pins σ H s → 0 < s.toks → t σ H Q → wpAny (model X.prog X.w) X.A (eval e X.env) (EP X pins σ Q) X.xe s
def tRepl (i : Nat) (y z : Str) : TE := fun σ H Q => ∃ x, σ[i]? = some (some (.str x)) ∧ x.length ≤ 1000000 ∧ Q (.str (Txt.replace x y z)) H
theorem pet_replace {x : Str} {i : Nat} {y z : Str} {j1 j2 : Nat} {p0 p1 p2 apos cpos : Pos} (hN : X.N[i]? = some x) (hv : Vis X.env.scope x) (hyz : (y == z) = false) (hz : z.length ≤ 14)
    (hline : (apos.endLine == cpos.line) = true := by rfl) (hd : (x == ("__debug__" : Str)) = false := by decide) (hcd : (x == ("__classdict__" : Str)) = false := by decide) :
    PEt X (.Call (.Attribute (.Name x p0) "replace" apos) [.Constant (.str y) j1 p1, .Constant (.str z) j2 p2] [] cpos) (tRepl i y z) := by
  intro pins s σ H Q I h0 h
  obtain ⟨vx, e, hl, q⟩ := h
  refine wpAny_Call_method_late rfl rfl hline rfl ?_
  obtain ⟨m, hn, hlk⟩ := I.loc
  obtain ⟨u, ⟨t, ru⟩, l⟩ := hlk i x (.str vx) hN e hv
  subst ru
  have fin : MethodOn X.prog X.w X.A "replace" cpos (.str vx t) (backTo cpos (starEach [.Constant (.str y) j1 p1, .Constant (.str z) j2 p2] X.env)) (EP X pins σ Q) X.xe s := by
    refine ⟨"str", "str.replace", F.plainAttrs_str, F.slot_str_replace, F.type_str_replace, typeIs_str _ _ _, (fun _ e => nomatch e), ?_⟩
    refine Calls.callWith_builtin rfl (Calls.evalArgs_plain ?_)
    refine Calls.spliced_cons (Calls.Constant_str (k := j1) (pos := p1) (Calls.spliced_cons (Calls.Constant_str (k := j2) (pos := p2) (Calls.spliced_nil ?_))))
    refine SC.replaceW (Nat.pos_iff_ne_zero.mp h0) (Nat.succ_ne_zero _) (fun c => absurd (show s.toks = s.toks + 1 from c) (by omega)) hyz (by omega) hz fun t' k => ?_
    exact ⟨.str (Txt.replace vx y z), H, I.tok _, ⟨_, rfl⟩, q⟩
  rcases l with ⟨hk, hm⟩ | ⟨hk, c, hc, hcell⟩
  · exact wpAny_Name (wpAny_loadName_local I.ok.kind hk hn hm fin) hd
  · rcases hk with hk | hk
    · exact wpAny_Name (wpAny_loadName_cell I.ok.kind hk hc hcell fin) hd
    · exact wpAny_Name (wpAny_loadName_free I.ok.kind hk hc hcell fin hcd) hd
end
structure Bl3 (mg : Str → Option Value) : Prop extends Bl2 mg where
  abs : mg "abs" = none
end L2
namespace L2
open PySem PySem.Spec PyProof.Rows
def cellF (ns : List Int) (k : Int) : Int :=
  let m := if ns = [] then k * 7919 else (k * 7919 + k / ns.length * 104729 + ns.getD (k % ns.length).toNat 0 * 48271) % 1000003
  (m * m / 11 + 13 * m) % 1000003
theorem cellF_lo (ns : List Int) (k : Int) : 0 ≤ cellF ns k := Int.emod_nonneg _ (by decide)
theorem cellF_hi (ns : List Int) (k : Int) : cellF ns k < 1000003 := Int.emod_lt_of_pos _ (by decide)
end L2
namespace L2
open PySem PySem.Spec PyProof.Rows PySem.Builtin PySem.Builtin.Str
mutual
/-- numbers, texts and names within their bounds, records whole -/
def T.okw : T → Prop
  | .non => True
  | .bl _ => True
  | .int i => -(10 ^ 12) ≤ i ∧ i ≤ 10 ^ 12
  | .str x => x.length ≤ 30
  | .lst ts => T.okws ts
  | .dic ks ts => ks.Nodup ∧ ks.length < 64 ∧ ks.length = ts.length ∧ (∀ k ∈ ks, k.length ≤ 12) ∧ T.okws ts
  | .tup _ => False
def T.okws : List T → Prop
  | [] => True
  | t :: ts => T.okw t ∧ T.okws ts
end
theorem okName_len {k : List Nat} (h : okName k = true) : k.length ≤ 12 := by
  unfold okName at h
  simp only [Bool.and_eq_true, decide_eq_true_eq] at h
  omega
theorem okText_len {k : List Nat} (h : okText k = true) : k.length ≤ 30 := by
  unfold okText at h
  simp only [Bool.and_eq_true, decide_eq_true_eq] at h
  omega
mutual
theorem Nice.okw {d : Nat} : ∀ (t : T), Nice d t → T.okw t
  | .non, _ => True.intro
  | .bl _, _ => True.intro
  | .int _, h => h
  | .str _, h => okText_len h
  | .lst ts, h => NiceL.okw ts h.2.2
  | .dic ks ts, h => by
    obtain ⟨_, h1, h2, h3, h4, h5⟩ := h
    exact ⟨h3, by omega, h2, fun k hk => okName_len (h4 k hk), NiceL.okw ts h5⟩
  | .tup _, h => h.elim
theorem NiceL.okw {d : Nat} : ∀ (ts : List T), NiceL d ts → T.okws ts
  | [], _ => True.intro
  | t :: ts, h => ⟨Nice.okw t h.1, NiceL.okw ts h.2⟩
end
end L2
namespace L2
open PySem PySem.Spec PyProof.Rows
section
variable {X : Cx}
end
end L2
namespace L2
open PySem PySem.Spec PyProof.Rows
def scv : T → V
  | .int i => .int i
  | .str x => .str (tx x)
  | _ => .non
def Sc (t : T) : Prop := (∃ i, t = .int i) ∨ ∃ x, t = .str x
theorem Sc.rep {H : Hp} {t : T} (h : Sc t) : Rep H (scv t) t := by
  rcases h with ⟨i, rfl⟩ | ⟨x, rfl⟩ <;> rfl
theorem Sc.reps {H : Hp} : ∀ {ts : List T}, (∀ t ∈ ts, Sc t) → Reps H (ts.map scv) ts
  | [], _ => rfl
  | t :: ts, h => ⟨scv t, ts.map scv, rfl, (h t List.mem_cons_self).rep, Sc.reps fun u hu => h u (List.mem_cons_of_mem _ hu)⟩
def Lay (H : Hp) : List Addr → List (List V) → Prop
  | [], [] => True
  | p :: ps, v :: vs => H p = some (.lst v) ∧ Lay H ps vs
  | _, _ => False
theorem Lay.same {H H' : Hp} (g : Same H H') : ∀ {ps : List Addr} {vs : List (List V)}, Lay H ps vs → Lay H' ps vs
  | [], [], _ => True.intro
  | _ :: _, _ :: _, h => ⟨g _ _ h.1, Lay.same g h.2⟩
  | [], _ :: _, h => h.elim
  | _ :: _, [], h => h.elim
theorem Lay.away {H : Hp} {a : Addr} {o : HO} : ∀ {ps : List Addr} {vs : List (List V)}, a ∉ ps → Lay H ps vs → Lay (upd H a o) ps vs
  | [], [], _, _ => True.intro
  | p :: _, _ :: _, hn, h => ⟨by rw [upd_ne fun z => hn (by rw [← z]; exact List.mem_cons_self)]; exact h.1, Lay.away (fun z => hn (List.mem_cons_of_mem _ z)) h.2⟩
  | [], _ :: _, _, h => h.elim
  | _ :: _, [], _, h => h.elim
theorem Lay.append {H : Hp} {qs : List Addr} {ws : List (List V)} (h' : Lay H qs ws) : ∀ {ps : List Addr} {vs : List (List V)}, Lay H ps vs → Lay H (ps ++ qs) (vs ++ ws)
  | [], [], _ => h'
  | _ :: _, _ :: _, h => ⟨h.1, Lay.append h' h.2⟩
  | [], _ :: _, h => h.elim
  | _ :: _, [], h => h.elim
theorem Lay.length {H : Hp} : ∀ {ps : List Addr} {vs : List (List V)}, Lay H ps vs → ps.length = vs.length
  | [], [], _ => rfl
  | _ :: _, _ :: _, h => by rw [List.length_cons, List.length_cons, Lay.length h.2]
  | [], _ :: _, h => h.elim
  | _ :: _, [], h => h.elim
theorem Lay.get {H : Hp} : ∀ {ps : List Addr} {vs : List (List V)} {i : Nat} {p : Addr}, Lay H ps vs → ps[i]? = some p → ∃ v, vs[i]? = some v ∧ H p = some (.lst v)
  | [], [], i, p, _, e => by simp at e
  | q :: ps, v :: vs, 0, p, h, e => by
    simp at e
    exact ⟨v, rfl, by rw [← e]; exact h.1⟩
  | q :: ps, v :: vs, i + 1, p, h, e => by
    obtain ⟨w, e1, e2⟩ := Lay.get (i := i) h.2 (by simpa using e)
    exact ⟨w, by simpa using e1, e2⟩
  | [], _ :: _, _, _, h, _ => h.elim
  | _ :: _, [], _, _, h, _ => h.elim
theorem Lay.there {H : Hp} {p : Addr} : ∀ {ps : List Addr} {vs : List (List V)}, Lay H ps vs → p ∈ ps → ∃ o, H p = some o
  | [], _, _, h => nomatch h
  | q :: ps, v :: vs, h, hm => by
    rcases List.mem_cons.mp hm with z | z
    · exact ⟨_, by rw [z]; exact h.1⟩
    · exact Lay.there h.2 z
  | _ :: _, [], h, _ => h.elim
/-- one of them written anew -/
theorem Lay.put {H : Hp} {w : List V} : ∀ {ps : List Addr} {vs : List (List V)} {i : Nat} {p : Addr}, ps.Nodup → Lay H ps vs → ps[i]? = some p → Lay (upd H p (.lst w)) ps (vs.set i w)
  | [], [], i, p, _, _, e => by simp at e
  | q :: ps, v :: vs, 0, p, hn, h, e => by
    simp at e
    subst e
    exact ⟨upd_same, Lay.away (List.nodup_cons.mp hn).1 h.2⟩
  | q :: ps, v :: vs, i + 1, p, hn, h, e => by
    have e' : ps[i]? = some p := by simpa using e
    have hne : q ≠ p := fun z => (List.nodup_cons.mp hn).1 (by rw [z]; exact List.mem_of_getElem? e')
    exact ⟨by rw [upd_ne hne]; exact h.1, Lay.put (List.nodup_cons.mp hn).2 h.2 e'⟩
  | [], _ :: _, _, _, _, h, _ => h.elim
  | _ :: _, [], _, _, _, h, _ => h.elim
theorem Lay.rep {H : Hp} : ∀ {ps : List Addr} {pp : List (List T)}, (∀ p ∈ pp, ∀ s ∈ p, Sc s) → Lay H ps (pp.map (·.map scv)) → Reps H (ps.map V.ref) (pp.map T.lst)
  | [], [], _, _ => rfl
  | a :: ps, p :: pp, hs, h => ⟨.ref a, ps.map V.ref, rfl, ⟨a, p.map scv, rfl, h.1, Sc.reps (hs p List.mem_cons_self)⟩, Lay.rep (fun q hq => hs q (List.mem_cons_of_mem _ hq)) h.2⟩
  | [], _ :: _, _, h => h.elim
  | _ :: _, [], _, h => h.elim
end L2
namespace L2
open PySem PySem.Spec PyProof.Rows
section
variable {X : Cx} {pins : List (Addr × Obj)} {σ : St} {H : Hp} {s : Shared} {h' : Heap}
end
section
variable {X : Cx}
end
/-- two names of a pair -/
abbrev g2 (K : PySem.W.Frag) : TG := gTup K 2 (gCons (gName 0) (gCons (gName 1) gNil))
end L2
namespace L2
open PySem PySem.Spec PyProof.Rows
def tyR (H : Hp) : V → Option String
  | .ref a => match H a with
    | some (.frz _ (.dK _)) => some "dict"
    | _ => tyS H (.ref a)
  | v => tyS H v
theorem tyR_of {H : Hp} {x : V} {t : String} (h : tyS H x = some t) : tyR H x = some t := by
  cases x with
  | ref a =>
    show (match H a with | some (.frz _ (.dK _)) => some "dict" | _ => tyS H (.ref a)) = some t
    split
    · rename_i o kvs e
      have h' : (match H a with | some (.lst _) => some "list" | some (.tup _) => some "tuple" | some (.dK _) => some "dict" | _ => none) = some t := h
      rw [e] at h'; cases h'
    · exact h
  | _ => exact h
theorem tyR_dic {H : Hp} {a : Addr} {ps : List (Key × V)} (h : Rd H a (.dK ps)) : tyR H (.ref a) = some "dict" := by
  rcases h with h | ⟨o, h⟩
  · exact tyR_of (tyS_dK h)
  · show (match H a with | some (.frz _ (.dK _)) => some "dict" | _ => tyS H (.ref a)) = some "dict"
    rw [h]
section
variable {X : Cx}
end
mutual
/-- the value can be read as the tree -/
def Rp (H : Hp) : V → T → Prop
  | v, .non => v = .non
  | v, .bl b => v = .bl b
  | v, .int i => v = .int i
  | v, .str x => v = .str (tx x)
  | v, .lst ts => ∃ a vs, v = .ref a ∧ H a = some (.lst vs) ∧ Rps H vs ts
  | v, .dic ks ts => ∃ a ps, v = .ref a ∧ Rd H a (.dK ps) ∧ ps.map (·.1) = ks.map (fun k => (Sum.inr (tx k) : Key)) ∧ Rps H (ps.map (·.2)) ts
  | v, .tup ts => ∃ a vs, v = .ref a ∧ H a = some (.tup vs) ∧ Rps H vs ts
def Rps (H : Hp) : List V → List T → Prop
  | vs, [] => vs = []
  | vs, t :: ts => ∃ v r, vs = v :: r ∧ Rp H v t ∧ Rps H r ts
end
mutual
theorem Rp.mono {H H' : Hp} (e : ∀ b xs, H b = some (.lst xs) → H' b = some (.lst xs)) (e2 : ∀ b xs, H b = some (.tup xs) → H' b = some (.tup xs)) (e3 : ∀ b ps, Rd H b (.dK ps) → Rd H' b (.dK ps)) : ∀ (v : V) (t : T), Rp H v t → Rp H' v t
  | _, .non, h => h
  | _, .bl _, h => h
  | _, .int _, h => h
  | _, .str _, h => h
  | _, .lst ts, ⟨a, vs, h1, h2, h3⟩ => ⟨a, vs, h1, e _ _ h2, Rps.mono e e2 e3 vs ts h3⟩
  | _, .dic ks ts, ⟨a, ps, h1, h2, h3, h4⟩ => ⟨a, ps, h1, e3 _ _ h2, h3, Rps.mono e e2 e3 _ ts h4⟩
  | _, .tup ts, ⟨a, vs, h1, h2, h3⟩ => ⟨a, vs, h1, e2 _ _ h2, Rps.mono e e2 e3 vs ts h3⟩
theorem Rps.mono {H H' : Hp} (e : ∀ b xs, H b = some (.lst xs) → H' b = some (.lst xs)) (e2 : ∀ b xs, H b = some (.tup xs) → H' b = some (.tup xs)) (e3 : ∀ b ps, Rd H b (.dK ps) → Rd H' b (.dK ps)) : ∀ (vs : List V) (ts : List T), Rps H vs ts → Rps H' vs ts
  | _, [], h => h
  | _, t :: ts, ⟨v, r, h1, h2, h3⟩ => ⟨v, r, h1, Rp.mono e e2 e3 v t h2, Rps.mono e e2 e3 r ts h3⟩
end
theorem Rd.same {H H' : Hp} (g : Same H H') {a : Addr} {u : HO} (h : Rd H a u) : Rd H' a u := h.imp (g _ _) fun ⟨o, e⟩ => ⟨o, g _ _ e⟩
theorem Rp.same {H H' : Hp} (g : Same H H') (v : V) (t : T) (h : Rp H v t) : Rp H' v t := Rp.mono (fun b xs => g b _) (fun b xs => g b _) (fun b ps h => h.same g) v t h
theorem Rps.same {H H' : Hp} (g : Same H H') (v : List V) (t : List T) (h : Rps H v t) : Rps H' v t := Rps.mono (fun b xs => g b _) (fun b xs => g b _) (fun b ps h => h.same g) v t h
theorem Rd.frz {H : Hp} {d : Addr} {o : Obj} {ps : List (Key × V)} (hd : H d = some (.dK ps)) {b : Addr} {qs : List (Key × V)} (h : Rd H b (.dK qs)) : Rd (upd H d (.frz o (.dK ps))) b (.dK qs) := by
  by_cases e : b = d
  · subst e
    rcases h with h | ⟨o', h⟩
    · rw [hd] at h; cases h
      exact .inr ⟨o, upd_same⟩
    · rw [hd] at h; cases h
  · exact h.imp (fun h => by rw [upd_ne e]; exact h) fun ⟨o', h⟩ => ⟨o', by rw [upd_ne e]; exact h⟩
theorem Rps.frz {H : Hp} {d : Addr} {o : Obj} {ps : List (Key × V)} (hd : H d = some (.dK ps)) (v : List V) (t : List T) (h : Rps H v t) : Rps (upd H d (.frz o (.dK ps))) v t :=
  Rps.mono (fun b xs e => by rw [upd_ne fun z => by rw [z, hd] at e; cases e]; exact e) (fun b xs e => by rw [upd_ne fun z => by rw [z, hd] at e; cases e]; exact e) (fun b qs h => Rd.frz hd h) v t h
theorem Rps.length {H : Hp} : ∀ {vs : List V} {ts : List T}, Rps H vs ts → vs.length = ts.length
  | _, [], e => by
    have e' : _ = [] := e
    subst e'; rfl
  | _, t' :: ts, ⟨v', r, h1, h2, h3⟩ => by
    subst h1
    simp [Rps.length h3]
theorem Rps.get {H : Hp} : ∀ {vs : List V} {ts : List T} {i : Nat} {v : V}, Rps H vs ts → vs[i]? = some v → ∃ t, ts[i]? = some t ∧ Rp H v t
  | _, [], i, v, e, h => by
    have e' : _ = [] := e
    subst e'; simp at h
  | _, t' :: ts, 0, v, ⟨v', r, h1, h2, h3⟩, h => by
    subst h1
    simp at h; subst h
    exact ⟨t', rfl, h2⟩
  | _, t' :: ts, i + 1, v, ⟨v', r, h1, h2, h3⟩, h => by
    subst h1
    obtain ⟨t, e, q⟩ := Rps.get (i := i) (v := v) h3 (by simpa using h)
    exact ⟨t, by simpa using e, q⟩
theorem Rp.ty {H : Hp} {v : V} : ∀ {t : T}, Rp H v t → tyR H v = some (tyT t)
  | .non, h => by cases (show v = .non from h); rfl
  | .bl b, h => by cases (show v = .bl b from h); rfl
  | .int i, h => by cases (show v = .int i from h); rfl
  | .str x, h => by cases (show v = .str (tx x) from h); rfl
  | .lst ts, h => by obtain ⟨a, vs, e, h2, _⟩ := h; subst e; exact tyR_of (tyS_lst h2)
  | .dic ks ts, h => by obtain ⟨a, vs, e, h2, _⟩ := h; subst e; exact tyR_dic h2
  | .tup ts, h => by obtain ⟨a, vs, e, h2, _⟩ := h; subst e; exact tyR_of (tyS_tup h2)
/-- what a record has by a name -/
theorem Rp.at_name {H : Hp} {ps : List (Key × V)} {ks : List (List Nat)} {us : List T} (nk : ks.Nodup) (hk : ps.map (·.1) = ks.map fun k => (Sum.inr (tx k) : Key)) (hs : Rps H (ps.map (·.2)) us) {k : List Nat} (hm : k ∈ ks) :
    ∃ v, valV ps (Sum.inr (tx k)) = some v ∧ Rp H v (lookT k ks us) := by
  obtain ⟨j, hj⟩ := List.mem_iff_getElem?.mp hm
  have hp : (ps.map (·.1))[j]? = some (Sum.inr (tx k) : Key) := by rw [hk, List.getElem?_map, hj]; rfl
  rw [List.getElem?_map] at hp
  cases hpj : ps[j]? with
  | none => rw [hpj] at hp; cases hp
  | some kv =>
    rw [hpj] at hp
    have ek : kv.1 = (Sum.inr (tx k) : Key) := Option.some.inj hp
    have hpj' : ps[j]? = some ((Sum.inr (tx k) : Key), kv.2) := by rw [hpj, ← ek]
    obtain ⟨t, ht, hr⟩ := hs.get (i := j) (v := kv.2) (by rw [List.getElem?_map, hpj]; rfl)
    refine ⟨kv.2, valV_ix (by rw [hk]; exact nodup_nK nk) hpj', ?_⟩
    rw [lookT_ix nk hj ht]
    exact hr
structure Bl4 (mg : Str → Option Value) : Prop extends Bl2 mg where
  enumerate : mg "enumerate" = none
end L2
namespace L2
open PySem PySem.Spec PyProof.Rows
mutual
/-- the value stands for the tree; its rows and records lie at D, each at one place alone -/
def Sp1 (H : Hp) : V → T → List Addr → Prop
  | v, .non, D => D = [] ∧ v = .non
  | v, .bl b, D => D = [] ∧ v = .bl b
  | v, .int i, D => D = [] ∧ v = .int i
  | v, .str x, D => D = [] ∧ v = .str (tx x)
  | v, .lst ts, D => ∃ a vs D', v = .ref a ∧ H a = some (.lst vs) ∧ D = a :: D' ∧ a ∉ D' ∧ Sps H vs ts D'
  | v, .dic ks ts, D => ∃ a ps D', v = .ref a ∧ H a = some (.dK ps) ∧ ps.map (·.1) = ks.map (fun k => (Sum.inr (tx k) : Key)) ∧ D = a :: D' ∧ a ∉ D' ∧ Sps H (ps.map (·.2)) ts D'
  | _, .tup _, _ => False
def Sps (H : Hp) : List V → List T → List Addr → Prop
  | vs, [], D => vs = [] ∧ D = []
  | vs, t :: ts, D => ∃ v r D1 D2, vs = v :: r ∧ D = D1 ++ D2 ∧ Sp1 H v t D1 ∧ Sps H r ts D2 ∧ ∀ b ∈ D1, b ∉ D2
end
mutual
theorem Sp1.rep {H : Hp} : ∀ (v : V) (t : T) (D : List Addr), Sp1 H v t D → Rep H v t
  | _, .non, _, h => h.2
  | _, .bl _, _, h => h.2
  | _, .int _, _, h => h.2
  | _, .str _, _, h => h.2
  | _, .lst ts, _, ⟨a, vs, D', h1, h2, _, _, h3⟩ => ⟨a, vs, h1, h2, Sps.rep vs ts D' h3⟩
  | _, .dic ks ts, _, ⟨a, ps, D', h1, h2, h3, _, _, h4⟩ => ⟨a, ps, h1, h2, h3, Sps.rep _ ts D' h4⟩
  | _, .tup _, _, h => h.elim
theorem Sps.rep {H : Hp} : ∀ (vs : List V) (ts : List T) (D : List Addr), Sps H vs ts D → Reps H vs ts
  | _, [], _, h => h.1
  | _, t :: ts, _, ⟨v, r, D1, D2, h1, _, h2, h3, _⟩ => ⟨v, r, h1, Sp1.rep v t D1 h2, Sps.rep r ts D2 h3⟩
end
mutual
theorem Sp1.keep {H H' : Hp} : ∀ (v : V) (t : T) (D : List Addr), (∀ b ∈ D, ∀ o, (∀ ob u, o ≠ HO.frz ob u) → H b = some o → H' b = some o) → Sp1 H v t D → Sp1 H' v t D
  | _, .non, _, _, h => h
  | _, .bl _, _, _, h => h
  | _, .int _, _, _, h => h
  | _, .str _, _, _, h => h
  | _, .lst ts, _, k, ⟨a, vs, D', h1, h2, e, n, h3⟩ => ⟨a, vs, D', h1, k a (by rw [e]; exact List.mem_cons_self) _ (by intro ob u z; cases z) h2, e, n, Sps.keep vs ts D' (fun b hb => k b (by rw [e]; exact List.mem_cons_of_mem _ hb)) h3⟩
  | _, .dic ks ts, _, k, ⟨a, ps, D', h1, h2, h3, e, n, h4⟩ => ⟨a, ps, D', h1, k a (by rw [e]; exact List.mem_cons_self) _ (by intro ob u z; cases z) h2, h3, e, n, Sps.keep _ ts D' (fun b hb => k b (by rw [e]; exact List.mem_cons_of_mem _ hb)) h4⟩
  | _, .tup _, _, _, h => h.elim
theorem Sps.keep {H H' : Hp} : ∀ (vs : List V) (ts : List T) (D : List Addr), (∀ b ∈ D, ∀ o, (∀ ob u, o ≠ HO.frz ob u) → H b = some o → H' b = some o) → Sps H vs ts D → Sps H' vs ts D
  | _, [], _, _, h => h
  | _, t :: ts, _, k, ⟨v, r, D1, D2, h1, e, h2, h3, n⟩ => ⟨v, r, D1, D2, h1, e, Sp1.keep v t D1 (fun b hb => k b (by rw [e]; exact List.mem_append_left _ hb)) h2, Sps.keep r ts D2 (fun b hb => k b (by rw [e]; exact List.mem_append_right _ hb)) h3, n⟩
end
mutual
theorem Sp1.there {H : Hp} {b : Addr} : ∀ (v : V) (t : T) (D : List Addr), Sp1 H v t D → b ∈ D → ∃ o, H b = some o
  | _, .non, _, h, hb => by rw [h.1] at hb; cases hb
  | _, .bl _, _, h, hb => by rw [h.1] at hb; cases hb
  | _, .int _, _, h, hb => by rw [h.1] at hb; cases hb
  | _, .str _, _, h, hb => by rw [h.1] at hb; cases hb
  | _, .lst ts, _, ⟨a, vs, D', h1, h2, e, n, h3⟩, hb => by
    rw [e] at hb
    rcases List.mem_cons.mp hb with z | z
    · exact ⟨_, by rw [z]; exact h2⟩
    · exact Sps.there vs ts D' h3 z
  | _, .dic ks ts, _, ⟨a, ps, D', h1, h2, h3, e, n, h4⟩, hb => by
    rw [e] at hb
    rcases List.mem_cons.mp hb with z | z
    · exact ⟨_, by rw [z]; exact h2⟩
    · exact Sps.there _ ts D' h4 z
  | _, .tup _, _, h, _ => h.elim
theorem Sps.there {H : Hp} {b : Addr} : ∀ (vs : List V) (ts : List T) (D : List Addr), Sps H vs ts D → b ∈ D → ∃ o, H b = some o
  | _, [], _, h, hb => by rw [h.2] at hb; cases hb
  | _, t :: ts, _, ⟨v, r, D1, D2, h1, e, h2, h3, n⟩, hb => by
    rw [e] at hb
    rcases List.mem_append.mp hb with z | z
    · exact Sp1.there v t D1 h2 z
    · exact Sps.there r ts D2 h3 z
end
theorem Sp1.same {H H' : Hp} (g : Same H H') {v : V} {t : T} {D : List Addr} (h : Sp1 H v t D) : Sp1 H' v t D := Sp1.keep v t D (fun b _ o _ e => g b o e) h
theorem Sps.same {H H' : Hp} (g : Same H H') {v : List V} {t : List T} {D : List Addr} (h : Sps H v t D) : Sps H' v t D := Sps.keep v t D (fun b _ o _ e => g b o e) h
theorem Sps.snoc {H : Hp} {v : V} {t : T} {D1 : List Addr} (h : Sp1 H v t D1) : ∀ {vs : List V} {ts : List T} {D : List Addr}, Sps H vs ts D → (∀ b ∈ D, b ∉ D1) → Sps H (vs ++ [v]) (ts ++ [t]) (D ++ D1)
  | _, [], D, e, _ => by
    obtain ⟨e1, e2⟩ := e
    subst e1 e2
    exact ⟨v, [], D1, [], rfl, by simp, h, ⟨rfl, rfl⟩, fun _ _ z => nomatch z⟩
  | _, t' :: ts, D, ⟨v', r, E1, E2, h1, e, h2, h3, n⟩, hd => by
    subst h1 e
    refine ⟨v', r ++ [v], E1, E2 ++ D1, rfl, by simp, h2, Sps.snoc h h3 fun b hb => hd b (List.mem_append_right _ hb), fun b hb z => ?_⟩
    rcases List.mem_append.mp z with c | c
    · exact n b hb c
    · exact hd b (List.mem_append_left _ hb) c
theorem Sps.length {H : Hp} {vs : List V} {ts : List T} {D : List Addr} (h : Sps H vs ts D) : vs.length = ts.length := (Sps.rep vs ts D h).length
/-- but at D all stays -/
def Keep (D : List Addr) (H H' : Hp) : Prop := ∀ b o, b ∉ D → H b = some o → H' b = some o
theorem Keep.refl {D : List Addr} {H : Hp} : Keep D H H := fun _ _ _ h => h
theorem Keep.trans {D : List Addr} {H H1 H2 : Hp} (a : Keep D H H1) (b : Keep D H1 H2) : Keep D H H2 := fun c o h e => b c o h (a c o h e)
theorem Keep.mono {D D' : List Addr} {H H' : Hp} (h : Keep D H H') (s : ∀ b ∈ D, b ∈ D') : Keep D' H H' := fun b o hb e => h b o (fun z => hb (s b z)) e
theorem Keep.of {D : List Addr} {H H' : Hp} (g : Same H H') : Keep D H H' := fun b o _ e => g b o e
theorem Keep.put {D : List Addr} {H H' : Hp} {a : Addr} (o : HO) (h : Keep D H H') (ha : a ∈ D) : Keep D H (upd H' a o) := fun b u hb e => by
  rw [upd_ne fun z => hb (by rw [z]; exact ha)]
  exact h b u hb e
/-- what lay there before D was laid stays -/
theorem Keep.old {D : List Addr} {H0 H H' : Hp} (h : Keep D H H') (g : Same H0 H) (hf : ∀ b ∈ D, H0 b = none) : Same H0 H' := fun b o e => h b o (fun z => by rw [hf b z] at e; cases e) (g b o e)
theorem none_back {H H' : Hp} (g : Same H H') {p : Addr} (h : H' p = none) : H p = none := by
  cases e : H p with
  | none => rfl
  | some o => rw [g _ _ e] at h; cases h
theorem Sps.thaw {H H' : Hp} {vs : List V} {ts : List T} {D : List Addr} (h : Sps H' vs ts D) : Sps (L2.thaw H H') vs ts D := Sps.keep vs ts D (fun _ _ _ n e => thaw_of e n) h
end L2
namespace L2
open PySem PySem.Spec PyProof.Rows
section
variable {prog : Program} {w : World} {A : Around} {E : Value → Shared → Prop} {s : Shared}
end
section
variable {X : Cx}
end
end L2
namespace L2
open PySem PySem.Spec PyProof.Rows
section
variable {X : Cx} {a : Expr} {ta : TE}
end
end L2
namespace L2
open PySem PySem.Spec PyProof.Rows
inductive U where
  | leaf (v : V) | lst (us : List U) | dic (ks : List Key) (us : List U)
def lfS : V → Bool
  | .non => true
  | .bl _ => true
  | .int _ => true
  | .str _ => true
  | _ => false
def Lf (H : Hp) (x : V) : Prop := lfS x = true ∨ ∃ (a : Addr) (xs : List V), x = .ref a ∧ H a = some (.tup xs)
theorem Lf.same {H H' : Hp} (g : ∀ b xs, H b = some (.tup xs) → H' b = some (.tup xs)) {x : V} (h : Lf H x) : Lf H' x := h.imp id fun ⟨a, xs, e, h⟩ => ⟨a, xs, e, g _ _ h⟩
mutual
def Ru (H : Hp) : V → U → Prop
  | v, .leaf x => v = x ∧ Lf H x
  | v, .lst us => ∃ a vs, v = .ref a ∧ H a = some (.lst vs) ∧ Rus H vs us
  | v, .dic ks us => ∃ a ps, v = .ref a ∧ Rd H a (.dK ps) ∧ ps.map (·.1) = ks ∧ Rus H (ps.map (·.2)) us
def Rus (H : Hp) : List V → List U → Prop
  | vs, [] => vs = []
  | vs, u :: us => ∃ v r, vs = v :: r ∧ Ru H v u ∧ Rus H r us
end
mutual
theorem Ru.mono {H H' : Hp} (e : ∀ b xs, H b = some (.lst xs) → H' b = some (.lst xs)) (e2 : ∀ b xs, H b = some (.tup xs) → H' b = some (.tup xs)) (e3 : ∀ b ps, Rd H b (.dK ps) → Rd H' b (.dK ps)) : ∀ (v : V) (u : U), Ru H v u → Ru H' v u
  | _, .leaf _, h => ⟨h.1, h.2.same e2⟩
  | _, .lst us, ⟨a, vs, h1, h2, h3⟩ => ⟨a, vs, h1, e _ _ h2, Rus.mono e e2 e3 vs us h3⟩
  | _, .dic ks us, ⟨a, ps, h1, h2, h3, h4⟩ => ⟨a, ps, h1, e3 _ _ h2, h3, Rus.mono e e2 e3 _ us h4⟩
theorem Rus.mono {H H' : Hp} (e : ∀ b xs, H b = some (.lst xs) → H' b = some (.lst xs)) (e2 : ∀ b xs, H b = some (.tup xs) → H' b = some (.tup xs)) (e3 : ∀ b ps, Rd H b (.dK ps) → Rd H' b (.dK ps)) : ∀ (vs : List V) (us : List U), Rus H vs us → Rus H' vs us
  | _, [], h => h
  | _, u :: us, ⟨v, r, h1, h2, h3⟩ => ⟨v, r, h1, Ru.mono e e2 e3 v u h2, Rus.mono e e2 e3 r us h3⟩
end
theorem Ru.same {H H' : Hp} (g : Same H H') {v : V} {u : U} (h : Ru H v u) : Ru H' v u := Ru.mono (fun b xs => g b _) (fun b xs => g b _) (fun b ps h => h.same g) v u h
theorem Rus.same {H H' : Hp} (g : Same H H') {v : List V} {u : List U} (h : Rus H v u) : Rus H' v u := Rus.mono (fun b xs => g b _) (fun b xs => g b _) (fun b ps h => h.same g) v u h
theorem Rus.frz {H : Hp} {d : Addr} {o : Obj} {ps : List (Key × V)} (hd : H d = some (.dK ps)) {v : List V} {u : List U} (h : Rus H v u) : Rus (upd H d (.frz o (.dK ps))) v u :=
  Rus.mono (fun b xs e => by rw [upd_ne fun z => by rw [z, hd] at e; cases e]; exact e) (fun b xs e => by rw [upd_ne fun z => by rw [z, hd] at e; cases e]; exact e) (fun b qs h => Rd.frz hd h) v u h
theorem Rus.length {H : Hp} : ∀ {vs : List V} {us : List U}, Rus H vs us → vs.length = us.length
  | _, [], e => by
    have e' : _ = [] := e
    subst e'; rfl
  | _, _ :: us, ⟨v', r, h1, h2, h3⟩ => by
    subst h1
    simp [Rus.length h3]
theorem Rus.get {H : Hp} : ∀ {vs : List V} {us : List U} {i : Nat} {v : V}, Rus H vs us → vs[i]? = some v → ∃ u, us[i]? = some u ∧ Ru H v u
  | _, [], i, v, e, h => by
    have e' : _ = [] := e
    subst e'; simp at h
  | _, u' :: us, 0, v, ⟨v', r, h1, h2, h3⟩, h => by
    subst h1
    simp at h; subst h
    exact ⟨u', rfl, h2⟩
  | _, _ :: us, i + 1, v, ⟨v', r, h1, h2, h3⟩, h => by
    subst h1
    obtain ⟨u, e, q⟩ := Rus.get (i := i) (v := v) h3 (by simpa using h)
    exact ⟨u, by simpa using e, q⟩
theorem Rus.append {H : Hp} {ws : List V} {xs : List U} (h' : Rus H ws xs) : ∀ {vs : List V} {us : List U}, Rus H vs us → Rus H (vs ++ ws) (us ++ xs)
  | _, [], e => by
    have e' : _ = [] := e
    subst e'; exact h'
  | _, u' :: us, ⟨v', r, h1, h2, h3⟩ => by
    subst h1
    exact ⟨v', r ++ ws, rfl, h2, Rus.append h' h3⟩
theorem Rus.snoc {H : Hp} {v : V} {u : U} (h : Ru H v u) {vs : List V} {us : List U} (hs : Rus H vs us) : Rus H (vs ++ [v]) (us ++ [u]) := Rus.append (show Rus H [v] [u] from ⟨v, [], rfl, h, rfl⟩) hs
theorem Rus.take {H : Hp} : ∀ {xs : List V} {us : List U} (i : Nat), Rus H xs us → Rus H (xs.take i) (us.take i)
  | _, _, 0, _ => rfl
  | _, [], i + 1, e => by
    have e' : _ = [] := e
    subst e'; rfl
  | _, u :: us, i + 1, ⟨v, r, h1, h2, h3⟩ => by
    subst h1
    exact ⟨v, r.take i, rfl, h2, Rus.take i h3⟩
theorem Rus.drop {H : Hp} : ∀ {xs : List V} {us : List U} (i : Nat), Rus H xs us → Rus H (xs.drop i) (us.drop i)
  | _, _, 0, h => h
  | _, [], i + 1, e => by
    have e' : _ = [] := e
    subst e'; rfl
  | _, u :: us, i + 1, ⟨v, r, h1, h2, h3⟩ => by
    subst h1
    exact Rus.drop i h3
theorem Rus.rep {H : Hp} {v : V} {u : U} (h : Ru H v u) : ∀ n : Nat, Rus H (List.replicate n v) (List.replicate n u)
  | 0 => rfl
  | n + 1 => ⟨v, List.replicate n v, rfl, h, Rus.rep h n⟩
mutual
def emb : T → U
  | .non => .leaf .non
  | .bl b => .leaf (.bl b)
  | .int i => .leaf (.int i)
  | .str x => .leaf (.str (tx x))
  | .lst ts => .lst (embs ts)
  | .dic ks ts => .dic (ks.map nK) (embs ts)
  | .tup _ => .leaf .non
def embs : List T → List U
  | [] => []
  | t :: ts => emb t :: embs ts
end
mutual
theorem Rep.ru {H : Hp} : ∀ (v : V) (t : T), Rep H v t → T.pure t → Ru H v (emb t)
  | _, .non, h, _ => ⟨h, .inl rfl⟩
  | _, .bl _, h, _ => ⟨h, .inl rfl⟩
  | _, .int _, h, _ => ⟨h, .inl rfl⟩
  | _, .str _, h, _ => ⟨h, .inl rfl⟩
  | _, .lst ts, ⟨a, vs, h1, h2, h3⟩, hp => ⟨a, vs, h1, h2, Reps.ru vs ts h3 hp⟩
  | _, .dic ks ts, ⟨a, ps, h1, h2, h3, h4⟩, hp => ⟨a, ps, h1, .inl h2, h3, Reps.ru _ ts h4 hp.2⟩
  | _, .tup _, _, hp => hp.elim
theorem Reps.ru {H : Hp} : ∀ (vs : List V) (ts : List T), Reps H vs ts → T.pures ts → Rus H vs (embs ts)
  | _, [], h, _ => h
  | _, t :: ts, ⟨v, r, h1, h2, h3⟩, hp => ⟨v, r, h1, Rep.ru v t h2 hp.1, Reps.ru r ts h3 hp.2⟩
end
mutual
def U.sz : U → Nat
  | .leaf _ => 1
  | .lst us => U.szs us + 1
  | .dic _ us => U.szs us + 1
def U.szs : List U → Nat
  | [] => 0
  | u :: us => U.sz u + U.szs us
end
mutual
def U.dep : U → Nat
  | .leaf _ => 0
  | .lst us => U.deps us + 1
  | .dic _ us => U.deps us + 1
def U.deps : List U → Nat
  | [] => 0
  | u :: us => max (U.dep u) (U.deps us)
end
mutual
/-- short texts, a record's keys unlike; as many as its things -/
def U.ok : U → Prop
  | .leaf v => ∀ x, v = .str x → x.length ≤ 1000
  | .lst us => U.oks us
  | .dic ks us => ks.Nodup ∧ ks.length = us.length ∧ (∀ x, Sum.inr x ∈ ks → x.length ≤ 1000) ∧ U.oks us
def U.oks : List U → Prop
  | [] => True
  | u :: us => U.ok u ∧ U.oks us
end
theorem U.oks_mem {u : U} : ∀ {us : List U}, U.oks us → u ∈ us → U.ok u
  | [], _, h => nomatch h
  | x :: us, h, hm => (List.mem_cons.mp hm).elim (fun e => e ▸ h.1) (U.oks_mem h.2)
theorem U.oks_of {us : List U} (h : ∀ u ∈ us, U.ok u) : U.oks us := by
  induction us with
  | nil => exact True.intro
  | cons t ts ih => exact ⟨h t List.mem_cons_self, ih fun u hu => h u (List.mem_cons_of_mem _ hu)⟩
theorem U.szs_append : ∀ (a b : List U), U.szs (a ++ b) = U.szs a + U.szs b
  | [], b => by simp [U.szs]
  | x :: a, b => by
    show U.sz x + U.szs (a ++ b) = U.sz x + U.szs a + U.szs b
    rw [U.szs_append a b]; omega
theorem U.szs_le {u : U} : ∀ {us : List U}, u ∈ us → U.sz u ≤ U.szs us
  | [], h => nomatch h
  | x :: us, h => by
    show U.sz u ≤ U.sz x + U.szs us
    rcases List.mem_cons.mp h with e | e
    · rw [e]; omega
    · have := U.szs_le e; omega
theorem U.deps_le {u : U} : ∀ {us : List U}, u ∈ us → U.dep u ≤ U.deps us
  | [], h => nomatch h
  | x :: us, h => by
    show U.dep u ≤ max (U.dep x) (U.deps us)
    rcases List.mem_cons.mp h with e | e
    · rw [e]; omega
    · have := U.deps_le e; omega
theorem U.sz_pos : ∀ u : U, 1 ≤ U.sz u
  | .leaf _ => Nat.le_refl _
  | .lst _ => Nat.le_add_left _ _
  | .dic _ _ => Nat.le_add_left _ _
theorem U.szs_len : ∀ us : List U, us.length ≤ U.szs us
  | [] => Nat.le_refl _
  | u :: us => by
    have := U.szs_len us
    have := U.sz_pos u
    show us.length + 1 ≤ U.sz u + U.szs us
    omega
def tyU : U → String
  | .leaf .non => "NoneType"
  | .leaf (.bl _) => "bool"
  | .leaf (.int _) => "int"
  | .leaf (.str _) => "str"
  | .leaf _ => "tuple"
  | .lst _ => "list"
  | .dic _ _ => "dict"
theorem Ru.ty {H : Hp} {v : V} : ∀ {u : U}, Ru H v u → tyR H v = some (tyU u)
  | .leaf x, h => by
    obtain ⟨rfl, h | ⟨a, xs, e, h⟩⟩ := h
    · cases v <;> first | rfl | cases h
    · subst e; exact tyR_of (tyS_tup h)
  | .lst us, h => by obtain ⟨a, vs, e, h2, _⟩ := h; subst e; exact tyR_of (tyS_lst h2)
  | .dic ks us, h => by obtain ⟨a, vs, e, h2, _⟩ := h; subst e; exact tyR_dic h2
section
variable {X : Cx} {pins : List (Addr × Obj)} {σ : St} {H : Hp} {s : Shared}
end
section
variable {X : Cx} {o : Expr} {to : TE} {name : Str} {apos cpos : Pos} {id : String} {r : V → List V → Hp → VK → Prop}
end
structure Bl5 (mg : Str → Option Value) : Prop extends Bl2 mg where
  abs : mg "abs" = none
  ord : mg "ord" = none
end L2
namespace L2
open PySem PySem.Spec PyProof.Rows
section
variable {X : Cx} {pins : List (Addr × Obj)} {σ : St} {H : Hp} {s : Shared} {h' : Heap}
end
/-- the lists at l and m, place by place: each pair a new tuple -/
def Itz (K : PySem.W.Frag) (l m : Addr) : It :=
  ⟨fun i H => ∃ xs ys x y, SqL K H l xs ∧ SqL K H m ys ∧ xs[i]? = some x ∧ ys[i]? = some y,
   fun i H v H' => ∃ p x y, H p = none ∧ v = .ref p ∧ (∀ xs, SqL K H l xs → xs[i]? = some x) ∧ (∀ ys, SqL K H m ys → ys[i]? = some y) ∧ H' = upd H p (.tup [x, y]),
   fun i H => ∃ xs ys, SqL K H l xs ∧ SqL K H m ys ∧ (xs.length ≤ i ∨ ys.length ≤ i)⟩
def iZip (K : PySem.W.Frag) (ta : TA) : TI := fun σ H R => ta σ H fun vs H1 => ∃ l m xs ys, vs = [.ref l, .ref m] ∧ SqL K H1 l xs ∧ SqL K H1 m ys ∧ R (Itz K l m) H1
end L2
namespace L2
open PySem PySem.Spec PyProof.Rows
structure Bl6 (mg : Str → Option Value) : Prop extends Bl2 mg where
  zip : mg "zip" = none
section
variable {X : Cx} {a : Expr} {ta : TE}
/-- e is True, where e is a truth -/
def tIsT (ta : TE) : TE := fun σ H Q => ta σ H fun x H1 => ∃ b, x = .bl b ∧ Q (.bl b) H1
end
end L2
namespace HT
open PySem PyProof.Rows
open PySem.SeqAt
open PySem.AutoSeq1 (wpAny_loadPart')
open PySem.MeetsSeq PySem.MeetsSeq2 PySem.MeetsSeq3
section
variable {prog : Program} {w : World} {A : Around} {E : Value → Shared → Prop} {s : Shared}
end
end HT
namespace L2
open PySem PySem.Spec PyProof.Rows
end L2
namespace L2
open PySem PySem.Spec PyProof.Rows PySem.Builtin PySem.Builtin.Str
def jn (s : List Nat) : List (List Nat) → List Nat
  | [] => []
  | [x] => x
  | x :: y :: r => x ++ s ++ jn s (y :: r)
theorem ts_app (x y : Str) : ts (x ++ y) = ts x ++ ts y := by
  show (x.cps ++ y.cps).toList = _
  rw [Array.toList_append]
theorem ts_join (sep : Str) : ∀ ps : List Str, ts (sep.join ps) = jn (ts sep) (ps.map ts)
  | [] => rfl
  | [x] => rfl
  | x :: y :: r => by
    show ts (x ++ sep ++ sep.join (y :: r)) = ts x ++ ts sep ++ jn (ts sep) ((y :: r).map ts)
    rw [ts_app, ts_app, ts_join sep (y :: r)]
theorem mid_inj {c : Nat} : ∀ {x y a b : List Nat}, c ∉ x → c ∉ y → x ++ c :: a = y ++ c :: b → x = y ∧ a = b
  | [], [], a, b, _, _, e => ⟨rfl, (List.cons.inj e).2⟩
  | [], d :: y, a, b, _, h, e => absurd (show c ∈ d :: y by rw [(List.cons.inj e).1]; exact List.mem_cons_self) h
  | d :: x, [], a, b, h, _, e => absurd (show c ∈ d :: x by rw [← (List.cons.inj e).1]; exact List.mem_cons_self) h
  | d :: x, d' :: y, a, b, h, h', e => by
    obtain ⟨e1, e2⟩ := List.cons.inj e
    obtain ⟨z1, z2⟩ := mid_inj (fun z => h (List.mem_cons_of_mem _ z)) (fun z => h' (List.mem_cons_of_mem _ z)) e2
    exact ⟨by rw [e1, z1], z2⟩
theorem jn_inj {c : Nat} : ∀ {ps qs : List (List Nat)}, ps ≠ [] → qs ≠ [] → (∀ p ∈ ps, c ∉ p) → (∀ q ∈ qs, c ∉ q) → jn [c] ps = jn [c] qs → ps = qs
  | [], _, h, _, _, _, _ => absurd rfl h
  | _ :: _, [], _, h, _, _, _ => absurd rfl h
  | [x], [y], _, _, _, _, e => by
    have e' : x = y := e
    rw [e']
  | [x], y :: z :: r, _, _, h, _, e => by
    have e' : x = y ++ [c] ++ jn [c] (z :: r) := e
    exact absurd (by rw [e']; simp) (h x List.mem_cons_self)
  | x :: z :: r, [y], _, _, _, h, e => by
    have e' : x ++ [c] ++ jn [c] (z :: r) = y := e
    exact absurd (by rw [← e']; simp) (h y List.mem_cons_self)
  | x :: z :: r, y :: z' :: r', _, _, h, h', e => by
    have e' : x ++ [c] ++ jn [c] (z :: r) = y ++ [c] ++ jn [c] (z' :: r') := e
    rw [List.append_assoc, List.append_assoc] at e'
    obtain ⟨e1, e2⟩ := mid_inj (h x List.mem_cons_self) (h' y List.mem_cons_self) e'
    have ih := jn_inj (c := c) (ps := z :: r) (qs := z' :: r') (List.cons_ne_nil _ _) (List.cons_ne_nil _ _) (fun p hp => h p (List.mem_cons_of_mem _ hp)) (fun p hp => h' p (List.mem_cons_of_mem _ hp)) e2
    rw [e1, ih]
theorem map_ts_inj : ∀ {ps qs : List Str}, ps.map ts = qs.map ts → ps = qs
  | [], [], _ => rfl
  | [], _ :: _, e => nomatch e
  | _ :: _, [], e => nomatch e
  | p :: ps, q :: qs, e => by
    obtain ⟨e1, e2⟩ := List.cons.inj e
    rw [str_ext e1, map_ts_inj e2]
theorem split_ne (x : Str) (c : Nat) : Txt.split x ⟨#[c]⟩ ≠ [] := by
  unfold Txt.split
  split
  · exact List.cons_ne_nil _ _
  · split
    · exact List.cons_ne_nil _ _
    · intro h
      have := congrArg List.length h
      rw [length_partsBetween] at this
      exact absurd this (Nat.succ_ne_zero _)
theorem split_is {x : Str} {c : Nat} {qs : List Str} (hq : qs ≠ []) (hf : ∀ q ∈ qs, c ∉ ts q) (e : ts x = jn [c] (qs.map ts)) : Txt.split x ⟨#[c]⟩ = qs := by
  refine map_ts_inj (jn_inj (c := c) (fun z => split_ne x c (List.map_eq_nil_iff.mp z)) (fun z => hq (List.map_eq_nil_iff.mp z)) ?_ ?_ ?_)
  · intro p hp
    obtain ⟨s, hs, rfl⟩ := List.mem_map.mp hp
    exact StrLaws.split_free x c s hs
  · intro p hp
    obtain ⟨s, hs, rfl⟩ := List.mem_map.mp hp
    exact hf s hs
  · have h := ts_join ⟨#[c]⟩ (Txt.split x ⟨#[c]⟩)
    rw [StrLaws.join_split] at h
    rw [← e, h]
/-- one sign put for another text -/
def rpl (c : Nat) (z : List Nat) (d : Nat) : List Nat := if d = c then z else [d]
theorem rpl_free {c : Nat} {z : List Nat} : ∀ {x : List Nat}, c ∉ x → x.flatMap (rpl c z) = x
  | [], _ => rfl
  | d :: x, h => by
    have hd : d ≠ c := fun e => h (by rw [e]; exact List.mem_cons_self)
    rw [List.flatMap_cons, rpl_free fun e => h (List.mem_cons_of_mem _ e)]
    unfold rpl
    rw [if_neg hd]; rfl
theorem rpl_jn {c : Nat} {z : List Nat} : ∀ {ps : List (List Nat)}, (∀ p ∈ ps, c ∉ p) → (jn [c] ps).flatMap (rpl c z) = jn z ps
  | [], _ => rfl
  | [x], h => rpl_free (h x List.mem_cons_self)
  | x :: y :: r, h => by
    show (x ++ [c] ++ jn [c] (y :: r)).flatMap (rpl c z) = x ++ z ++ jn z (y :: r)
    rw [List.flatMap_append, List.flatMap_append, rpl_free (h x List.mem_cons_self), rpl_jn fun p hp => h p (List.mem_cons_of_mem _ hp)]
    have : [c].flatMap (rpl c z) = z := by simp [rpl]
    rw [this]
theorem replace_is (x z : Str) (c : Nat) : ts (Txt.replace x ⟨#[c]⟩ z) = (ts x).flatMap (rpl c (ts z)) := by
  have h := ts_join ⟨#[c]⟩ (Txt.split x ⟨#[c]⟩)
  rw [StrLaws.join_split] at h
  rw [StrLaws.replace_one, ts_join, h]
  refine (rpl_jn (c := c) fun p hp => ?_).symm
  obtain ⟨s, hs, rfl⟩ := List.mem_map.mp hp
  exact StrLaws.split_free x c s hs
section
variable {X : Cx}
/-- int(text) -/
theorem call_int_str : CallR X (.type "int") (fun xs H Q => ∃ x n, xs = [.str x] ∧ intText? x = some n ∧ x.length ≤ 640 ∧ Q (.int n) H) := by
  intro pins s σ H xs us Q I r h
  obtain ⟨x, n, rfl, hn, hl, q⟩ := h
  obtain ⟨u, rfl, t, rfl⟩ := r.one
  exact PySem.W.KIN.call_text hn hl ⟨.int n, H, I.tok _, ⟨_, rfl⟩, q⟩
/-- rest of a block, a token drawn ahead -/
def PSst (X : Cx) (sts : List Stmt) (t : TS) : Prop :=
  ∀ (pins : List (Addr × Obj)) (s : Shared) (σ : St) (H : Hp) (D : Ends), Inv X pins σ H s → 0 < s.toks → t D σ H → wpAny (model X.prog X.w) X.A (execs sts X.env) (SP X pins D) X.xe s
theorem psst_set {i : Nat} {x : Str} {e : Expr} {te : TE} {pos pos' : Pos} {rest : List Stmt} {u : TS} (hN : X.N.Nodup) (hi : X.N[i]? = some x) (hx : Loc X.env.scope x) (he : PEt X e te) (hr : PSs X rest u) (hs : swapsWith e (some (.Name x pos')) pos.line X.env = pure false := by rfl) (hf : X.fn x = true ∨ X.env.scope.names.lookup x = some .local := by first | exact .inl rfl | exact .inr rfl | assumption) :
    PSst X (.Assign [.Name x pos'] e pos :: rest) (tSeq (tAsg te (gName i)) u) := by
  intro pins s σ H D I h0 h
  refine wpAny_execs_cons (wpAny_Assign_Name (thn (he pins s σ H _ I h0 h) fun v s1 ⟨y, H1, I1, r1, q1⟩ => ?_) hs)
  exact store_ok I1 hN hi hx r1 (fun s2 I2 => hr pins s2 _ H1 D I2 q1) hf
/-- if e == a text written out: return ..; then the rest -/
theorem pss_iflit {a e : Expr} {ta te : TE} {y : Str} {j : Nat} {p1 p2 p3 pos : Pos} {rest : List Stmt} {u : TS} (ha : PE X a ta) (hb : PE X e te) (hr : PSst X rest u) (hm : behindInMarks .Eq (.Constant (.str y) j p1) = false) :
    PSs X (.If (.Compare a [.Eq] [.Constant (.str y) j p1] p2) [.Return (some e) p3] [] pos :: rest) (tSeq (fun D σ H => ta σ H fun v H1 => ∃ z, v = .str z ∧ if z = y then tRet te D σ H1 else D.nx σ H1) u) := by
  intro pins s σ H D I h
  refine wpAny_execs_cons (wpAny_If (wpAny_isTrue_Compare1 (thn (ha pins s σ H _ I h) fun v s1 ⟨x, H1, I1, r1, z, ez, q1⟩ => ?_) hm))
  subst ez
  obtain ⟨tk, rfl⟩ := r1
  refine Calls.Constant_str (eq_str (wpAny_truthy_bool ?_))
  have I2 := I1.tok (s1.toks + 1)
  by_cases e : z = y
  · rw [if_pos e] at q1
    rw [beq_iff_eq.mpr e]
    refine thn (pss_one (ps_ret hb) pins _ σ H1 { D with nx := fun _ _ => False } I2 q1) fun f s2 q => ?_
    cases f with
    | next =>
      obtain ⟨_, _, _, q⟩ := q
      exact q.elim
    | ret v => exact q
    | brk => exact q
    | cont => exact q
  · rw [if_neg e] at q1
    rw [show (z == y) = false from beq_eq_false_iff_ne.mpr e]
    refine wpAny_execs_nil ?_
    exact hr pins _ σ H1 D I2 (Nat.succ_pos _) q1
end
end L2
namespace L2
open PySem PySem.Spec PyProof.Rows
theorem ix_seqC {X : Cx} {K : PySem.W.Frag} (h : X.K = K) : IxR X (rIx K) := by subst h; exact ix_seq
end L2
namespace L2
open PySem PySem.Spec PyProof.Rows
section
variable {X : Cx}
end
end L2
namespace L2
open PySem PySem.Spec PyProof.Rows
section
variable {X : Cx}
end
end L2
namespace L2
open PySem PySem.Builtin PySem.Builtin.Str
abbrev Tk := Nat × List Nat
def mkL : List Nat := [91, 93, 123, 125, 44, 58]
def dbl (x : List Nat) : List Nat := x.flatMap (rpl 39 [39, 39])
theorem dbl_cons (c : Nat) (x : List Nat) : dbl (c :: x) = rpl 39 [39, 39] c ++ dbl x := List.flatMap_cons
theorem dbl_len : ∀ x : List Nat, (dbl x).length ≤ 2 * x.length
  | [] => Nat.le_refl _
  | c :: x => by
    rw [dbl_cons, List.length_append, List.length_cons]
    have := dbl_len x
    have h : (rpl 39 [39, 39] c).length ≤ 2 := by
      unfold rpl
      split
      · exact Nat.le_refl _
      · exact Nat.le_succ _
    omega
def shw (t : Tk) : List Nat := if t.1 = 2 then 39 :: (dbl t.2 ++ [39]) else t.2
def OkTk (t : Tk) : Prop := t.2.length ≤ 100 ∧ ((t.1 = 0 ∧ ∃ s fs, t.2 = s ++ fs ∧ (s = [] ∨ s = [45]) ∧ fs ≠ [] ∧ ∀ c ∈ fs, c ∈ figL) ∨ (t.1 = 1 ∧ ∃ c r, t.2 = c :: r ∧ c ∈ letL ∧ ∀ d ∈ r, d ∈ letL ++ figL) ∨ (t.1 = 2 ∧ ∀ c ∈ t.2, c ∈ sgnL) ∨ (t.1 = 3 ∧ ∃ c, t.2 = [c] ∧ c ∈ mkL))
theorem OkTk.len {t : Tk} (h : OkTk t) : (shw t).length ≤ 202 := by
  have h1 := h.1
  unfold shw
  split
  · have := dbl_len t.2
    rw [List.length_cons, List.length_append]
    simp only [List.length_cons, List.length_nil]
    omega
  · omega
def stk (a b : Tk) : Bool := if b.2.take 1 = [45] ∧ b.1 = 0 then false else if a.1 = 1 then decide (b.1 = 1) || decide (b.1 = 0) else decide (a.1 = b.1) && !decide (a.1 = 3)
def lay : List (Nat × Tk) → List Nat
  | [] => []
  | x :: r => List.replicate x.1 32 ++ (shw x.2 ++ lay r)
def Chn (r : List (Nat × Tk)) : Prop := ∀ i x y, r[i]? = some x → r[i + 1]? = some y → stk x.2 y.2 = true → 0 < y.1
theorem Chn.snoc {r : List (Nat × Tk)} {y : Nat × Tk} (h : Chn r) (hy : ∀ x, r.getLast? = some x → stk x.2 y.2 = true → 0 < y.1) : Chn (r ++ [y]) := by
  intro i a b ha hb hs
  by_cases c : i + 1 < r.length
  · rw [List.getElem?_append_left (by omega)] at ha
    rw [List.getElem?_append_left c] at hb
    exact h i a b ha hb hs
  · have hi : i + 1 = r.length := by
      have := List.getElem?_eq_some_iff.mp hb
      obtain ⟨z, _⟩ := this
      rw [List.length_append] at z
      simp only [List.length_cons, List.length_nil] at z
      omega
    rw [List.getElem?_append_right (by omega), hi, Nat.sub_self] at hb
    have hb : y = b := by simpa using hb
    subst hb
    rw [List.getElem?_append_left (by omega)] at ha
    refine hy a ?_ hs
    rw [List.getLast?_eq_getElem?, ← ha]
    congr 1
    omega
def prts (L : List Nat) (lo : Nat) (occs : List Nat) : List Str := ((lo :: occs.map (· + 2)).zip (occs ++ [L.length])).map fun x => strSub (tx L) x.1 x.2
end L2
namespace L2
open PySem PySem.Spec PyProof.Rows
section
variable {P : Program} {w : World} {A : Around} {s : Shared} {E : Value → Shared → Prop}
end
section
variable {X : Cx}
end
end L2
namespace L2
open PySem PySem.Spec PyProof.Rows PySem.W
/-- kept, but for the frames' slots, and what stands at xs -/
structure Kp (fs xs : List Addr) (h h' : Heap) : Prop where
  keep : ∀ b o, h.get? b = some o → b ∉ fs → b ∉ xs → h'.get? b = some o
  slot : ∀ b o, h.get? b = some o → b ∈ fs → b ∉ xs → ∃ sl, h'.get? b = some { o with slots := sl }
theorem Kp.refl {fs xs : List Addr} {h : Heap} : Kp fs xs h h := ⟨fun _ _ e _ _ => e, fun _ o e _ _ => ⟨o.slots, e⟩⟩
theorem Kp.trans {fs xs ys zs : List Addr} {h h1 h2 : Heap} (a : Kp fs xs h h1) (b : Kp fs ys h1 h2) (hz : ∀ c, c ∈ xs ∨ (c ∈ ys ∧ h.get? c ≠ none) → c ∈ zs) : Kp fs zs h h2 where
  keep c o e hf hx := b.keep c o (a.keep c o e hf fun z => hx (hz c (.inl z))) hf fun z => hx (hz c (.inr ⟨z, by rw [e]; exact fun z => nomatch z⟩))
  slot c o e hf hx := by
    obtain ⟨sl, e1⟩ := a.slot c o e hf fun z => hx (hz c (.inl z))
    obtain ⟨sl2, e2⟩ := b.slot c _ e1 hf fun z => hx (hz c (.inr ⟨z, by rw [e]; exact fun z => nomatch z⟩))
    exact ⟨sl2, e2⟩
theorem fun_kp {base h h' : Heap} {fs xs : List Addr} (k : Kp fs xs h h') : ∀ {l : List Env}, (∀ b ∈ frs l, b ∈ fs ∧ b ∉ xs) → h.FunFrames base l → h'.FunFrames base l
  | [], _, _ => by rw [Heap.FunFrames.eq_1]; exact True.intro
  | env :: l, hm, hf => by
    rw [Heap.FunFrames.eq_2] at hf ⊢
    obtain ⟨a, ⟨L, o, e1, e2, e3, e4⟩, r⟩ := hf
    have hL : L ∈ frs (env :: l) := by unfold frs; rw [List.filterMap_cons, e1]; exact List.mem_cons_self
    obtain ⟨sl, e5⟩ := k.slot L o e3 (hm L hL).1 (hm L hL).2
    exact ⟨a, ⟨L, _, e1, e2, e5, e4⟩, fun_kp k (fun b hb => hm b (by unfold frs; rw [List.filterMap_cons, e1]; exact List.mem_cons_of_mem _ hb)) r⟩
/-- an exception at x, of class C, with its dict d, traced by T -/
def Fl (h : Heap) (x T : Addr) (C : Value) (d : Option Addr) (a0 fl : Value) : Prop := ∃ (oe : Obj) (vs : Array Value) (oT : Obj) (ts : Array Value), h.get? x = some oe ∧ oe.cls = C ∧ oe.dict = d ∧ oe.data = .fields vs ∧ vs[0]? = some a0 ∧ vs[1]? = some (.ref T) ∧ T ≠ x ∧ h.get? T = some oT ∧ oT.data = .fields ts ∧ ts[3]? = some fl
theorem mf_eq {o : Obj} {vs : Array Value} (h : o.data = .fields vs) (f : Array Value → Array Value) : Obj.mapFields f o = { o with data := .fields (f vs) } := by
  obtain ⟨c, d, da, sl⟩ := o
  cases h
  rfl
section
variable {M : Model} {A : Around} {E : Value → Shared → Prop} {s : Shared} {env : Env} {outer : List Env} {x T L : Addr} {C a0 fl : Value} {d : Option Addr} {base : Heap} {Q : Unit → Shared → Prop}
theorem up_get {h : Heap} {a : Addr} {o : Obj} {vs : Array Value} (e : h.get? a = some o) (hd : o.data = .fields vs) (i : Nat) (v : Value) : (h.update a (Obj.mapFields fun xs => xs.setIfInBounds i v)).get? a = some { o with data := .fields (vs.setIfInBounds i v) } := by
  rw [← mf_eq hd (fun xs => xs.setIfInBounds i v)]
  exact Heap.get?_update_self _ e (by rw [mf_eq hd]; rfl)
/-- its trace is told to be in no frame -/
theorem flight_none (F : Fl s.heap x T C d a0 fl) (q : ∀ h', Fl h' x T C d a0 .none → Kp [] [T] s.heap h' → Q () { s with heap := h' }) : wpAny M A (setFlight (.ref x) none) Q E s := by
  obtain ⟨oe, vs, oT, ts, e1, e2, e3, e4, e5, e6, e7, e8, e9, e10⟩ := F
  unfold setFlight
  refine wpAny_bind (wpAny_field e1 e4 e6 ?_)
  rw [if_pos (by rfl)]
  have hsz : 3 < ts.size := by
    obtain ⟨z, _⟩ := Array.getElem?_eq_some_iff.mp e10
    exact z
  refine wpAny_setField e8 e9 hsz ?_
  have hT := up_get e8 e9 3 .none
  refine q _ ⟨oe, vs, _, _, (Heap.get?_update_other _ _ e7).trans e1, e2, e3, e4, e5, e6, e7, hT, rfl, ?_⟩ ⟨fun b o e _ hb => (Heap.get?_update_other _ _ fun z => hb (by rw [z]; exact List.mem_cons_self)).trans e, fun b o e hb => nomatch hb⟩
  show (ts.setIfInBounds 3 Value.none)[3]? = some Value.none
  rw [Array.getElem?_setIfInBounds_self_of_lt hsz]
theorem tail_x {oe : Obj} {vs : Array Value} {head : Value} {b : Bool} (hfr : A.frames = some (env :: outer)) (hfu : s.heap.FunFrames base (env :: outer)) (hL : env.frame = some L) (e1 : s.heap.get? x = some oe) (hx : x ∉ frs (env :: outer)) (e4 : oe.data = .fields vs) (e5 : vs[0]? = some a0) (hs : 1 < vs.size)
    (q : ∀ h' T', Fl h' x T' oe.cls oe.dict a0 (rawInt L) → Kp (frs (env :: outer)) [x] s.heap h' → s.heap.get? T' = none → Q () { s with heap := h' }) :
    wpAny M A (do
      let a ← PySem.frameOf env
      let pl ← entryPlaceOf L b
      let b ← EntryCells.newEntry head a .none (rawInt L) .none pl
      setField (.ref x) 1 b) Q E s := by
  refine wpAny_bind (wpAny_frameOf_fun hfr hfu hL fun h1 so => ?_)
  refine wpAny_bind (wpAny_entryPlaceOf fun pl hpl => ?_)
  refine wpAny_bind ?_
  unfold EntryCells.newEntry newFields
  have hpz : (([head, Value.ref L, Value.none, rawInt L, Value.none] ++ if pl.isEmpty = true then List.replicate 6 Value.none else pl).toArray).size ≤ sizeLine + 2 := by
    have : (if pl.isEmpty = true then List.replicate 6 Value.none else pl).length ≤ 6 := by
      rcases hpl with rfl | ⟨a, b, c, d, c9, b10, _, rfl⟩ <;> simp
    rw [List.size_toArray, List.length_append, sizeLine_eq]
    simp only [List.length_cons, List.length_nil]
    omega
  refine wpAny_newObj_type ?_ hpz
  obtain ⟨z1, z2, z3⟩ := so
  have x1 : h1.get? x = some oe := by rw [z2 x hx]; exact e1
  have hlt : x < h1.objs.size := Heap.lt_size x1
  refine wpAny_setField (Heap.get?_push_of_some _ x1) e4 hs ?_
  have hnew : h1.objs.size ≠ x := Nat.ne_of_gt hlt
  have hx2 := up_get (Heap.get?_push_of_some (o := { cls := .type "traceback", data := .fields ([head, Value.ref L, Value.none, rawInt L, Value.none] ++ if pl.isEmpty = true then List.replicate 6 Value.none else pl).toArray }) (h := h1) x1) e4 1 (.ref h1.objs.size)
  refine q _ h1.objs.size ⟨_, _, _, _, hx2, rfl, rfl, rfl, ?_, ?_, hnew, (Heap.get?_update_other _ _ (Ne.symm hnew)).trans (Heap.get?_push_size _ rfl), rfl, ?_⟩ ⟨fun b o e hb hb2 => ?_, fun b o e hb hb2 => ?_⟩ ?_
  · rw [Array.getElem?_setIfInBounds_ne (by decide)]; exact e5
  · rw [Array.getElem?_setIfInBounds_self_of_lt hs]
  · simp
  · refine (Heap.get?_update_other _ _ fun z => hb2 (by rw [z]; exact List.mem_cons_self)).trans (Heap.get?_push_of_some _ ?_)
    rw [z2 b hb]; exact e
  · obtain ⟨sl, e'⟩ := z3 b o e
    exact ⟨sl, (Heap.get?_update_other _ _ fun z => hb2 (by rw [z]; exact List.mem_cons_self)).trans (Heap.get?_push_of_some _ e')⟩
  · rw [z1]
    exact Heap.get?_none_of_le (Nat.le_refl _)
/-- a new exception is noted in the frame -/
theorem note_new {oe : Obj} {vs : Array Value} (hfr : A.frames = some (env :: outer)) (hfu : s.heap.FunFrames base (env :: outer)) (hL : env.frame = some L) (e1 : s.heap.get? x = some oe) (hx : x ∉ frs (env :: outer)) (e4 : oe.data = .fields vs) (e5 : vs[0]? = some a0) (e6 : vs[1]? = some .none)
    (q : ∀ h' T', Fl h' x T' oe.cls oe.dict a0 (rawInt L) → Kp (frs (env :: outer)) [x] s.heap h' → s.heap.get? T' = none → Q () { s with heap := h' }) : wpAny M A (noteFrame (.ref x) env) Q E s := by
  have hs : 1 < vs.size := by
    obtain ⟨z, _⟩ := Array.getElem?_eq_some_iff.mp e6
    exact z
  unfold noteFrame
  rw [hL]
  refine wpAny_bind (wpAny_field e1 e4 e6 ?_)
  exact tail_x hfr hfu hL e1 hx e4 e5 hs q
/-- one that flies is noted in a frame further out -/
theorem note_on (hfr : A.frames = some (env :: outer)) (hfu : s.heap.FunFrames base (env :: outer)) (hL : env.frame = some L) (hx : x ∉ frs (env :: outer)) (hT : T ∉ frs (env :: outer)) (F : Fl s.heap x T C d a0 .none)
    (q : ∀ h' T', Fl h' x T' C d a0 (rawInt L) → Kp (frs (env :: outer)) [x, T] s.heap h' → s.heap.get? T' = none → Q () { s with heap := h' }) : wpAny M A (noteFrame (.ref x) env) Q E s := by
  obtain ⟨oe, vs, oT, ts, e1, e2, e3, e4, e5, e6, e7, e8, e9, e10⟩ := F
  have hs : 1 < vs.size := by
    obtain ⟨z, _⟩ := Array.getElem?_eq_some_iff.mp e6
    exact z
  have hsz : 3 < ts.size := by
    obtain ⟨z, _⟩ := Array.getElem?_eq_some_iff.mp e10
    exact z
  unfold noteFrame
  rw [hL]
  refine wpAny_bind (wpAny_field e1 e4 e6 ?_)
  rw [if_pos (by rfl)]
  refine wpAny_bind (wpAny_field e8 e9 e10 ?_)
  rw [if_neg (by intro z; cases (eq_of_beq z))]
  refine wpAny_bind (wpAny_setField e8 e9 hsz ?_)
  have k1 : Kp (frs (env :: outer)) [T] s.heap (s.heap.update T (Obj.mapFields fun x => x.setIfInBounds 3 Value.none)) := ⟨fun b o e _ hb => (Heap.get?_update_other _ _ fun z => hb (by rw [z]; exact List.mem_cons_self)).trans e, fun b o e hb hb2 => ⟨o.slots, (Heap.get?_update_other _ _ fun z => hb2 (by rw [z]; exact List.mem_cons_self)).trans e⟩⟩
  have hfu2 : (s.heap.update T (Obj.mapFields fun x => x.setIfInBounds 3 Value.none)).FunFrames base (env :: outer) := fun_kp k1 (fun b hb => ⟨hb, fun z => hT (by rw [← List.mem_singleton.mp z]; exact hb)⟩) hfu
  have x2 : (s.heap.update T (Obj.mapFields fun x => x.setIfInBounds 3 Value.none)).get? x = some oe := (Heap.get?_update_other _ _ e7).trans e1
  have q' := tail_x (E := E) (M := M) (A := A) (head := .ref T) (b := true) (s := { s with heap := s.heap.update T (Obj.mapFields fun x => x.setIfInBounds 3 Value.none) }) (Q := Q) hfr hfu2 hL x2 hx e4 e5 hs
  rw [e2, e3] at q'
  refine q' fun h' T' f k n => q h' T' f (k1.trans k fun c hc => ?_) ?_
  · rcases hc with z | z
    · rw [List.mem_singleton.mp z]; simp
    · rw [List.mem_singleton.mp z.1]; simp
  · cases e : s.heap.get? T' with
    | none => rfl
    | some o =>
      by_cases z : T' = T
      · subst z
        rw [up_get e8 e9] at n; cases n
      · have := k1.keep
        rw [(Heap.get?_update_other s.heap _ (Ne.symm z)).trans e] at n; cases n
end
section
variable {X : Cx} {pins : List (Addr × Obj)} {σ : St} {H H' : Hp} {s s' : Shared}
theorem ObjOk.got {P : Program} {w : World} {h : Heap} {a : Addr} {o : HO} (x : ObjOk P w H h a o) : ∃ ob, h.get? a = some ob := by
  induction o with
  | lst xs => obtain ⟨_, its, n, _, e⟩ := x; exact ⟨_, e⟩
  | tup xs => obtain ⟨_, its, _, ob, e, _⟩ := x; exact ⟨_, e⟩
  | dK kvs => obtain ⟨_, _, vs, _, ob, es, ep, e, _⟩ := x; exact ⟨_, e⟩
  | dT kvs => obtain ⟨_, _, xs, _, ob, es, ep, e, _⟩ := x; exact ⟨_, e⟩
  | set S n => obtain ⟨ob, es, ep, t, e, _⟩ := x; exact ⟨_, e⟩
  | ins C dx fs => obtain ⟨_, _, _, e, _⟩ := x; exact ⟨_, e⟩
  | own y => exact x
  | xd fs => obtain ⟨mA, ⟨od, es, ep, e, _⟩, _⟩ := x; exact ⟨_, e⟩
  | rng lo hi => obtain ⟨t, u, v, e⟩ := x; exact ⟨_, e⟩
  | frz ob u ih => exact ⟨_, x.1⟩
  | tbl ps => exact ⟨_, (show h.get? a = some _ from x)⟩
  | met f y => exact ⟨_, (show h.get? a = some _ from x)⟩
  | ext φ => exact x.2.1
/-- no frame lies in what is hidden from -/
theorem fr_data {B h : Heap} : ∀ {l : List Env}, h.FunFrames B l → ∀ b ∈ frs l, ∃ o, h.get? b = some o ∧ ∀ vs : Array Value, o.data ≠ .fields vs
  | [], _, b, hb => nomatch hb
  | env :: l, hf, b, hb => by
    rw [Heap.FunFrames.eq_2] at hf
    obtain ⟨_, ⟨L, o, e1, _, e3, e4⟩, r⟩ := hf
    unfold frs at hb
    rw [List.filterMap_cons, e1] at hb
    rcases List.mem_cons.mp hb with z | z
    · rw [z]; exact ⟨o, e3, e4⟩
    · exact fr_data r b z
/-- how an exception lies behind a call: at x, of class C, with its dict at d -/
def CXE (P : Program) (w : World) : CXT := fun outer H s E e s' => ∃ (x T : Addr) (C : Value) (d : Option Addr) (a0 : Value) (H' : Hp), e = .ref x ∧ s'.os = s.os ∧ AllBare s'.gens ∧ Un (frs outer) [] H H' s.heap s'.heap ∧ HOk P w H' s'.heap ∧
  s.heap.get? x = none ∧ s.heap.get? T = none ∧ H' x = none ∧ H' T = none ∧ Fl s'.heap x T C d a0 .none ∧ E C d H'
/-- a heap that differs by the frames' slots, the exception and its traces alone -/
theorem un_kp {fs xs : List Addr} {H0 H' : Hp} {h0 h h' : Heap} (u : Un fs [] H0 H' h0 h) (k : Kp fs xs h h') (h1 : ∀ b ∈ xs, h0.get? b = none) : Un fs [] H0 H' h0 h' where
  keep b o e n hf hx := k.keep b o (u.keep b o e n hf hx) hf fun z => by rw [h1 b z] at e; cases e
  slot b o e n hf hx := by
    obtain ⟨sl, e1⟩ := u.slot b o e n hf hx
    obtain ⟨sl2, e2⟩ := k.slot b _ e1 hf fun z => by rw [h1 b z] at e; cases e
    exact ⟨sl2, e2⟩
  free b o e n hx := u.free b o e n hx
  there b o e hx := by
    obtain ⟨o', e'⟩ := u.there b o e hx
    have nx : b ∉ xs := fun z => by rw [h1 b z] at e; cases e
    by_cases hf : b ∈ fs
    · obtain ⟨sl2, e2⟩ := k.slot b _ e' hf nx
      exact ⟨_, e2⟩
    · exact ⟨o', k.keep b o' e' hf nx⟩
  tups := u.tups
  frzs := u.frzs
  tbls := u.tbls
theorem hok_kp {P : Program} {w : World} {H : Hp} {fs xs : List Addr} {h h' : Heap} (x : HOk P w H h) (k : Kp fs xs h h') (hf : ∀ b ∈ fs, H b = none) (hx : ∀ b ∈ xs, H b = none) : HOk P w H h' := fun a o e =>
  (x a o e).stay (fun b u hb q => by
    have hn : H b ≠ none := by
      rcases hb with z | z
      · rw [z, e]; exact fun z => nomatch z
      · rw [z]; exact fun z => nomatch z
    exact k.keep b u q (fun z => hn (hf b z)) fun z => hn (hx b z)) (fun _ q => q) fun _ _ q => q
theorem kp_mono {fs fs' xs : List Addr} {h h' : Heap} (k : Kp fs xs h h') (hm : ∀ b, b ∈ fs → b ∈ fs' ∨ b ∈ xs) : Kp fs' xs h h' where
  keep b o e hf hx := k.keep b o e (fun z => (hm b z).elim hf hx) hx
  slot b o e hf hx := by
    by_cases z : b ∈ fs
    · exact k.slot b o e z hx
    · exact ⟨o.slots, k.keep b o e z hx⟩
end
end L2
namespace L2
open PySem PySem.Spec PyProof.Rows PySem.W
/-- the class of an own exception, as it lies -/
def XObj (nm : Str) (C N : Addr) (bm : List Value) (o : Obj) : Prop := ∃ (q : Str) (bs : List Value) (hdct : Bool) (sn : List Str) (sub : List Value) (ab : Bool) (col : Option Bool) (dd : Option Addr) (k0 k1 k2 k3 k5 : Option Value), o = excClassObj nm q C N bs bm hdct sn sub ab col dd k0 k1 k2 k3 k5 "ValueError.__new__"
section
variable {M : Model} {A : Around} {E : Value → Shared → Prop} {s : Shared} {env : Env}
/-- raise x, x an instance of an own exception class -/
theorem raise_inst {nm : Str} {C N : Addr} {bm : List Value} {x : Sem Value} {Q : Flow → Shared → Prop} (hb : bm.contains (.type "BaseException") = true) (hh : A.handled = none)
    (h : wpAny M A x (fun v s1 => ∃ (e : Addr) (oe oC : Obj) (vs : Array Value), v = .ref e ∧ s1.heap.get? C = some oC ∧ XObj nm C N bm oC ∧ s1.heap.get? e = some oe ∧ oe.cls = .ref C ∧ oe.data = .fields vs ∧ vs[1]? = some .none ∧ E (.ref e) s1) E s) :
    wpAny M A (raiseStmt env (some x) none) Q E s := by
  unfold raiseStmt
  refine wpAny_bind (thn h fun v s1 ⟨e, oe, oC, vs, ev, hC, hX, he, hcl, hd, h1, q⟩ => ?_)
  subst ev
  obtain ⟨q', bs, hdct, sn, sub, ab, col, dd, k0, k1, k2, k3, k5, rfl⟩ := hX
  have hnc : ∀ c : ClassData, oe.data ≠ .cls c := fun c z => by rw [hd] at z; cases z
  refine wpAny_bind (wpAny_pure ?_)
  refine wpAny_bind (wpAny_holding ?_)
  unfold excFromValue isExcClass
  refine wpAny_bind (wpAny_bind (ks_wpAny_isType_inst he hnc ?_))
  rw [if_neg Bool.false_ne_true]
  refine wpAny_pure ?_
  rw [if_neg Bool.false_ne_true]
  unfold PySem.isInstance
  refine wpAny_bind (wpAny_bind (wpAny_typeOf_ref he ?_))
  rw [hcl]
  refine wpAny_isSubtype_exc hC ?_
  rw [show (Value.ref C :: bm).contains (Value.type "BaseException") = true by
    rw [List.contains_cons, hb, Bool.or_true], if_pos rfl]
  refine wpAny_pure ?_
  refine wpAny_bind (ks_wpAny_isType_inst he hnc ?_)
  rw [if_neg Bool.false_ne_true]
  unfold raisedInstance
  refine wpAny_bind (wpAny_bind (wpAny_typeOf_ref he ?_))
  rw [hcl]
  refine wpAny_bind (wpAny_typeOf_ref hC ?_)
  rw [if_pos (by rfl)]
  refine wpAny_pure ?_
  refine wpAny_bind ?_
  unfold setFlight
  refine wpAny_bind (wpAny_field he hd h1 ?_)
  rw [if_neg (by intro z; cases z)]
  refine wpAny_pure ?_
  exact wpAny_raiseNew_none hh q
end
end L2
namespace L2
open PySem PySem.Spec PyProof.Rows PySem.W
abbrev veMro : List Value := [.type "ValueError", .type "Exception", .type "BaseException", .type "object"]
section
variable {prog : Program} {w : World} {A : Around} {K : Frag} {C fI N : Addr} {nm : Str} {bm : List Value} {o : Obj}
end
end L2
namespace L2
open PySem PySem.Spec PyProof.Rows PySem.W PySem.Builtin PySem.Builtin.ObjectAttr
section
variable {prog : Program} {w : World} {A : Around} {K : Frag} {C B x : Addr} {cd : ClassData} {ox : Obj} {name : Str} {v : Value}
end
end L2
namespace L2
open PySem PySem.Spec PyProof.Rows PySem.W
/-- the facts of an own class of exceptions with an __init__, below B, which is below ValueError -/
structure XCls (K : Frag) (nm : Str) (C B fI : Addr) : Prop where
  obj : ∃ (N : Addr) (o : Obj), K.lookup C = some o ∧ XObj nm C N (.ref B :: veMro) o
  cd : ∃ cd, clsIn K C = some cd ∧ cd.mro = .ref C :: .ref B :: veMro ∧ cd.hasDict = true
  tl : tailIn K veMro (.ref B :: veMro) = true
  init : findIn K (.ref C) "__init__" = some (some (.ref fI))
  fn : typeIn K (.ref fI) = some (.type "function")
  set : findIn K (.ref C) "__setattr__" = some (some (.builtin "object.__setattr__"))
  at_ : findIn K (.ref C) "at" = some none
  kp : keepIn K (.ref C) = true
structure XBase (K : Frag) (B : Addr) : Prop where
  sp : specialIn K (.ref B) "__getattribute__" = some (some (.builtin "type.__getattribute__"))
  rd : readsIn K B (.type "type") = true
  init : findCls K (.ref B) (.type "type") "__init__" = some (.val (.builtin "ValueError.__init__"))
/-- an exception that is made: its class, its dict -/
def exO (x C : Addr) (d : Option Addr) : HO := .ext fun h => ∃ vs : Array Value, h.get? x = some { cls := .ref C, dict := d, data := .fields vs } ∧ vs.size = 6 ∧ vs[1]? = some .none
theorem exO_ok {P : Program} {w : World} {H : Hp} {h : Heap} {x C : Addr} {d : Option Addr} {vs : Array Value} (e : h.get? x = some { cls := .ref C, dict := d, data := .fields vs }) (h6 : vs.size = 6) (h1 : vs[1]? = some .none) : ObjOk P w H h x (exO x C d) :=
  ⟨⟨vs, e, h6, h1⟩, ⟨_, e⟩, fun _ _ ⟨vs, e, a, b⟩ k => ⟨vs, k _ e, a, b⟩⟩
theorem Un.also {fs ex : List Addr} {H H1 : Hp} {h h' : Heap} {a : Addr} {o : HO} (u : Un fs ex H H1 h h') (hp : h.objs.size ≤ a) (hn : H a = none) : Un fs ex H (upd H1 a o) h h' where
  keep := u.keep
  slot := u.slot
  free := fun b ob q n hx => by rw [upd_ne (Nat.ne_of_lt (Nat.lt_of_lt_of_le (Heap.lt_size q) hp))]; exact u.free b ob q n hx
  there := u.there
  tups := fun b xs q => by rw [upd_ne (ne_of_none q hn)]; exact u.tups b xs q
  frzs := fun b ob xs q => by rw [upd_ne (ne_of_none q hn)]; exact u.frzs b ob xs q
  tbls := fun b ps q => by rw [upd_ne (ne_of_none q hn)]; exact u.tbls b ps q
theorem HOk.also {P : Program} {w : World} {H : Hp} {h : Heap} {a : Addr} {o : HO} (x : HOk P w H h) (hn : H a = none) (new : ObjOk P w (upd H a o) h a o) : HOk P w (upd H a o) h := fun b u e => by
  by_cases hb : b = a
  · subst hb; rw [upd_same] at e; cases e; exact new
  · rw [upd_ne hb] at e
    exact (x b u e).stay (fun c v _ q => q) (fun c q => by rw [upd_ne (ne_of_none q hn)]; exact q) fun c xs q => by rw [upd_ne (ne_of_none q hn)]; exact q
section
variable {X : Cx} {pins : List (Addr × Obj)} {σ : St} {H : Hp} {s : Shared} {x C B fI : Addr} {nm : Str} {d : Option Addr}
theorem exO_is (I : Inv X pins σ H s) (h : H x = some (exO x C d)) : ∃ vs : Array Value, s.heap.get? x = some { cls := .ref C, dict := d, data := .fields vs } ∧ vs.size = 6 ∧ vs[1]? = some .none := (I.hok x _ h).1
end
end L2
namespace L2
open PySem PySem.Spec PyProof.Rows PySem.W
section
variable {X : Cx} {C B fI : Addr} {nm : Str}
/-- what BadText.__init__ promises -/
def spXInit (C : Addr) : Sp := fun vs H Q _ => ∃ x v0 v, vs = [.ref x, v0, v] ∧ H x = some (exO x C none) ∧ ∀ d, H d = none → Q .non (upd (upd H x (exO x C (some d))) d (.xd [("at", v)]))
end
section
variable {X : Cx} {pins : List (Addr × Obj)} {σ : St} {H : Hp} {s : Shared} {x C : Addr} {d : Option Addr}
def drp (H : Hp) (x : Addr) : Hp := fun b => if b = x then none else H b
theorem drp_ne {b : Addr} (h : b ≠ x) : drp H x b = H b := if_neg h
theorem drp_at : drp H x x = none := if_pos rfl
/-- the frame is left by a new exception -/
theorem leave_new {E : XK} {EE : Value → Shared → Prop} (I : Inv X pins σ H s) (hs : X.stack = X.env :: X.outer) (hf : X.env.frame = some X.env.locals) (hex : X.ex = []) (hH : H x = some (exO x C d)) (hx0 : X.s₀.heap.get? x = none) (q : E (.ref C) d (drp H x)) :
    wpAny (model X.prog X.w) X.A (leaving X.env (.ref x)) (fun _ s3 => CXE X.prog X.w X.outer X.H₀ X.s₀ E (.ref x) s3) EE s := by
  obtain ⟨vs, he, h6, h1⟩ := exO_is I hH
  obtain ⟨a0, h0⟩ : ∃ a0, vs[0]? = some a0 := ⟨_, Array.getElem?_eq_some_iff.mpr ⟨by omega, rfl⟩⟩
  have hfs : frs X.stack = X.env.locals :: X.fs := by
    rw [hs]; unfold frs; rw [List.filterMap_cons, hf]; rfl
  have hloc : X.s₀.heap.get? X.env.locals = none := Heap.get?_none_of_le I.ok.above
  have hfr := I.ok.frames
  rw [hs] at hfr
  have nx : x ∉ frs X.stack := fun z => by
    have := I.stkFree x z
    rw [hH] at this; cases this
  have st := I.stack
  have nx' := nx
  rw [hs] at nx' st
  unfold leaving
  refine wpAny_bind (note_new hfr st hf he nx' rfl h0 h1 fun h1 T1 f1 k1 n1 => ?_)
  refine flight_none f1 fun h2 f2 k2 => ?_
  rw [← hs] at k1
  have hbase := I.base
  rw [hex] at hbase
  have hT1H : H T1 = none := by
    cases e : H T1 with
    | none => rfl
    | some o =>
      obtain ⟨ob, hob⟩ := ObjOk.got (I.hok T1 o e)
      rw [n1] at hob; cases hob
  have hT1o : X.s₀.heap.get? T1 = none := by
    cases e : X.s₀.heap.get? T1 with
    | none => rfl
    | some o =>
      obtain ⟨o', e'⟩ := hbase.there T1 o e (fun z => nomatch z)
      rw [n1] at e'; cases e'
  have k3 : Kp (frs X.stack) [x, T1] s.heap h2 := k1.trans (kp_mono k2 fun b hb => nomatch hb) fun c hc => by
    rcases hc with z | z
    · rw [List.mem_singleton.mp z]; simp
    · rw [List.mem_singleton.mp z.1]; simp
  have k4 : Kp X.fs [x, T1, X.env.locals] s.heap h2 := by
    have k5 : Kp (frs X.stack) [x, T1, X.env.locals] s.heap h2 := k3.trans Kp.refl (ys := []) fun c hc => by
      rcases hc with z | z
      · rcases List.mem_cons.mp z with z | z
        · rw [z]; simp
        · rw [List.mem_singleton.mp z]; simp
      · exact nomatch z.1
    refine kp_mono k5 fun b hb => ?_
    rw [hfs] at hb
    rcases List.mem_cons.mp hb with z | z
    · rw [z]; exact .inr (by simp)
    · exact .inl z
  have u1 : Un X.fs [] X.H₀ H X.s₀.heap h2 := un_kp hbase k4 fun b hb => by
    rcases List.mem_cons.mp hb with z | z
    · rw [z]; exact hx0
    · rcases List.mem_cons.mp z with z | z
      · rw [z]; exact hT1o
      · rw [List.mem_singleton.mp z]; exact hloc
  have ne : ∀ b o, H b = some o → (∀ φ, o ≠ .ext φ) → b ≠ x := fun b o e n z => by
    subst z
    rw [hH] at e
    exact n _ (Option.some.inj e).symm
  have u2 : Un X.fs [] X.H₀ (drp H x) X.s₀.heap h2 := ⟨u1.keep, u1.slot, fun b ob e n hx => by
      rw [drp_ne (fun z => by subst z; rw [hx0] at e; cases e)]; exact u1.free b ob e n hx, u1.there,
    fun b xs e => by have z := u1.tups b xs e; rw [drp_ne (ne b _ z fun _ y => nomatch y)]; exact z,
    fun b ob xs e => by have z := u1.frzs b ob xs e; rw [drp_ne (ne b _ z fun _ y => nomatch y)]; exact z,
    fun b ps e => by obtain ⟨m, z⟩ := u1.tbls b ps e; exact ⟨m, by rw [drp_ne (ne b _ z fun _ y => nomatch y)]; exact z⟩⟩
  have ok1 : HOk X.prog X.w (drp H x) s.heap := fun b o e => by
    by_cases z : b = x
    · subst z; rw [drp_at] at e; cases e
    · rw [drp_ne z] at e
      exact (I.hok b o e).stay (fun _ _ _ q => q) (fun c q => by rw [drp_ne (ne c _ q fun _ y => nomatch y)]; exact q) fun c xs q => by rw [drp_ne (ne c _ q fun _ y => nomatch y)]; exact q
  have dn : ∀ b, H b = none → drp H x b = none := fun b e => by
    unfold drp
    split
    · rfl
    · exact e
  refine ⟨x, T1, .ref C, d, a0, drp H x, rfl, I.os, I.bare, u2, hok_kp ok1 k3 (fun b hb => dn b (I.stkFree b hb)) fun b hb => ?_, hx0, hT1o, drp_at, dn _ hT1H, f2, q⟩
  rcases List.mem_cons.mp hb with z | z
  · rw [z]; exact drp_at
  · rw [List.mem_singleton.mp z]; exact dn _ hT1H
end
end L2
namespace L2
open PySem PySem.Spec PyProof.Rows PySem.W
section
variable {X : Cx} {C B fI : Addr} {nm : Str} {k : Nat} {fd : FuncData} {ps : List Str}
/-- the class and its __init__, as a bundle -/
structure Xr (P : Program) (w : World) (K : Frag) (mg : Str → Option Value) (base : Heap) (k : Nat) (cn : Str) (C : Addr) : Prop where
  ex : ∃ (nm : Str) (B fI : Addr) (fd : FuncData) (ps : List Str), XCls K nm C B fI ∧ FnOk P w K mg base CX0 k fI fd ps (spXInit C) ∧ Binds K fd ps [] ∧ mg cn = some (.ref C)
/-- what the context of a def wants of an exception -/
def Lvs (X : Cx) (E : XK) : Prop := X.stack = X.env :: X.outer ∧ X.env.frame = some X.env.locals ∧ X.ex = [] ∧ ∀ e s', wpAny (model X.prog X.w) X.A (leaving X.env e) (fun _ s3 => CXE X.prog X.w X.outer X.H₀ X.s₀ E e s3) (fun e' s3 => CXE X.prog X.w X.outer X.H₀ X.s₀ E e' s3) s' → X.xe e s'
end
structure Dx (P : Program) (w : World) (K : PySem.W.Frag) (mg : Str → Option Value) (base : Heap) (k : Nat) (x : Str) (ps : List Str) (sp : Sp) : Prop where
  ex : ∃ (f : Addr) (fd : FuncData), FnOk P w K mg base (CXE P w) k f fd ps sp ∧ Binds K fd ps [] ∧ PySem.W.keepIn K (.ref f) = true ∧ mg x = some (.ref f)
section
variable {X : Cx} {k j : Nat} {x : Str} {ps : List Str} {sp : Sp} {e : Expr} {es : List Expr} {t : TA} {p pos : Pos} {E : XK}
end
section
variable {P : Program} {w : World} {K : PySem.W.Frag} {mg : Str → Option Value} {base : Heap} {k : Nat} {f : Addr} {fd : FuncData} {ps : List Str} {sp sp' : Sp} {CX : CXT}
theorem FnOk.or (F : FnOk P w K mg base CX k f fd ps sp) (G : FnOk P w K mg base CX k f fd ps sp') : FnOk P w K mg base CX k f fd ps fun vs H Q E => sp vs H Q E ∨ sp' vs H Q E :=
  ⟨fun vs H Q E h => h.elim (F.len vs H Q E) (G.len vs H Q E), fun A outer s H args us vs Q E hr he hb hv hs => hs.elim (F.run A outer s H args us vs Q E hr he hb hv) (G.run A outer s H args us vs Q E hr he hb hv)⟩
/-- THE RULE for a def that raises -/
theorem Fun.okx {x qual : Str} {st : Stmt} {N : List Str} (F : Fun K x qual st f fd) (S : FnScope N ps (defScope st)) (len : ∀ vs H Q E, sp vs H Q E → vs.length = ps.length)
    (hbody : ∀ (cdv : Value) (A : Around) (outer : List Env) (s : Shared) (H : Hp) (vs : List V) (Q : VK) (E : XK), Room k (A.deeper (envOfC qual (defScope st) s.heap.objs.size f cdv)) → sp vs H Q E →
      ∃ t, PSs (cxOf (CXE P w) P w K mg base N qual (defScope st) f cdv A outer s H E) (defBody st) t ∧ t { nx := fun _ H' => Q .non H', rt := Q } (start N vs) H) : FnOk P w K mg base (CXE P w) (k + 1) f fd ps sp := by
  obtain ⟨oc, od, kV, doc, pm, an, cdv, ct, osl, rfl, lk, hcd⟩ := F.ex
  exact fn_of lk hcd S len fun A outer s H vs Q E hr hsp => hbody cdv A outer s H vs Q E hr hsp
theorem lvs {N : List Str} {qual : Str} {scope : Scope} {cd : Value} {A : Around} {outer : List Env} {s : Shared} {H : Hp} {E : XK} : Lvs (cxOf (CXE P w) P w K mg base N qual scope f cd A outer s H E) E := ⟨rfl, rfl, rfl, fun _ _ h => h⟩
end
end L2
namespace L2
open PySem PySem.Spec PyProof.Rows PySem.W PySem.Builtin PySem.Builtin.ObjectAttr
/-- what reading of an own exception asks of its class -/
structure XGet (K : Frag) (C : Addr) : Prop where
  ga : findIn K (.ref C) "__getattribute__" = some (some (.builtin "BaseException.__getattribute__"))
  gt : findIn K (.ref C) "__getattr__" = some none
  bx : mroIn K C (.type "BaseException") = some true
  ob : mroIn K C (.type "object") = some true
  hd : hasDictIn K C = true
  cl : findIn K (.ref C) "__class__" = some (some (.builtin "object.__class__"))
  cg : specialIn K (.builtin "object.__class__") "__get__" = some (some (.builtin "getset_descriptor.__get__"))
  ct : takesIn K (.builtin "object.__class__") = some true
section
variable {prog : Program} {w : World} {A : Around} {K : Frag} {C x : Addr} {ox od : Obj} {name : Str} {E : Value → Shared → Prop} {s : Shared}
end
end L2
namespace L2
open PySem PySem.Spec PyProof.Rows PySem.W
def exF (x C : Addr) (d : Option Addr) : HO := .ext fun h => ∃ (ob : Obj) (vs : Array Value), h.get? x = some ob ∧ ob.cls = .ref C ∧ ob.dict = d ∧ ob.data = .fields vs
theorem exF_ok {P : Program} {w : World} {H : Hp} {h : Heap} {x C : Addr} {d : Option Addr} {ob : Obj} {vs : Array Value} (e : h.get? x = some ob) (h1 : ob.cls = .ref C) (h2 : ob.dict = d) (h3 : ob.data = .fields vs) : ObjOk P w H h x (exF x C d) :=
  ⟨⟨ob, vs, e, h1, h2, h3⟩, ⟨_, e⟩, fun _ _ ⟨ob, vs, e, a⟩ k => ⟨ob, vs, k _ e, a⟩⟩
abbrev Cx.mark (X : Cx) (v : Value) : Cx := { X with A := X.A.mark (some v), calm := false, xe := fun _ _ => False }
abbrev Cx.pend (X : Cx) (pins : List (Addr × Obj)) (W : Value → Shared → Prop) : Cx := { X with pn := X.pn ++ pins, xe := W }
section
variable {X : Cx} {pins pins' : List (Addr × Obj)} {σ : St} {H : Hp} {s : Shared} {v : Value} {W : Value → Shared → Prop}
theorem Cx.Ok.mark (ok : X.Ok) : (X.mark v).Ok :=
  ⟨ok.mod, ok.kind, ok.glob, ok.blt, ok.above, ok.inj, ok.has, ok.cab, (fun z => nomatch z), ok.frames, ok.stk, ok.exf, ok.bs, ok.bsz, ok.noex, ok.exfs, ok.funs, ok.frf⟩
theorem Inv.mark (I : Inv X pins σ H s) : Inv (X.mark v) pins σ H s := ⟨I.ok.mark, I.os, I.bare, I.base, I.loc, I.cell, I.free, I.freeC, I.pin, I.hok, I.len⟩
theorem Inv.unmark (ok : X.Ok) (I : Inv (X.mark v) pins σ H s) : Inv X pins σ H s := ⟨ok, I.os, I.bare, I.base, I.loc, I.cell, I.free, I.freeC, I.pin, I.hok, I.len⟩
theorem Cx.Ok.pend (ok : X.Ok) : (X.pend pins W).Ok :=
  ⟨ok.mod, ok.kind, ok.glob, ok.blt, ok.above, ok.inj, ok.has, ok.cab, ok.hd, ok.frames, ok.stk, ok.exf, ok.bs, ok.bsz, ok.noex, ok.exfs, ok.funs, ok.frf⟩
theorem Inv.pend (I : Inv X pins σ H s) : Inv (X.pend pins W) [] σ H s := ⟨I.ok.pend, I.os, I.bare, I.base, I.loc, I.cell, I.free, I.freeC, fun p hp => I.pin p (by rw [List.append_nil] at hp; exact hp), I.hok, I.len⟩
theorem Inv.unpend (ok : X.Ok) (I : Inv (X.pend pins W) pins' σ H s) : Inv X pins σ H s := ⟨ok, I.os, I.bare, I.base, I.loc, I.cell, I.free, I.freeC, fun p hp => I.pin p (List.mem_append_left _ hp), I.hok, I.len⟩
theorem Inv.track {x : Addr} {o : HO} (I : Inv X pins σ H s) (hx : H x = none) (h0 : X.s₀.heap.get? x = none) (hl : x ≠ X.env.locals) (hc : ∀ y c, X.env.cells.lookup y = some c → c ≠ x) (hp : ∀ p ∈ X.pn ++ pins, p.1 ≠ x)
    (new : ObjOk X.prog X.w (upd H x o) s.heap x o) : Inv X pins σ (upd H x o) s where
  ok := I.ok
  os := I.os
  bare := I.bare
  base := ⟨I.base.keep, I.base.slot, fun b ob e n hx' => by rw [upd_ne (fun z => by subst z; rw [h0] at e; cases e)]; exact I.base.free b ob e n hx', I.base.there,
    fun b xs e => by have z := I.base.tups b xs e; rw [upd_ne (ne_of_none z hx)]; exact z, fun b ob xs e => by have z := I.base.frzs b ob xs e; rw [upd_ne (ne_of_none z hx)]; exact z,
    fun b ps e => by obtain ⟨m, z⟩ := I.base.tbls b ps e; exact ⟨m, by rw [upd_ne (ne_of_none z hx)]; exact z⟩⟩
  loc := I.loc
  cell := I.cell
  free := by rw [upd_ne (Ne.symm hl)]; exact I.free
  freeC := fun y c e => by rw [upd_ne (hc y c e)]; exact I.freeC y c e
  pin := fun p q => let ⟨a, b, c⟩ := I.pin p q; ⟨a, by rw [upd_ne (hp p q)]; exact b, c⟩
  hok := I.hok.also hx new
  len := I.len
/-- the names are forgotten -/
theorem Inv.wiped {h' : Heap} {m' : Str → Option Value} {t' : Nat} (I : Inv X pins σ H s) (hn' : h'.Ns X.env.locals m') (hs : Heap.SameBut X.env.locals s.heap h') : Inv X pins (List.replicate X.N.length none) H { s with heap := h', toks := t' } := by
  have neL : ∀ b o, X.s₀.heap.get? b = some o → b ≠ X.env.locals := fun b o e => Nat.ne_of_lt (Nat.lt_of_lt_of_le (Heap.lt_size e) I.ok.above)
  refine ⟨I.ok, I.os, I.bare, ⟨fun b o e n hb hx => ?_, fun b o e n hb hx => ?_, I.base.free, fun b o e hx => ?_, I.base.tups, I.base.frzs, I.base.tbls⟩, ⟨_, hn', fun j y v' e1 e2 e3 => ?_⟩, fun y c e => ?_, I.free, I.freeC, fun p hp => ?_, fun b ob e => ?_, List.length_replicate⟩
  · exact (hs.2 b (neL b o e)).trans (I.base.keep b o e n hb hx)
  · obtain ⟨sl, e1⟩ := I.base.slot b o e n hb hx
    exact ⟨sl, (hs.2 b (neL b o e)).trans e1⟩
  · obtain ⟨o', e1⟩ := I.base.there b o e hx
    exact ⟨o', (hs.2 b (neL b o e)).trans e1⟩
  · rw [List.getElem?_replicate] at e2
    split at e2 <;> cases e2
  · obtain ⟨v', o, ho, hd⟩ := I.cell y c e
    exact ⟨v', o, (hs.2 c (I.cne y c e)).trans ho, hd⟩
  · obtain ⟨a, b, c, d⟩ := I.pin p hp
    exact ⟨(hs.2 _ c).trans a, b, c, d⟩
  · refine (I.hok b ob e).stay (fun c w' hc q => (hs.2 c ?_).trans q) (fun _ q => q) fun _ _ q => q
    rintro rfl
    rcases hc with z | z
    · rw [← z, I.free] at e; cases e
    · rw [I.free] at z; cases z
end
section
variable {X : Cx} {B : Addr} {bn n : Str} {i : Nat} {body suite : List Stmt} {b₀ : Stmt} {bp hp pos : Pos} {tb : XK → TS} {ts : TS}
/-- what is wanted of an exception that body raises -/
def xTry (K : Frag) (B : Addr) (i len : Nat) (ts : TS) (D : Ends) : XK := fun C d H2 => ∃ Ca, C = .ref Ca ∧ exmOne K (.ref Ca) (.ref B) = some true ∧
  ∀ x, H2 x = none → ts { D with nx := fun _ H' => D.nx (List.replicate len none) H', bk := fun _ H' => D.bk (List.replicate len none) H', ct := fun _ H' => D.ct (List.replicate len none) H' } ((List.replicate len none).set i (some (.ref x))) (upd H2 x (exF x Ca d))
/-- try: body except B as n: suite, of a body that hands on what a callee raises -/
def tTry (K : Frag) (B : Addr) (i len : Nat) (tb : XK → TS) (ts : TS) : TS := fun D σ H => tb (xTry K B i len ts D) D σ H
theorem ps_try (hcalm : X.calm = true) (hgB : Gl X bn) (hmB : X.mg bn = some (.ref B)) (hN : X.N.Nodup) (hi : X.N[i]? = some n) (hl : X.env.scope.names.lookup n = some .local) (hstk : X.stack = X.env :: X.outer) (hf : X.env.frame = some X.env.locals) (hex : X.ex = [])
    (hb : ∀ pins W E, Passes (CXE X.prog X.w) (X.pend pins W) E → PSs (X.pend pins W) body (tb E)) (hsu : ∀ v, PSs (X.mark v) (b₀ :: suite) ts) (hdb : (bn == ("__debug__" : Str)) = false := by decide) :
    PS X (.Try body [.ExceptHandler (some (.Name bn bp)) (some n) (b₀ :: suite) hp] [] [] pos) (tTry X.K B i X.N.length tb ts) := by
  intro pins s σ H D I h
  refine wpAny_Try_except ?_
  have J := hb pins (fun e s' => ∃ σ' H1 s1, Inv X pins σ' H1 s1 ∧ CXE X.prog X.w X.stack H1 s1 (xTry X.K B i X.N.length ts D) e s') (xTry X.K B i X.N.length ts D)
    (fun pins' σ' H' s1 e s' I1 hx => ⟨σ', H', s1, I1.unpend I.ok, hx⟩) [] s σ H D I.pend h
  refine wpAny_mono J (fun f s1 q => ?_) fun e s1 ⟨σ', H0, s0, I0, hx⟩ => ?_
  · cases f with
    | next => obtain ⟨σ', H', I', q⟩ := q; exact wpAny_execs_nil ⟨σ', H', I'.unpend I.ok, q⟩
    | brk => obtain ⟨σ', H', I', q⟩ := q; exact ⟨σ', H', I'.unpend I.ok, q⟩
    | cont => obtain ⟨σ', H', I', q⟩ := q; exact ⟨σ', H', I'.unpend I.ok, q⟩
    | ret u => obtain ⟨v, σ', H', I', r, q⟩ := q; exact ⟨v, σ', H', I'.unpend I.ok, r, q⟩
  obtain ⟨x, T, C, d, a0, H', rfl, os, bare, un, hok, hx0, hT0, hHx, hHT, fl, Ca, rfl, hexm, q⟩ := hx
  have I2 : Inv X pins σ' H' s1 := I0.call' os un hok bare (fun b z => absurd z (by simp))
  have nfr : ∀ b, s0.heap.get? b = none → b ∉ frs X.stack := fun b hb z => by
    obtain ⟨o, e, _⟩ := fr_data I0.stack b z
    rw [hb] at e; cases e
  have hfr := I0.ok.frames
  have nx := nfr x hx0
  have nT := nfr T hT0
  have st := I2.stack
  rw [hstk] at hfr
  have nx' := nx
  have nT' := nT
  rw [hstk] at nx' nT' st
  refine note_on hfr st hf nx' nT' fl fun h1 T1 f1 k1 n1 => ?_
  refine flight_none f1 fun h2 f2 k2 => ?_
  rw [← hstk] at k1
  have hT1H : H' T1 = none := by
    cases e : H' T1 with
    | none => rfl
    | some o =>
      obtain ⟨ob, hob⟩ := ObjOk.got (I2.hok T1 o e)
      rw [n1] at hob; cases hob
  have hT10 : s0.heap.get? T1 = none := by
    cases e : s0.heap.get? T1 with
    | none => rfl
    | some o =>
      obtain ⟨o', e'⟩ := un.there T1 o e (fun z => nomatch z)
      rw [n1] at e'; cases e'
  have k3 : Kp (frs X.stack) [x, T, T1] s1.heap h2 := k1.trans (kp_mono k2 fun b hb => nomatch hb) fun c hc => by
    rcases hc with z | z
    · rcases List.mem_cons.mp z with z | z
      · rw [z]; simp
      · rw [List.mem_singleton.mp z]; simp
    · rw [List.mem_singleton.mp z.1]; simp
  have all0 : ∀ b ∈ [x, T, T1], s0.heap.get? b = none ∧ H' b = none := fun b hb => by
    rcases List.mem_cons.mp hb with z | z
    · rw [z]; exact ⟨hx0, hHx⟩
    · rcases List.mem_cons.mp z with z | z
      · rw [z]; exact ⟨hT0, hHT⟩
      · rw [List.mem_singleton.mp z]; exact ⟨hT10, hT1H⟩
  have I3 : Inv X pins σ' H' { s1 with heap := h2 } := I0.call' (s' := { s1 with heap := h2 }) os (un_kp un k3 fun b hb => (all0 b hb).1) (hok_kp hok k3 I2.stkFree fun b hb => (all0 b hb).2) bare (fun b z => absurd z (by simp))
  have LT : Looks (model X.prog X.w) h2 (typeOf (.ref x)) (.ref Ca) := by
    obtain ⟨oe, vs, oT, ts', e1, e2, _⟩ := f2
    exact e2 ▸ (Looks.ld e1).andThen .now
  refine wpAny_handleBy_cons (codeAny_handlers_test ?_) (by intro z; cases z)
  refine ld_glob (X := X.mark (.ref x)) (I3.mark) hgB hmB ?_ hdb
  refine exm_one (M := model X.prog X.w) I3.kIn LT hexm _ _ _ { s1 with heap := h2 } (fun _ _ e => e) ?_
  refine codeAny_handlers_suite_as ?_
  refine flight_none f2 fun h3 f3 k4 => ?_
  have k5 : Kp (frs X.stack) [x, T, T1] s1.heap h3 := k3.trans (kp_mono k4 fun b hb => nomatch hb) fun c hc => by
    rcases hc with z | z
    · exact z
    · rw [List.mem_singleton.mp z.1]; simp
  have I4 : Inv X pins σ' H' { s1 with heap := h3 } := I0.call' (s' := { s1 with heap := h3 }) os (un_kp un k5 fun b hb => (all0 b hb).1) (hok_kp hok k5 I2.stkFree fun b hb => (all0 b hb).2) bare (fun b z => absurd z (by simp))
  have hxs : X.s₀.heap.get? x = none := by
    cases e : X.s₀.heap.get? x with
    | none => rfl
    | some o =>
      obtain ⟨o', e'⟩ := I0.base.there x o e (by rw [hex]; exact fun z => nomatch z)
      rw [hx0] at e'; cases e'
  obtain ⟨oe, vs, oT, ts', e1, e2, e3, e4, _⟩ := f3
  have I5 : Inv X pins σ' (upd H' x (exF x Ca d)) { s1 with heap := h3 } := by
    refine I4.track hHx hxs (fun z => ?_) (fun y c e z => ?_) (fun p hp z => ?_) (exF_ok e1 e2 e3 e4)
    · obtain ⟨m, ⟨o, _, _, ho, _⟩, _⟩ := I0.loc
      rw [← z, hx0] at ho; cases ho
    · obtain ⟨v, o, ho, _⟩ := I0.cell y c e
      rw [z, hx0] at ho; cases ho
    · have ho := (I0.pin p hp).1
      rw [z, hx0] at ho; cases ho
  have I6 : Inv X pins (List.replicate X.N.length none) (upd H' x (exF x Ca d)) { s1 with heap := h3 } := I5.weak (by rw [List.length_replicate, I5.len]) fun j v' e => by
    rw [List.getElem?_replicate] at e
    split at e <;> cases e
  refine store_ok (v := .ref x) I6 hN hi (.inl hl) rfl (fun s4 I7 => ?_) (.inr hl)
  refine wpAny_mono (hsu (.ref x) pins s4 _ _ _ I7.mark (q x hHx)) (fun f s5 z => ?_) fun _ _ z => False.elim z
  have hcls : (X.env.scope.kind == .class || (X.env.scope.kind == .module && X.env.locals != X.env.globals)) = false := by rw [I.ok.kind]; rfl
  cases f with
  | next =>
    obtain ⟨σ5, H5, I8, q5⟩ := z
    obtain ⟨m, hn, _⟩ := I8.loc
    exact wpAny_nameGoes hl hn hcls fun h' m' hn' hs' => ⟨_, H5, (I8.unmark I.ok).wiped hn' hs', q5⟩
  | brk =>
    obtain ⟨σ5, H5, I8, q5⟩ := z
    obtain ⟨m, hn, _⟩ := I8.loc
    exact wpAny_nameGoes hl hn hcls fun h' m' hn' hs' => ⟨_, H5, (I8.unmark I.ok).wiped hn' hs', q5⟩
  | cont =>
    obtain ⟨σ5, H5, I8, q5⟩ := z
    obtain ⟨m, hn, _⟩ := I8.loc
    exact wpAny_nameGoes hl hn hcls fun h' m' hn' hs' => ⟨_, H5, (I8.unmark I.ok).wiped hn' hs', q5⟩
  | ret u =>
    obtain ⟨v, σ5, H5, I8, r5, q5⟩ := z
    obtain ⟨m, hn, _⟩ := I8.loc
    exact wpAny_nameGoes hl hn hcls fun h' m' hn' hs' => ⟨v, _, H5, (I8.unmark I.ok).wiped hn' hs', r5, q5⟩
end
end L2
namespace L2
open PySem PySem.Spec PyProof.Rows PySem.W
section
variable {X : Cx} {C D : Addr} {b : Bool}
/-- the exception that a suite has caught, as it lies -/
theorem exF_at {pins : List (Addr × Obj)} {σ : St} {H : Hp} {s : Shared} {x d : Addr} {fs : List (Str × V)} (I : Inv X pins σ H s) (hx : H x = some (exF x C (some d))) (hd : H d = some (.xd fs)) :
    ∃ ob od, InstAt s.heap x ob C (some od) ∧ ∀ name, ∃ u, lookIn name od = some u ∧ RelO (fs.lookup name) u := by
  obtain ⟨ob, vs, e1, e2, e3, e4⟩ := (I.hok x _ hx).1
  obtain ⟨mA, n, r⟩ := I.hok d _ hd
  obtain ⟨od, ho, hl⟩ := lookIn_ns n
  refine ⟨ob, od, ⟨e1, e2, ?_, by rw [e3]; exact ho⟩, fun name => ⟨_, hl name, r name⟩⟩
  unfold notCls
  rw [e4]
end
section
variable {X : Cx} {k j : Nat} {x : Str} {ps : List Str} {sp : Sp} {e : Expr} {es : List Expr} {t : TA} {p pos : Pos} {E : XK}
theorem pe_cp (D : Dx X.prog X.w X.K X.mg X.base k x ps sp) (hr : Room j X.A) (hj : k ≤ j) (hg : Gl X x) (l : Passes (CXE X.prog X.w) X E) (ha : PA X (e :: es) t) (hdb : (x == ("__debug__" : Str)) = false := by decide)
    (he : starEach (e :: es) X.env = (false, eval e X.env) :: starEach es X.env := by rfl) (hpl : (backTo pos (starEach es X.env)).any (·.1) = false := by rfl) : PE X (.Call (.Name x p) (e :: es) [] pos) (tCall sp [] E t) := by
  obtain ⟨f, fd, h1, h2, h3, h4⟩ := D.ex
  exact pe_call h1 (hr.mono hj) hg h4 h3 h2 .nil l ha hdb he hpl
end
end L2
namespace L2
open PySem PySem.Spec PyProof.Rows PySem.W
structure RoomH (k : Nat) (A : Around) : Prop where
  dp : A.depth + 3 * k + 5 < recursionLimit
  un : A.units + 16 * k + 200 < cLine
theorem Room.h {k : Nat} {A : Around} {v : Option Value} (r : Room k A) : RoomH k (A.mark v) := ⟨r.dp, r.un⟩
theorem RoomH.mono {j k : Nat} {A : Around} (r : RoomH k A) (h : j ≤ k) : RoomH j A := ⟨by have := r.dp; omega, by have := r.un; omega⟩
theorem RoomH.deeper {k : Nat} {A : Around} (r : RoomH (k + 1) A) (env : Env) : RoomH k (A.deeper env) :=
  ⟨by have := r.dp; show A.depth + 1 + 3 * k + 5 < _; omega, by have := r.un; show A.units + 3 + 16 * k + 200 < _; omega⟩
theorem RoomH.depth {k : Nat} {A : Around} (r : RoomH k A) : A.depth < recursionLimit := by have := r.dp; omega
structure FnOkH (P : Program) (w : World) (K : PySem.W.Frag) (mg : Str → Option Value) (base : Heap) (k : Nat) (f : Addr) (fd : FuncData) (ps : List Str) (sp : Sp) : Prop where
  len : ∀ vs H Q E, sp vs H Q E → vs.length = ps.length
  run : ∀ (A : Around) (outer : List Env) (s : Shared) (H : Hp) (args : Args) (us : List Value) (vs : List V) (Q : VK) (E : XK), RoomH k A → Env0 P w K mg base A outer s H → BindsTo s fd args (ps.zip us) → Vals vs us → sp vs H Q E →
    codeAny (model P w) A (.call (.ref f) args) (CR CX0 outer P w H s Q E) s
abbrev cxH (P : Program) (w : World) (K : PySem.W.Frag) (mg : Str → Option Value) (base : Heap) (N : List Str) (qual : Str) (scope : Scope) (f : Addr) (cd : Value) (A : Around) (outer : List Env) (s : Shared) (H : Hp) : Cx :=
  { cxOf CX0 P w K mg base N qual scope f cd A outer s H E0 with calm := false, xe := fun _ _ => False }
theorem Fun.okh {P : Program} {w : World} {K : PySem.W.Frag} {mg : Str → Option Value} {base : Heap} {k : Nat} {f : Addr} {fd : FuncData} {ps : List Str} {sp : Sp} {x qual : Str} {st : Stmt} {N : List Str} (F : Fun K x qual st f fd) (S : FnScope N ps (defScope st)) (len : ∀ vs H Q E, sp vs H Q E → vs.length = ps.length)
    (hbody : ∀ (cdv : Value) (A : Around) (outer : List Env) (s : Shared) (H : Hp) (vs : List V) (Q : VK) (E : XK), RoomH k (A.deeper (envOfC qual (defScope st) s.heap.objs.size f cdv)) → sp vs H Q E →
      ∃ t, PSs (cxH P w K mg base N qual (defScope st) f cdv A outer s H) (defBody st) t ∧ t { nx := fun _ H' => Q .non H', rt := Q } (start N vs) H) : FnOkH P w K mg base (k + 1) f fd ps sp := by
  obtain ⟨oc, od, kV, doc, pm, an, cdv, ct, osl, rfl, lk, hcd⟩ := F.ex
  refine ⟨len, fun A outer s H args us vs Q E hr e0 hb r hsp => ?_⟩
  have hl := len _ _ _ _ hsp
  have KX : K.In s.heap := e0.mod.kin.keeps fun b o e => (e0.bs b o e).1
  have lim : s.heap.NoLimit := e0.mod.nolimit.keeps fun b o e => (e0.bs b o e).1
  have hkind : ∀ y ∈ ps.zip us, (defScope st).names.lookup y.1 = some .local ∨ ((defScope st).names.lookup y.1 = some .cell ∧ ((cellsFrom (s.heap.objs.size + 1) (defScope st).names []).lookup y.1).isSome = true) := fun ⟨n, v⟩ hy => by
    rcases S.par n (List.of_mem_zip hy).1 with q | q
    · exact .inl q
    · exact .inr ⟨q, PySem.W.cellsFrom_some _ _ _ (.inl q)⟩
  refine codeAny_call_function hr.depth (KX _ _ lk) rfl S.co S.gen rfl (PySem.W.codeRec_of KX hcd) (hb _ _ _ _ ?_)
  refine wpAny_newFunctionEnv_cells S.kind hkind fun env he s1 x => ?_
  subst he
  refine ⟨lim.keeps x.toInCall.keep, codeAny_func ?_⟩
  obtain ⟨t, ht, hq⟩ := hbody cdv A outer s H vs Q E (hr.deeper _) hsp
  have e0' : Env0 P w K mg base { A with handled := none } outer s H := ⟨e0.frames, e0.mod, e0.bs, e0.bsz, e0.funs, e0.frf, e0.hok, e0.bare⟩
  have I0 : Inv (cxOf CX0 P w K mg base N qual (defScope st) f cdv { A with handled := none } outer s H E0) [] (start N vs) H s1 := inv_start S rfl e0' hl r x
  have ok := I0.ok
  have I : Inv (cxH P w K mg base N qual (defScope st) f cdv A outer s H) [] (start N vs) H s1 :=
    ⟨⟨ok.mod, ok.kind, ok.glob, ok.blt, ok.above, ok.inj, ok.has, ok.cab, (fun z => nomatch z), ok.frames, ok.stk, ok.exf, ok.bs, ok.bsz, ok.noex, ok.exfs, ok.funs, ok.frf⟩, I0.os, I0.bare, I0.base, I0.loc, I0.cell, I0.free, I0.freeC, I0.pin, I0.hok, I0.len⟩
  refine wpAny_mono (ht [] s1 (start N vs) H _ I hq) (fun fl s' hs => ?_) fun e s' hs => False.elim hs
  have fin : ∀ {σ' : St} {H' : Hp} {v : V} {u : Value}, Inv (cxH P w K mg base N qual (defScope st) f cdv A outer s H) [] σ' H' s' → RelV v u → Q v H' → CE outer P w H s Q u s' :=
    fun {σ' H' v u} J rv q => ⟨v, H', J.os, J.bare, J.base, J.hok, rv, q⟩
  cases fl with
  | ret u =>
    obtain ⟨v, σ', H', J, rv, q⟩ := hs
    exact fin J rv q
  | next =>
    obtain ⟨σ', H', J, q⟩ := hs
    exact fin (v := V.non) (u := Value.none) J rfl q
  | brk =>
    obtain ⟨_, _, _, q⟩ := hs
    exact False.elim q
  | cont =>
    obtain ⟨_, _, _, q⟩ := hs
    exact False.elim q
structure Dh (P : Program) (w : World) (K : PySem.W.Frag) (mg : Str → Option Value) (base : Heap) (k : Nat) (x : Str) (ps : List Str) (sp : Sp) : Prop where
  ex : ∃ (f : Addr) (fd : FuncData), FnOkH P w K mg base k f fd ps sp ∧ Binds K fd ps [] ∧ PySem.W.keepIn K (.ref f) = true ∧ mg x = some (.ref f)
section
variable {X : Cx} {k j : Nat} {x : Str} {ps : List Str} {sp : Sp} {e : Expr} {es : List Expr} {t : TA} {p pos : Pos}
theorem pe_ch (D : Dh X.prog X.w X.K X.mg X.base k x ps sp) (hr : RoomH j X.A) (hj : k ≤ j) (hg : Gl X x) (ha : PA X (e :: es) t) (hdb : (x == ("__debug__" : Str)) = false := by decide)
    (he : starEach (e :: es) X.env = (false, eval e X.env) :: starEach es X.env := by rfl) (hpl : (backTo pos (starEach es X.env)).any (·.1) = false := by rfl) : PE X (.Call (.Name x p) (e :: es) [] pos) (tCall sp [] E0 t) := by
  obtain ⟨f, fd, F, hb, hk, hm⟩ := D.ex
  intro pins s σ H Q I h
  refine wpAny_Call_Name_kw (ld_glob I hg hm ?_ hdb)
  refine PySem.W.callWith_K (h₀ := X.base) I.ok.mod.kin hk (thn (ha pos pins s σ H _ I h) fun us s1 ⟨vs, H1, I1, r, q⟩ => ⟨I1.kIn, ?_⟩) he hpl
  have q : sp (vs ++ []) H1 Q E0 := q
  rw [List.append_nil] at q
  have hl : (us ++ []).length = ps.length := by rw [List.append_nil, ← r.length]; exact F.len _ _ _ _ q
  have hbt := hb s1 us I1.kIn hl
  rw [List.append_nil] at hbt
  refine wpAny_call (codeAny_mono (F.run X.A X.stack s1 H1 ⟨us, []⟩ us vs Q E0 (hr.mono hj) I1.env0 hbt r q) fun r s' hq => ?_)
  cases r with
  | error e => exact False.elim hq
  | ok fl =>
    cases fl with
    | ret u => exact I1.after hq
    | next => exact False.elim hq
    | brk => exact False.elim hq
    | cont => exact False.elim hq
end
end L2
namespace L2
open PySem PySem.Spec PyProof.Rows PySem.W
section
variable {M : Model} {A : Around} {E : Value → Shared → Prop} {s : Shared} {env : Env} {outer : List Env} {x T L : Addr} {C a0 fl : Value} {d : Option Addr} {base : Heap} {Q : Unit → Shared → Prop}
theorem flight_to {o : Option Addr} (F : Fl s.heap x T C d a0 fl) (q : ∀ h' fl', Fl h' x T C d a0 fl' → Kp [] [T] s.heap h' → (o = none → fl' = .none) → Q () { s with heap := h' }) : wpAny M A (setFlight (.ref x) o) Q E s := by
  obtain ⟨oe, vs, oT, ts, e1, e2, e3, e4, e5, e6, e7, e8, e9, e10⟩ := F
  unfold setFlight
  refine wpAny_bind (wpAny_field e1 e4 e6 ?_)
  rw [if_pos (by rfl)]
  have hsz : 3 < ts.size := by
    obtain ⟨z, _⟩ := Array.getElem?_eq_some_iff.mp e10
    exact z
  refine wpAny_setField e8 e9 hsz ?_
  have hT := up_get e8 e9 3 (o.elim .none fun f => rawInt f)
  refine q _ (o.elim .none fun f => rawInt f) ⟨oe, vs, _, _, (Heap.get?_update_other _ _ e7).trans e1, e2, e3, e4, e5, e6, e7, hT, rfl, ?_⟩ ⟨fun b o e _ hb => (Heap.get?_update_other _ _ fun z => hb (by rw [z]; exact List.mem_cons_self)).trans e, fun b o e hb => nomatch hb⟩ (fun z => by rw [z]; rfl)
  show (ts.setIfInBounds 3 _)[3]? = some _
  rw [Array.getElem?_setIfInBounds_self_of_lt hsz]
theorem note_env {e : Value} {env env' : Env} (h : env'.frame = env.frame) : noteFrame e env' = noteFrame e env := by
  unfold noteFrame PySem.frameOf
  rw [h]
theorem note_any (hfr : A.frames = some (env :: outer)) (hfu : s.heap.FunFrames base (env :: outer)) (hL : env.frame = some L) (hx : x ∉ frs (env :: outer)) (hT : T ∉ frs (env :: outer)) (F : Fl s.heap x T C d a0 fl)
    (q : ∀ h' T' fl', Fl h' x T' C d a0 fl' → Kp (frs (env :: outer)) [x, T] s.heap h' → (T' = T ∨ s.heap.get? T' = none) → Q () { s with heap := h' }) : wpAny M A (noteFrame (.ref x) env) Q E s := by
  have F0 := F
  obtain ⟨oe, vs, oT, ts, e1, e2, e3, e4, e5, e6, e7, e8, e9, e10⟩ := F
  by_cases hc : (fl == rawInt L) = true
  · unfold noteFrame
    rw [hL]
    refine wpAny_bind (wpAny_field e1 e4 e6 ?_)
    rw [if_pos (by rfl)]
    refine wpAny_bind (wpAny_field e8 e9 e10 ?_)
    rw [if_pos hc]
    exact wpAny_pure (q s.heap T fl F0 Kp.refl (.inl rfl))
  have hs : 1 < vs.size := by
    obtain ⟨z, _⟩ := Array.getElem?_eq_some_iff.mp e6
    exact z
  have hsz : 3 < ts.size := by
    obtain ⟨z, _⟩ := Array.getElem?_eq_some_iff.mp e10
    exact z
  unfold noteFrame
  rw [hL]
  refine wpAny_bind (wpAny_field e1 e4 e6 ?_)
  rw [if_pos (by rfl)]
  refine wpAny_bind (wpAny_field e8 e9 e10 ?_)
  rw [if_neg hc]
  refine wpAny_bind (wpAny_setField e8 e9 hsz ?_)
  have k1 : Kp (frs (env :: outer)) [T] s.heap (s.heap.update T (Obj.mapFields fun x => x.setIfInBounds 3 Value.none)) := ⟨fun b o e _ hb => (Heap.get?_update_other _ _ fun z => hb (by rw [z]; exact List.mem_cons_self)).trans e, fun b o e hb hb2 => ⟨o.slots, (Heap.get?_update_other _ _ fun z => hb2 (by rw [z]; exact List.mem_cons_self)).trans e⟩⟩
  have hfu2 : (s.heap.update T (Obj.mapFields fun x => x.setIfInBounds 3 Value.none)).FunFrames base (env :: outer) := fun_kp k1 (fun b hb => ⟨hb, fun z => hT (by rw [← List.mem_singleton.mp z]; exact hb)⟩) hfu
  have x2 : (s.heap.update T (Obj.mapFields fun x => x.setIfInBounds 3 Value.none)).get? x = some oe := (Heap.get?_update_other _ _ e7).trans e1
  have q' := tail_x (E := E) (M := M) (A := A) (head := .ref T) (b := true) (s := { s with heap := s.heap.update T (Obj.mapFields fun x => x.setIfInBounds 3 Value.none) }) (Q := Q) hfr hfu2 hL x2 hx e4 e5 hs
  rw [e2, e3] at q'
  refine q' fun h' T' f k n => q h' T' _ f (k1.trans k fun c hc => ?_) (.inr ?_)
  · rcases hc with z | z
    · rw [List.mem_singleton.mp z]; simp
    · rw [List.mem_singleton.mp z.1]; simp
  · cases e : s.heap.get? T' with
    | none => rfl
    | some o =>
      by_cases z : T' = T
      · subst z
        rw [up_get e8 e9] at n; cases n
      · rw [(Heap.get?_update_other s.heap _ (Ne.symm z)).trans e] at n; cases n
end
/-- an exception flies in X's body -/
def CXF (X : Cx) (E : XK) (cs : List Addr) (e : Value) (s' : Shared) : Prop := ∃ (x T : Addr) (C : Value) (d : Option Addr) (a0 f : Value) (H' : Hp), e = .ref x ∧ s'.os = X.s₀.os ∧ AllBare s'.gens ∧ Un X.fs [] X.H₀ H' X.s₀.heap s'.heap ∧ HOk X.prog X.w H' s'.heap ∧
  X.s₀.heap.get? x = none ∧ X.s₀.heap.get? T = none ∧ H' x = none ∧ H' T = none ∧ Fl s'.heap x T C d a0 f ∧ E C d H' ∧ s'.heap.FunFrames X.base X.stack ∧ (∀ b ∈ frs X.stack, H' b = none) ∧ x ∉ frs X.stack ∧ T ∉ frs X.stack ∧
  ∀ c ∈ cs, (∃ m, s'.heap.Ns c m) ∧ X.s₀.heap.get? c = none ∧ H' c = none ∧ c ∉ frs X.stack ∧ c ≠ x ∧ c ≠ T
section
variable {X : Cx} {E : XK} {EE : Value → Shared → Prop} {s : Shared} {e : Value} {cs : List Addr}
/-- a step of the exception's own -/
theorem CXF.step {x T : Addr} {C : Value} {d : Option Addr} {a0 : Value} {H' : Hp} {h' : Heap} {T' : Addr} {f' : Value} (ok : X.Ok) (hs : X.stack = X.env :: X.outer) (hf : X.env.frame = some X.env.locals) (os : s.os = X.s₀.os) (bare : AllBare s.gens) (un : Un X.fs [] X.H₀ H' X.s₀.heap s.heap) (hok : HOk X.prog X.w H' s.heap)
    (hx0 : X.s₀.heap.get? x = none) (hT0 : X.s₀.heap.get? T = none) (hHx : H' x = none) (hHT : H' T = none) (q : E C d H') (fu : s.heap.FunFrames X.base X.stack) (ff : ∀ b ∈ frs X.stack, H' b = none) (nx : x ∉ frs X.stack) (nT : T ∉ frs X.stack)
    (hcs : ∀ c ∈ cs, (∃ m, s.heap.Ns c m) ∧ X.s₀.heap.get? c = none ∧ H' c = none ∧ c ∉ frs X.stack ∧ c ≠ x ∧ c ≠ T)
    (F' : Fl h' x T' C d a0 f') (k : Kp (frs X.stack) [x, T] s.heap h') (n : T' = T ∨ s.heap.get? T' = none) : CXF X E cs (.ref x) { s with heap := h' } := by
  have hfs : frs X.stack = X.env.locals :: X.fs := by
    rw [hs]; unfold frs; rw [List.filterMap_cons, hf]; rfl
  have hloc : X.s₀.heap.get? X.env.locals = none := Heap.get?_none_of_le ok.above
  have k4 : Kp X.fs [x, T, X.env.locals] s.heap h' := by
    have k5 : Kp (frs X.stack) [x, T, X.env.locals] s.heap h' := k.trans Kp.refl (ys := []) fun c hc => by
      rcases hc with z | z
      · rcases List.mem_cons.mp z with z | z
        · rw [z]; simp
        · rw [List.mem_singleton.mp z]; simp
      · exact nomatch z.1
    refine kp_mono k5 fun b hb => ?_
    rw [hfs] at hb
    rcases List.mem_cons.mp hb with z | z
    · rw [z]; exact .inr (by simp)
    · exact .inl z
  have hT' : X.s₀.heap.get? T' = none ∧ H' T' = none ∧ T' ∉ frs X.stack ∧ (∀ c ∈ cs, c ≠ T') := by
    rcases n with z | z
    · rw [z]; exact ⟨hT0, hHT, nT, fun c hc => (hcs c hc).2.2.2.2.2⟩
    · refine ⟨?_, ?_, fun y => ?_, fun c hc y => ?_⟩
      · cases e : X.s₀.heap.get? T' with
        | none => rfl
        | some o =>
          obtain ⟨o', e'⟩ := un.there T' o e (fun z => nomatch z)
          rw [z] at e'; cases e'
      · cases e : H' T' with
        | none => rfl
        | some o =>
          obtain ⟨ob, hob⟩ := ObjOk.got (hok T' o e)
          rw [z] at hob; cases hob
      · obtain ⟨o, e, _⟩ := fr_data fu T' y
        rw [z] at e; cases e
      · obtain ⟨⟨m, o, _, _, ho, _⟩, _⟩ := hcs c hc
        rw [y, z] at ho; cases ho
  refine ⟨x, T', C, d, a0, f', H', rfl, os, bare, un_kp un k4 fun b hb => ?_, hok_kp hok k ff fun b hb => ?_, hx0, hT'.1, hHx, hT'.2.1, F', q, fun_kp k (fun b hb => ⟨hb, fun z => ?_⟩) fu, ff, nx, hT'.2.2.1, fun c hc => ?_⟩
  · rcases List.mem_cons.mp hb with z | z
    · rw [z]; exact hx0
    · rcases List.mem_cons.mp z with z | z
      · rw [z]; exact hT0
      · rw [List.mem_singleton.mp z]; exact hloc
  · rcases List.mem_cons.mp hb with z | z
    · rw [z]; exact hHx
    · rw [List.mem_singleton.mp z]; exact hHT
  · rcases List.mem_cons.mp z with z | z
    · exact nx (by rw [← z]; exact hb)
    · exact nT (by rw [← List.mem_singleton.mp z]; exact hb)
  · obtain ⟨⟨m, o, es, ep, ho, r⟩, c0, cH, cf, cx, cT⟩ := hcs c hc
    exact ⟨⟨m, o, es, ep, k.keep c o ho cf (fun z => by
      rcases List.mem_cons.mp z with z | z
      · exact cx z
      · exact cT (List.mem_singleton.mp z)), r⟩, c0, cH, cf, cx, hT'.2.2.2 c hc⟩
theorem CXF.note {env' : Env} (ok : X.Ok) (hs : X.stack = X.env :: X.outer) (hf : X.env.frame = some X.env.locals) (h : CXF X E cs e s) (he : env'.frame = X.env.frame) : wpAny (model X.prog X.w) X.A (noteFrame e env') (fun _ s' => CXF X E cs e s') EE s := by
  obtain ⟨x, T, C, d, a0, f, H', rfl, os, bare, un, hok, hx0, hT0, hHx, hHT, fl, q, fu, ff, nx, nT, hcs⟩ := h
  have fu' := fu
  have nx' := nx
  have nT' := nT
  have hfr := ok.frames
  rw [hs] at fu' nx' nT' hfr
  rw [note_env he]
  refine note_any hfr fu' hf nx' nT' fl fun h' T' f' F' k n => ?_
  rw [← hs] at k
  exact CXF.step ok hs hf os bare un hok hx0 hT0 hHx hHT q fu ff nx nT hcs F' k n
theorem CXF.flight {o : Option Addr} (ok : X.Ok) (hs : X.stack = X.env :: X.outer) (hf : X.env.frame = some X.env.locals) (h : CXF X E cs e s) : wpAny (model X.prog X.w) X.A (setFlight e o) (fun _ s' => CXF X E cs e s') EE s := by
  obtain ⟨x, T, C, d, a0, f, H', rfl, os, bare, un, hok, hx0, hT0, hHx, hHT, fl, q, fu, ff, nx, nT, hcs⟩ := h
  refine flight_to fl fun h' f' F' k _ => ?_
  have k' : Kp (frs X.stack) [x, T] s.heap h' := (kp_mono k fun b hb => nomatch hb).trans Kp.refl (ys := []) fun c hc => by
    rcases hc with z | z
    · rw [List.mem_singleton.mp z]; simp
    · exact nomatch z.1
  exact CXF.step ok hs hf os bare un hok hx0 hT0 hHx hHT q fu ff nx nT hcs F' k' (.inl rfl)
theorem CXF.leave (ok : X.Ok) (hs : X.stack = X.env :: X.outer) (hf : X.env.frame = some X.env.locals) (h : CXF X E [] e s) : wpAny (model X.prog X.w) X.A (leaving X.env e) (fun _ s' => CXE X.prog X.w X.outer X.H₀ X.s₀ E e s') EE s := by
  unfold leaving
  refine wpAny_bind (thn (CXF.note ok hs hf h rfl) fun _ s1 h1 => ?_)
  have h2 := h1
  obtain ⟨x, T, C, d, a0, f, H', rfl, os, bare, un, hok, hx0, hT0, hHx, hHT, fl, q, fu, ff, nx, nT, hcs⟩ := h2
  refine flight_to fl fun h' f' F' k hn => ?_
  have k' : Kp (frs X.stack) [x, T] s1.heap h' := (kp_mono k fun b hb => nomatch hb).trans Kp.refl (ys := []) fun c hc => by
    rcases hc with z | z
    · rw [List.mem_singleton.mp z]; simp
    · exact nomatch z.1
  have r := CXF.step (cs := []) ok hs hf os bare un hok hx0 hT0 hHx hHT q fu ff nx nT (fun c hc => nomatch hc) F' k' (.inl rfl)
  obtain ⟨x2, T2, C2, d2, a2, f2, H2, e2, os2, bare2, un2, hok2, hx2, hT2, hHx2, hHT2, fl2, q2, _⟩ := r
  cases e2
  rw [hn rfl] at F'
  exact ⟨x, T, C, d, a0, H', rfl, os2, bare2, un_kp un (kp_mono (k.trans Kp.refl (ys := []) (zs := [T]) fun c hc => hc.elim id fun z => nomatch z.1) fun b hb => nomatch hb) fun b hb => by rw [List.mem_singleton.mp hb]; exact hT0, hok_kp hok k' ff fun b hb => by
    rcases List.mem_cons.mp hb with z | z
    · rw [z]; exact hHx
    · rw [List.mem_singleton.mp z]; exact hHT, hx0, hT0, hHx, hHT, F', q⟩
end
end L2
namespace L2
open PySem PySem.Spec PyProof.Rows PySem.W
theorem compLoop_goX {prog : Program} {w : World} {A : Around} {R : Result → Shared → Prop} {s : Shared} {elt target iter : Expr} {ifs : List Expr} {scope : Scope} {pos : Pos} {it acc : Value} {env : Env} (I : Nat → Shared → Prop)
    (turn : ∀ n s, I n s → wpAny (model prog w) A (pyNext it) (fun r s₁ => match r with
      | none => R (.ok .next) s₁
      | some v => wpAny (model prog w) A (letOwnedTupleGo target it v) (fun _ s₂ => wpAny (model prog w) A (assign target env v) (fun _ s₃ =>
          wpAny (model prog w) A (forIn ifs true fun c r => if r = true then do let ok ← isTrue c env (eval c env); pure (ForInStep.yield ok) else pure (ForInStep.yield r)) (fun ok s₄ =>
            if ok = true then wpAny (model prog w) A (eval elt env) (fun x s₅ =>
              wpAny (model prog w) A (call (.builtin "list.append") [acc, x]) (fun _ s₆ => ∃ m, m < n ∧ I m s₆) (fun _ _ => False) s₅) (notedBy (model prog w) A env fun e s' => R (.error e) s') s₄
            else ∃ m, m < n ∧ I m s₄) (fun _ _ => False) s₃) (fun _ _ => False) s₂) (fun _ _ => False) s₁) (fun _ _ => False) s)
    (n : Nat) (h : I n s) : codeAny (model prog w) A (.compLoop (.ListComp elt [⟨target, iter, ifs, 0⟩] scope pos) 0 it acc env) R s := by
  refine codeAny_loop rfl I (fun n s hI => ?_) n h
  show wpAny _ A ((compTurn (.ListComp elt [⟨target, iter, ifs, 0⟩] scope pos) 0 it acc env).onRaise (fun x => do noteFrame x env; theTreesLotGoes x)) _ _ s
  refine wpAny_noted ?_
  rw [compTurn_list]
  refine wpAny_bind (wpAny_standAt (wpAny_bind (wpAny_mono (turn n s hI) (fun r s₁ h₁ => ?_) fun _ _ f => f.elim)))
  cases r with
  | none => exact wpAny_pure h₁
  | some v =>
    refine wpAny_bind (wpAny_mono h₁ (fun _ s₂ h₂ => wpAny_bind (wpAny_mono h₂ (fun _ s₃ h₃ => wpAny_bind (wpAny_mono h₃ (fun ok s₄ h₄ => ?_) fun _ _ f => f.elim)) fun _ _ f => f.elim)) fun _ _ f => f.elim)
    cases ok with
    | false => exact wpAny_pure ⟨rfl, h₄⟩
    | true => exact wpAny_bind (wpAny_bind (wpAny_mono h₄ (fun x s₅ h₅ => wpAny_bind (wpAny_mono h₅ (fun _ s₆ h₆ => wpAny_pure (wpAny_pure ⟨rfl, h₆⟩)) fun _ _ f => f.elim)) fun _ _ f => f))
/-- what is wanted of a callee's exception within a comprehension -/
def xUp (E : XK) : XK := fun C d H => ∀ a o, H a = none → E C d (upd H a o)
section
variable {X : Cx} {E : XK}
theorem CXF.same {e : Value} {c : Addr} {s : Shared} {h' : Heap} (h : CXF X E [c] e s) (hs : Heap.SameBut c s.heap h') : CXF X E [] e { s with heap := h' } := by
  obtain ⟨x, T, C, d, a0, f, H', rfl, os, bare, un, hok, hx0, hT0, hHx, hHT, fl, q, fu, ff, nx, nT, hcs⟩ := h
  obtain ⟨_, c0, cH, cf, cx, cT⟩ := hcs c List.mem_cons_self
  have k : Kp [] [c] s.heap h' := ⟨fun b o e _ hb => (hs.2 b fun z => hb (by rw [z]; exact List.mem_cons_self)).trans e, fun b o e hb => nomatch hb⟩
  obtain ⟨oe, vs, oT, ts, e1, e2, e3, e4, e5, e6, e7, e8, e9, e10⟩ := fl
  refine ⟨x, T, C, d, a0, f, H', rfl, os, bare, un_kp un (kp_mono k fun b hb => nomatch hb) (fun b hb => by rw [List.mem_singleton.mp hb]; exact c0), hok_kp hok k (fun b hb => nomatch hb) (fun b hb => by rw [List.mem_singleton.mp hb]; exact cH), hx0, hT0, hHx, hHT,
    ⟨oe, vs, oT, ts, (hs.2 x (Ne.symm cx)).trans e1, e2, e3, e4, e5, e6, e7, (hs.2 T (Ne.symm cT)).trans e8, e9, e10⟩, q, fun_kp (kp_mono k (fs' := frs X.stack) fun b hb => nomatch hb) (fun b hb => ⟨hb, fun z => cf (by rw [← List.mem_singleton.mp z]; exact hb)⟩) fu, ff, nx, nT, fun _ z => nomatch z⟩
theorem comp_err {Q : Value → Shared → Prop} {acc : Value} {C : Addr} {e : Value} {s' : Shared} (ok : X.Ok) (l : Lvs X E) (h : CXF X E [C] e s') : compPost (model X.prog X.w) X.A X.xe none Q acc C (.error e) s' := by
  have h0 := h
  obtain ⟨x, T, C', d, a0, f, H', rfl, os, bare, un, hok, hx0, hT0, hHx, hHT, fl, q, fu, ff, nx, nT, hcs⟩ := h0
  obtain ⟨hm, _⟩ := hcs C List.mem_cons_self
  obtain ⟨m, hn⟩ := hm
  refine ⟨m, hn, fun h' hs' cenv _ => ?_⟩
  have h2 := h.same hs'
  have h3 := h2
  obtain ⟨x2, T2, C2, d2, a2, f2, H2, ex, os2, bare2, un2, hok2, hx2, hT2, hHx2, hHT2, fl2, q2, _⟩ := h3
  cases ex
  obtain ⟨oe, vs, oT, ts, e1, e2, e3, e4, e5, e6, e7, e8, e9, e10⟩ := fl2
  unfold PySem.passOn
  refine wpAny_bind (wpAny_field e1 e4 e6 ?_)
  rw [if_neg (by intro z; cases (eq_of_beq z))]
  refine wpAny_bind (thn (CXF.flight ok l.1 l.2.1 h2) fun _ s3 h4 => ?_)
  exact wpAny_throw (l.2.2.2 _ _ (CXF.leave ok l.1 l.2.1 h4))
end
section
variable {X : Cx} {scope : Scope} {own : List Str} {F : List (Str × Nat)} {elt tg iter : Expr} {ifs : List Expr} {pos : Pos} {wi : TI} {g : TG} {tt : TT} {te : TE} {E : XK}
/-- the block's run, up to its end -/
theorem comp_runX {pins : List (Addr × Obj)} {σ : St} {H : Hp} {s : Shared} {Q : VK} {RR : Addr → Result → Shared → Prop} {it : Addr} {fp : List Addr} {tn : Nat → Heap → Prop} {J : It} (S : CompSc X scope own F) (hc : X.calm = true)
    (hg : ∀ C s₃ H₃ ex, PG (compCx X own F scope C s₃ H₃ ex) tg g) (ht : ∀ C s₃ H₃ ex, PTs (compCx X own F scope C s₃ H₃ ex) ifs tt) (he : ∀ C s₃ H₃ ex pins W, Passes (CXE X.prog X.w) ((compCx X own F scope C s₃ H₃ ex).pend pins W) (xUp E) → PE ((compCx X own F scope C s₃ H₃ ex).pend pins W) elt te) (l : Lvs X E)
    (I : Inv X pins σ H s) (T : Turn X.prog X.w X.K tg J fp it tn) (st : tn 0 s.heap) (hf : ∀ b ∈ fp, FpOk X pins H b)
    (h : CompBody own F g tt te σ Q J H)
    (hR : ∀ C s4 H4, s.heap.objs.size ≤ C → C ≠ s.heap.objs.size → Inv X pins σ H4 s4 → Q (.ref s.heap.objs.size) H4 → H4 C = none → (∃ m, s4.heap.Ns C m) → RR C (.ok .next) s4) (hE : ∀ C e s', CXF X E [C] e s' → RR C (.error e) s') :
    wpAny (model X.prog X.w) X.A (newList []) (fun acc s₃ => wpAny (model X.prog X.w) X.A (newFunctionEnv scope X.env.globals (clo X.env scope.names) [] X.env.qual none .none (some X.env)) (fun cenv s₄ =>
      codeAny (model X.prog X.w) X.A (.compStart (.ListComp elt [⟨tg, iter, ifs, 0⟩] scope pos) 0 (.ref it) acc { cenv with scope := relabel scope X.env }) (fun r s' => acc = .ref s.heap.objs.size ∧ RR cenv.locals r s') s₄) X.xe s₃) X.xe s := by
  obtain ⟨W, ⟨m0, w0⟩, turn⟩ := h
  have hlt : ∀ b ∈ fp, b < s.heap.objs.size := fun b hb => by
    obtain ⟨o, e, _⟩ := T.obj _ _ st b hb
    exact Heap.lt_size e
  refine wpAny_newObj_type (wpAny_newFunctionEnv S.nc (by intro y hy; simp at hy) (fun h₁ hns₁ hsb₁ => ?_) S.kind)
  dsimp only at hns₁ hsb₁ ⊢
  have e3' : pushed s = { s with heap := s.heap.push { cls := .type "list", data := .seq ([] : List Value).toArray } } := rfl
  have sz3 : (pushed s).heap.objs.size = s.heap.objs.size + 1 := Heap.size_push ..
  have k3 : ∀ b o, (pushed s).heap.get? b = some o → h₁.get? b = some o := fun b o e => hsb₁.extBut b o (Nat.ne_of_lt (Heap.lt_size e)) (Heap.get?_push_of_some _ e)
  have k2 : ∀ b o, s.heap.get? b = some o → (pushed s).heap.get? b = some o := fun b o e => Heap.get?_push_of_some _ e
  have hns : h₁.Ns (pushed s).heap.objs.size (fun _ => none) := by simpa using hns₁
  have I0 : Inv (compCx X own F scope (pushed s).heap.objs.size (pushed s) H (s.heap.objs.size :: fp)) [] (compσ own F σ) H { pushed s with heap := h₁, toks := (pushed s).toks + ([] : List (Str × Value)).length } := comp_start I S hf hlt e3' hns k3
  have acc0 : h₁.get? s.heap.objs.size = some { cls := .type "list", data := .seq ([] : List Value).toArray 0 } := k3 _ _ (Heap.get?_push_size _ rfl)
  have ht0 : tn 0 h₁ := T.keep _ _ _ st fun b _ o e => k3 b o (k2 b o e)
  have loop : codeAny (model X.prog X.w) X.A (.compLoop (.ListComp elt [⟨tg, iter, ifs, 0⟩] scope pos) 0 (.ref it) (.ref s.heap.objs.size) (compEnvC scope (clo X.env scope.names) (pushed s).heap.objs.size X.env)) (RR (pushed s).heap.objs.size) { pushed s with heap := h₁, toks := (pushed s).toks + ([] : List (Str × Value)).length } := by
    refine compLoop_goX (fun n s' => ∃ i ys H' its k, Inv (compCx X own F scope (pushed s).heap.objs.size (pushed s) H (s.heap.objs.size :: fp)) [] (compσ own F σ) H' s' ∧ tn i s'.heap ∧ (∀ b ∈ fp, H' b = none) ∧ H' s.heap.objs.size = none ∧
      Vals ys its ∧ s'.heap.get? s.heap.objs.size = some { cls := .type "list", data := .seq its.toArray k } ∧ ys.length ≤ i ∧ W i n ys H') ?_ m0 ⟨0, [], H, [], 0, I0, ht0, fun b hb => (hf b hb).1, I.hok.fresh (Nat.le_refl _), .nil, acc0, Nat.le_refl _, w0⟩
    rintro n s5 ⟨i, ys, H5, its, k, I5, t5, fr5, ha5, v5, o5, l5, w5⟩
    have pn5 : Inv (compCx X own F scope (pushed s).heap.objs.size (pushed s) H (s.heap.objs.size :: fp)) [(s.heap.objs.size, { cls := .type "list", data := .seq its.toArray k })] (compσ own F σ) H5 s5 := I5.pins_of fun p hp => by
      have z : p = (s.heap.objs.size, { cls := .type "list", data := .seq its.toArray k }) := by simpa using hp
      subst z
      obtain ⟨x1, x2⟩ := I0.ok.exf s.heap.objs.size List.mem_cons_self
      exact ⟨o5, ha5, x1, I0.ok.exfs _ List.mem_cons_self, fun v z => by cases z⟩
    have fp5 : ∀ {H' : Hp}, (∀ b ∈ fp, H' b = none) → ∀ b ∈ fp, FpOk (compCx X own F scope (pushed s).heap.objs.size (pushed s) H (s.heap.objs.size :: fp)) [(s.heap.objs.size, { cls := .type "list", data := .seq its.toArray k })] H' b := fun {H'} hn b hb => by
      obtain ⟨x1, x2⟩ := I0.ok.exf b (List.mem_cons_of_mem _ hb)
      refine ⟨hn b hb, x1, I0.ok.exfs b (List.mem_cons_of_mem _ hb), .inl (List.mem_cons_of_mem _ hb), x2, fun p hp => ?_⟩
      have z : p = (s.heap.objs.size, { cls := .type "list", data := .seq its.toArray k }) := by
        have hp' : p ∈ ([] : List (Addr × Obj)) ++ [(s.heap.objs.size, { cls := .type "list", data := .seq its.toArray k })] := hp
        simpa using hp'
      subst z
      exact Nat.ne_of_gt (hlt b hb)
    rcases turn i n ys H5 w5 l5 with ⟨stop, hz, q⟩ | ⟨go, hz, N, hN, step⟩
    · refine thn (T.done (compCx X own F scope (pushed s).heap.objs.size (pushed s) H (s.heap.objs.size :: fp)) rfl rfl rfl hc i _ s5 _ H5 (fun _ _ => False) pn5 (fp5 fr5) t5 stop) fun r s6 ⟨hr, I6⟩ => ?_
      subst hr
      obtain ⟨a6, b6, _⟩ := I6.pin (s.heap.objs.size, { cls := .type "list", data := .seq its.toArray k }) (List.mem_append_right _ (List.mem_singleton.mpr rfl))
      have J6 := I6.pins_of (pins' := []) (fun p hp => nomatch hp)
      have I7 := comp_back I hf e3' J6 (Nat.le_trans l5 hz) v5 a6 b6
      have hC : H5 (pushed s).heap.objs.size = none := J6.free
      refine hR _ s6 _ (show s.heap.objs.size ≤ (pushed s).heap.objs.size by omega) (fun z => by have z' : (pushed s).heap.objs.size = s.heap.objs.size := z; omega) I7 (q _ b6) (by rw [upd_ne (fun z => by have z' : (pushed s).heap.objs.size = s.heap.objs.size := z; omega)]; exact hC) ?_
      obtain ⟨m, hn, _⟩ := J6.loc
      exact ⟨m, hn⟩
    · refine thn (T.item (compCx X own F scope (pushed s).heap.objs.size (pushed s) H (s.heap.objs.size :: fp)) rfl rfl rfl hc i _ s5 _ H5 (fun _ _ => False) pn5 (fp5 fr5) t5 go) fun r s6 ⟨u, hr, h6⟩ => ?_
      subst hr
      refine thn h6 fun _ s7 ⟨x, H7, I7, r7, y7, t7, fr7⟩ => ?_
      have J7 := I7.pinned (fp5 fr7) (T.obj _ _ t7)
      refine thn (hg _ _ _ _ _ s7 _ H7 x u _ J7 r7 (step x H7 y7)) fun _ s8 ⟨σ8, H8, I8, wk, q8⟩ => ?_
      refine thn (ht _ _ _ _ _ s8 σ8 H8 _ I8 q8) fun ok s9 ⟨H9, I9, q9⟩ => ?_
      have keep : ∀ {σ' : St} {H' : Hp} {s' : Shared}, Inv (compCx X own F scope (pushed s).heap.objs.size (pushed s) H (s.heap.objs.size :: fp)) ([(s.heap.objs.size, { cls := .type "list", data := .seq its.toArray k })] ++ pinsAt fp s7.heap) σ' H' s' →
          tn (i + 1) s'.heap ∧ (∀ b ∈ fp, H' b = none) ∧ H' s.heap.objs.size = none ∧ s'.heap.get? s.heap.objs.size = some { cls := .type "list", data := .seq its.toArray k } := fun {σ' H' s'} J => by
        have pa := J.pin (s.heap.objs.size, { cls := .type "list", data := .seq its.toArray k }) (List.mem_append_right _ (List.mem_append_left _ (List.mem_singleton.mpr rfl)))
        refine ⟨T.keep _ _ _ t7 fun b hb o e => (J.pin (b, o) (List.mem_append_right _ (List.mem_append_right _ (mem_pinsAt hb e)))).1, fun b hb => ?_, pa.2.1, pa.1⟩
        obtain ⟨o, e, d⟩ := T.obj _ _ t7 b hb
        exact (J.pin (b, o) (List.mem_append_right _ (List.mem_append_right _ (mem_pinsAt hb e)))).2.1
      cases ok with
      | false =>
        rw [if_neg Bool.false_ne_true] at q9 ⊢
        obtain ⟨m', hm, w9⟩ := hN _ _ q9
        obtain ⟨a1, a2, a3, a4⟩ := keep I9
        exact ⟨m', hm, i + 1, ys, H9, its, k, (I9.pins_of (pins' := []) (fun p hp => nomatch hp)).weak wk.1 wk.2, a1, a2, a3, v5, a4, Nat.le_succ_of_le l5, w9⟩
      | true =>
        rw [if_pos rfl] at q9 ⊢
        have hJ := he _ _ _ _ ([(s.heap.objs.size, { cls := .type "list", data := .seq its.toArray k })] ++ pinsAt fp s7.heap) (fun e s' => ∃ σ' H1 s1, Inv (compCx X own F scope (pushed s).heap.objs.size (pushed s) H (s.heap.objs.size :: fp)) ([(s.heap.objs.size, { cls := .type "list", data := .seq its.toArray k })] ++ pinsAt fp s7.heap) σ' H1 s1 ∧ CXE X.prog X.w X.stack H1 s1 (xUp E) e s')
          (fun pins' σ' H1 s1 e s' I1 hx => ⟨σ', H1, s1, I1.unpend I9.ok, hx⟩) [] s9 σ8 H9 _ I9.pend q9
        refine wpAny_mono hJ (fun u' s10 ⟨y, H10, I10', r10, q10⟩ => ?_) fun e s10 ⟨σ', H1, s1, I1, hx⟩ => ?_
        rotate_left
        · refine thn (CXF.note (X := X) (E := E) (cs := [(pushed s).heap.objs.size]) I.ok l.1 l.2.1 ?_ rfl) fun _ s' hs' => hE _ e s' hs'
          obtain ⟨x, T, C, d, a0, H', rfl, os, bare, un, hok, hx0, hT0, hHx, hHT, fl, q⟩ := hx
          have J1 := I1.call' os un hok bare (fun b z => absurd z (by simp))
          obtain ⟨a1, a2, a3, a4⟩ := keep J1
          obtain ⟨b1, b2, b3, b4⟩ := keep I1
          have hz' : ys.length ≤ sizeLine := Nat.le_trans l5 (Nat.le_of_lt hz)
          have I7' := comp_back I hf e3' (J1.pins_of (pins' := []) (fun p hp => nomatch hp)) hz' v5 a4 a3
          have I8' := comp_back I hf e3' (I1.pins_of (pins' := []) (fun p hp => nomatch hp)) hz' v5 b4 b3
          have hbase := I7'.base
          rw [l.2.2.1] at hbase
          have old : ∀ b, s1.heap.get? b = none → X.s₀.heap.get? b = none := fun b hb => by
            cases e : X.s₀.heap.get? b with
            | none => rfl
            | some o =>
              obtain ⟨o', e'⟩ := I8'.base.there b o e (by rw [l.2.2.1]; exact fun z => nomatch z)
              rw [hb] at e'; cases e'
          have nacc : ∀ b, s1.heap.get? b = none → b ≠ s.heap.objs.size := fun b hb z => by rw [← z, hb] at b4; cases b4
          have nfr : ∀ b, s1.heap.get? b = none → b ∉ frs X.stack := fun b hb z => by
            obtain ⟨o, e, _⟩ := fr_data I8'.stack b z
            rw [hb] at e; cases e
          have hCne : (pushed s).heap.objs.size ≠ s.heap.objs.size := fun z => by omega
          refine ⟨x, T, C, d, a0, _, _, rfl, I7'.os, I7'.bare, hbase, I7'.hok, old x hx0, old T hT0, by rw [upd_ne (nacc x hx0)]; exact hHx, by rw [upd_ne (nacc T hT0)]; exact hHT, fl, q _ _ a3, I7'.stack, I7'.stkFree, nfr x hx0, nfr T hT0, fun c hc => ?_⟩
          rw [List.mem_singleton.mp hc]
          obtain ⟨m, hm, _⟩ := J1.loc
          obtain ⟨m1, ⟨o1, _, _, ho1, _⟩, _⟩ := I1.loc
          refine ⟨⟨m, hm⟩, Heap.get?_none_of_le (Nat.le_trans I.sz (by omega)), by rw [upd_ne hCne]; exact J1.free, fun z => ?_, fun z => ?_, fun z => ?_⟩
          · obtain ⟨o, e, _⟩ := fr_data I.stack _ z
            have : (pushed s).heap.objs.size < s.heap.objs.size := Heap.lt_size e
            omega
          · have ho1' : s1.heap.get? (pushed s).heap.objs.size = some o1 := ho1
            rw [z, hx0] at ho1'; cases ho1'
          · have ho1' : s1.heap.get? (pushed s).heap.objs.size = some o1 := ho1
            rw [z, hT0] at ho1'; cases ho1'
        have I10 := I10'.unpend I9.ok
        obtain ⟨m', hm, w10⟩ := hN _ _ q10
        obtain ⟨a1, a2, a3, a4⟩ := keep I10
        have hl := v5.length
        refine call_meets PySem.F.slot_list_append ⟨_, a4, rfl⟩ PySem.F.entry_list_append (PySem.F.args_list_append_2 _ _) (PySem.list_append s.heap.objs.size its.toArray k u' (by rw [List.size_toArray]; omega)) ⟨a4, ?_⟩
        have q := PySem.IsL.update a4 (fun xs : Array Value => xs.push u')
        have eq : its.toArray.push u' = (its ++ [u']).toArray := by simp
        rw [eq] at q
        obtain ⟨x1, x2⟩ := I0.ok.exf s.heap.objs.size List.mem_cons_self
        have I11 := (I10.pins_of (pins' := []) (fun p hp => nomatch hp)).turned (it := s.heap.objs.size) (t' := s10.toks) (h' := s10.heap.update s.heap.objs.size (Obj.mapSeq (fun xs : Array Value => xs.push u'))) (fun b o hb e => (Heap.get?_update_other s10.heap _ (Ne.symm hb)).trans e) a3 x1 (.inl List.mem_cons_self) x2 (fun p hp => absurd (show p ∈ ([] : List (Addr × Obj)) from hp) (by simp))
        refine ⟨m', hm, i + 1, ys ++ [y], H10, its ++ [u'], _, I11.weak wk.1 wk.2, ?_, a2, a3, v5.append (.cons r10 .nil), q, by rw [List.length_append, List.length_singleton]; omega, w10⟩
        exact T.keep _ _ _ a1 fun b hb o e => (Heap.get?_update_other s10.heap _ (Nat.ne_of_gt (hlt b hb))).trans e
  have loop' := codeAny_mono loop (R' := fun r s' => Value.ref s.heap.objs.size = .ref s.heap.objs.size ∧ RR (pushed s).heap.objs.size r s') fun r s' z => ⟨rfl, z⟩
  exact codeAny_compStart_list loop' (T.self X.A 0 _ _ _ ht0 loop')
theorem pe_compX (S : CompSc X scope own F) (hc : X.calm = true) (hi : PI X tg iter wi)
    (hg : ∀ C s₃ H₃ ex, PG (compCx X own F scope C s₃ H₃ ex) tg g) (ht : ∀ C s₃ H₃ ex, PTs (compCx X own F scope C s₃ H₃ ex) ifs tt) (he : ∀ C s₃ H₃ ex pins W, Passes (CXE X.prog X.w) ((compCx X own F scope C s₃ H₃ ex).pend pins W) (xUp E) → PE ((compCx X own F scope C s₃ H₃ ex).pend pins W) elt te) (l : Lvs X E)
    (hs : ∀ x, foldedSetIterable iter X.env x = pure x := by intro _; rfl) : PE X (.ListComp elt [⟨tg, iter, ifs, 0⟩] scope pos) (tComp own F wi g tt te) := by
  intro pins s σ H Q I h
  rw [eval_ListComp]
  refine wpAny_comprehension_free (use := none) rfl hs (closureFor_clo (I.freeCells S)) S.kind S.lc ?_
  refine thn (hi pins s σ H _ I h) fun v s1 h1 => thn h1 fun itv s2 ⟨it, fp, tn, J, H2, e, I2, T, st2, f2, q2⟩ => ?_
  subst e
  refine thn (comp_runX (Q := Q) (RR := fun C r s' => compPost (model X.prog X.w) X.A X.xe none (EP X pins σ Q) (.ref s2.heap.objs.size) C r s') S hc hg ht he l I2 T st2 f2 q2 (fun C s4 H4 c1 c2 I4 q4 n4 hm => ?_) (fun C e s' hx => comp_err I.ok l hx)) fun acc s3 h3 => thn h3 fun cenv s4 h4 => codeAny_mono h4 fun r s' ⟨ea, hr⟩ => ?_
  · obtain ⟨m, hn⟩ := hm
    exact ⟨m, hn, fun h' hs' => ⟨.ref s2.heap.objs.size, H4, comp_letgo I2 c1 I4 n4 hs', rfl, q4⟩⟩
  · rw [ea]; exact hr
end
end L2
namespace L2
open PySem PySem.Spec PyProof.Rows PySem.W PySem.Builtin PySem.Builtin.ObjectAttr
structure Xp (K : Frag) (nm : Str) (C B : Addr) : Prop where
  obj : ∃ (N : Addr) (o : Obj), K.lookup C = some o ∧ XObj nm C N (.ref B :: veMro) o ∧ nsOkIn K N = true ∧ nsIn K N "__init__" = some none
  tl : tailIn K veMro (.ref B :: veMro) = true
  kp : keepIn K (.ref C) = true
section
variable {X : Cx} {C B : Addr} {nm : Str}
theorem run_make0 {pins : List (Addr × Obj)} {σ : St} {H : Hp} {s : Shared} {Qx : Value → Shared → Prop} {EE : Value → Shared → Prop} {us : List Value} (c : Xp X.K nm C B) (hex : X.ex = []) (I : Inv X pins σ H s) (hl : us.length ≤ 100)
    (q : ∀ x s', X.s₀.heap.get? x = none → H x = none → Inv X pins σ (upd H x (exO x C none)) s' → Qx (.ref x) s') : wpAny (model X.prog X.w) X.A (call (.ref C) us) Qx EE s := by
  obtain ⟨N, o, lk, ⟨q', bs, hdct, sn, sub, ab, col, dd, k0, k1, k2, k3, k5, rfl⟩, hns, hni⟩ := c.obj
  have hT := tail_of_in I.kIn c.tl
  have hC := I.kIn _ _ lk
  have hn : s.heap.Ns N (s.heap.nsMap N) := .of_isNs (isNs_of_in I.kIn hns)
  have hi : s.heap.nsMap N "__init__" = none := nsMap_none_of_in I.kIn hns hni
  have I1 := I
  obtain ⟨h, g, dr, t, os⟩ := s
  refine wpAny_call_exc_subT PySem.F.excBase_ValueError hT hC hn hi (fun h' x hm => ?_) (by rw [sizeLine_eq]; omega)
  obtain ⟨t', ht, _⟩ := hm.there
  have nn : ∀ b o, h.get? b = some o → b ≠ x := fun b o e z => by rw [z, hm.new] at e; cases e
  have hHx : H x = none := by
    cases e : H x with
    | none => rfl
    | some o =>
      obtain ⟨ob, hob⟩ := ObjOk.got (I1.hok x o e)
      rw [hm.new] at hob; cases hob
  have hx0 : X.s₀.heap.get? x = none := by
    cases e : X.s₀.heap.get? x with
    | none => rfl
    | some o =>
      obtain ⟨o', e'⟩ := I1.base.there x o e (by rw [hex]; exact fun z => nomatch z)
      rw [hm.new] at e'; cases e'
  refine q x _ hx0 hHx ((I1.kept (t' := t) hm.keeps).track hHx hx0 (fun z => ?_) (fun y c e z => ?_) (fun p hp z => ?_) (exO_ok ht rfl rfl))
  · obtain ⟨m, ⟨o, _, _, ho, _⟩, _⟩ := I1.loc
    exact nn _ _ ho z.symm
  · obtain ⟨v, o, ho, _⟩ := I1.cell y c e
    exact nn _ _ ho z
  · exact nn _ _ (I1.pin p hp).1 z
theorem drp_new {H : Hp} {x : Addr} {o : HO} (hx : H x = none) : drp (upd H x o) x = H := by
  funext b
  by_cases z : b = x
  · subst z; rw [drp_at, hx]
  · rw [drp_ne z, upd_ne z]
/-- raise C(text), C without an __init__ -/
def tXRaise0 (C : Addr) (E : XK) (t : TA) : TS := fun _ σ H => t σ H fun vs H1 => vs.length ≤ 100 ∧ E (.ref C) none H1
structure Xr0 (K : Frag) (mg : Str → Option Value) (cn : Str) (C : Addr) : Prop where
  ex : ∃ (nm : Str) (B : Addr), Xp K nm C B ∧ mg cn = some (.ref C)
theorem ps_raise0 {E : XK} {cn : Str} {p pos rpos : Pos} {e : Expr} {es : List Expr} {t : TA} (R : Xr0 X.K X.mg cn C) (hg : Gl X cn) (hcalm : X.calm = true) (l : Lvs X E) (ha : PA X (e :: es) t) (hdb : (cn == ("__debug__" : Str)) = false := by decide)
    (he : starEach (e :: es) X.env = (false, eval e X.env) :: starEach es X.env := by rfl) (hpl : (backTo pos (starEach es X.env)).any (·.1) = false := by rfl) : PS X (.Raise (some (.Call (.Name cn p) (e :: es) [] pos)) none rpos) (tXRaise0 C E t) := by
  intro pins s σ H D I h
  obtain ⟨nm, B, c, hm⟩ := R.ex
  obtain ⟨hs, hf, hex, hxe⟩ := l
  rw [arm_exec_Raise]
  refine wpAny_bind (wpAny_standAt ?_)
  show wpAny _ _ (raiseStmt X.env (some (do let v ← eval (.Call (.Name cn p) (e :: es) [] pos) X.env; standAt rpos; pure v)) none) _ _ _
  obtain ⟨N, o, lk, hX, _⟩ := c.obj
  refine raise_inst (nm := nm) (C := C) (N := N) (bm := .ref B :: veMro) (by rw [List.contains_cons, show veMro.contains (.type "BaseException") = true by decide, Bool.or_true]) (I.ok.hd hcalm) (wpAny_bind ?_)
  refine wpAny_Call_Name_kw (ld_glob I hg hm ?_ hdb)
  refine callWith_K (h₀ := X.base) I.ok.mod.kin c.kp (thn (ha pos pins s σ H _ I h) fun us s1 ⟨vs, H1, I1, r, hv, q⟩ => ⟨I1.kIn, ?_⟩) he hpl
  refine run_make0 c hex I1 (by show us.length ≤ 100; rw [← r.length]; exact hv) fun x s2 hx0 hx I2 => ?_
  refine wpAny_bind (wpAny_standAt (wpAny_pure ?_))
  have hH : upd H1 x (exO x C none) x = some (exO x C none) := upd_same
  obtain ⟨vs', e1, h6, h1⟩ := exO_is I2 hH
  refine ⟨x, _, _, vs', rfl, I2.kIn _ _ lk, hX, e1, rfl, rfl, h1, hxe _ _ (leave_new I2 hs hf hex hH hx0 ?_)⟩
  rw [drp_new hx]
  exact q
end
section
variable {prog : Program} {w : World} {A : Around} {K : Frag} {C x : Addr} {ox : Obj} {od : Option Obj} {name : Str} {E : Value → Shared → Prop} {s : Shared}
theorem gax_byg {tk : Tok} {fill expr : Bool} {Q : Value → Shared → Prop} (G : XGet K C) (hK : K.In s.heap) (I : InstAt s.heap x ox C od)
    (h : wpAny (model prog w) A.in1 (Builtin.«object.__getattribute__» ⟨[.ref x, .str name tk], []⟩) (fun fin s' => match fin with | .done (.ret v) => wpAny (model prog w) A (handedOut v) Q E s' | _ => False) (fun _ _ => False) s) :
    wpAny (model prog w) A (getAttrBy (.ref x) (.str name tk) fill expr) Q E s := by
  have hb : Looks (model prog w) s.heap (hookBefore (.ref C)) none := looks_hook hK (by rw [if_pos (by rfl)]; exact G.gt)
  have ht := I.type (M := model prog w)
  unfold getAttrBy
  refine wpAny_holding (wpAny_bind (ht _ _ _ _ (fun _ _ e => e) (wpAny_bind (looks_findIn hK G.ga _ _ _ _ (fun _ _ e => e) ?_))))
  dsimp only
  rw [show (onTheHeap (Value.ref C) && Value.builtin "BaseException.__getattribute__" == Value.builtin "object.__getattribute__") = false from by rw [show (Value.builtin "BaseException.__getattribute__" == Value.builtin "object.__getattribute__") = false from by decide +kernel, Bool.and_false], if_neg (by decide)]
  unfold getAttrByItsOwn
  refine wpAny_bind (hb _ _ _ _ (fun _ _ e => e) (wpAny_bind (wpAny_attempt (wpAny_holding ?_))))
  unfold callGetattribute
  rw [show (expr && onTheHeap (Value.builtin "BaseException.__getattribute__")) = false from Bool.and_false _, if_neg (by decide)]
  unfold boundAndCalled
  have FB := PySem.F.attr_ValueError
  rw [FB.ga.bind]
  refine wpAny_bind (wpAny_pure ?_)
  show wpAny _ _ (call (.builtin "BaseException.__getattribute__") [.ref x, .str name tk]) _ _ _
  refine wpAny_call ?_
  refine codeAny_call_builtin FB.ga.plain PySem.F.entry_bexc_ga ?_
  refine @check_slot (model prog w) _ _ s "BaseException.__getattribute__" "BaseException" "__getattribute__" (.ref x) [.str name tk] [] _ (by decide +kernel) (by decide +kernel) (ht.andThen (looks_mroIn hK G.bx)) (PySem.F.args_bexc_ga (.ref x) (.str name tk)) ?_
  refine wpAny_mono h (fun fin s' z => ?_) fun _ _ z => z.elim
  rcases fin with (_ | _ | _ | _) | _ <;> first | exact z | exact z.elim
theorem findObj_cl (G : XGet K C) : findObj K C od "__class__" = some (.bind (.builtin "getset_descriptor.__get__") (.builtin "object.__class__")) := by
  obtain ⟨cd, hc, _⟩ := any_some G.hd
  unfold findObj
  rw [hc, Option.bind_some, G.cl, Option.bind_some]
  simp [G.cg, G.ct]
theorem gax_classg {Q : Option Value → Shared → Prop} (G : XGet K C) (hK : K.In s.heap) (I : InstAt s.heap x ox C od) (h : Q (some (.ref C)) { s with toks := s.toks + 1 }) :
    wpAny (model prog w) A (getAttr? (.ref x) "__class__") Q E s := by
  have hf := findObj_cl (od := od) G
  unfold getAttr? getAttrBy?
  refine wpAny_bind (wpAny_mkText (wpAny_bind (wpAny_attempt (gax_byg (s := { s with toks := s.toks + 1 }) G hK I ?_))))
  obtain ⟨hh', g, d, t, os⟩ := s
  have L0 := I.type (M := model prog w)
  have L1 := looks_find (M := model prog w) hK I hf
  unfold Builtin.«object.__getattribute__»
  refine wpAny_bind (wpAny_pure (wpAny_bind (wpAny_pure (wpAny_bind (L0.at (wpAny_bind (L1.at ?_)))))))
  show wpAny _ _ (holding [Value.builtin "object.__class__"] (call (.builtin "getset_descriptor.__get__") [.builtin "object.__class__", .ref x, .ref C]) >>= ret) _ _ _
  refine wpAny_bind (wpAny_holding (wpAny_call (class_get (s := ⟨hh', g, d, t + 1, os⟩) hK I G.ob ?_)))
  refine wpAny_pure ?_
  show wpAny _ _ (handedOut (.ref C)) _ _ _
  rw [handedOut_of rfl]
  exact wpAny_pure (wpAny_pure h)
theorem kitx_excg (G : XGet K C) : KitX K (.ref x) (.ref C) (fun h => ∃ ox od, InstAt h x ox C od) where
  ty := fun _ _ _ ⟨_, _, I⟩ => I.type
  it := fun _ _ X _ => by
    obtain ⟨cdD, hcD, _⟩ := any_some G.hd
    unfold clsIn at hcD
    split at hcD
    · rename_i c' d' cd' sl' ho
      intro A' Q' E' s' k q
      unfold isType loadHead
      exact wpAny_bind (wpAny_loadPart (k _ _ (X _ _ ho)) (wpAny_pure q))
    · cases hcD
  ne := fun h tp dd its n sl X htp => by
    obtain ⟨cdD, hcD, _⟩ := any_some G.hd
    refine Bool.eq_false_iff.mpr fun q => ?_
    have e : C = tp := Value.ref.inj (beq_iff_eq.mp q)
    subst e
    unfold clsIn at hcD
    split at hcD
    · rename_i c' d' cd' sl' ho
      have z := (X _ _ ho).symm.trans htp
      cases z
    · cases hcD
  ca := fun X ⟨_, _, I⟩ k => gax_classg G X I k
end
section
variable {X : Cx} {pins : List (Addr × Obj)} {σ : St} {H : Hp} {s : Shared} {x C : Addr}
/-- an exception that was caught, as it lies -/
def Caught (H : Hp) (x C : Addr) : Prop := H x = some (exF x C none) ∨ ∃ d fs, H x = some (exF x C (some d)) ∧ H d = some (.xd fs)
theorem Caught.inst (h : Caught H x C) (I : Inv X pins σ H s) : ∃ ob od, InstAt s.heap x ob C od := by
  rcases h with h | ⟨d, fs, h, hd⟩
  · obtain ⟨ob, vs, e1, e2, e3, e4⟩ := (I.hok x _ h).1
    refine ⟨ob, none, ⟨e1, e2, ?_, by rw [e3]; trivial⟩⟩
    unfold notCls
    rw [e4]
  · obtain ⟨ob, od, J, _⟩ := exF_at I h hd
    exact ⟨ob, some od, J⟩
theorem Caught.same {H' : Hp} (h : Caught H x C) (g : ∀ b o, H b = some o → H' b = some o) : Caught H' x C := by
  rcases h with h | ⟨d, fs, h, hd⟩
  · exact .inl (g _ _ h)
  · exact .inr ⟨d, fs, g _ _ h, g _ _ hd⟩
theorem call_xis : CallR X (.builtin "isinstance") (fun vs H Q => ∃ x C D b, vs = [.ref x, .ref D] ∧ Caught H x C ∧ XGet X.K C ∧ kitOne X.K (.ref C) (.ref D) = some b ∧ Q (.bl b) H) := by
  intro pins s σ H xs us Q I r h
  obtain ⟨x, C, D, b, rfl, hc, G, hk, q⟩ := h
  obtain ⟨u, w', rfl, ru, rw'⟩ := vals2 r
  cases (show u = Value.ref x from ru)
  cases (show w' = Value.ref D from rw')
  obtain ⟨ob, od, J⟩ := hc.inst I
  exact kia_one (kitx_excg G) I.kIn ⟨ob, od, J⟩ hk (by intro z; cases z) fun tk => ⟨.bl b, H, I.tok _, rfl, q⟩
theorem vals_refs : ∀ {Ds : List Addr} {its : List Value}, Vals (Ds.map V.ref) its → its = Ds.map Value.ref
  | [], _, .nil => rfl
  | D :: Ds, _, .cons r t => by
    cases (show _ = Value.ref D from r)
    rw [vals_refs t]; rfl
theorem call_xist : CallR X (.builtin "isinstance") (fun vs H Q => ∃ (x C p : Addr) (Ds : List Addr) (b : Bool), vs = [.ref x, .ref p] ∧ H p = some (.tup (Ds.map V.ref)) ∧ Caught H x C ∧ XGet X.K C ∧ kitAny X.K (.ref C) (Ds.map Value.ref) = some b ∧ Q (.bl b) H) := by
  intro pins s σ H xs us Q I r h
  obtain ⟨x, C, p, Ds, b, rfl, hp, hc, G, hk, q⟩ := h
  obtain ⟨u, w', rfl, ru, rw'⟩ := vals2 r
  cases (show u = Value.ref x from ru)
  cases (show w' = Value.ref p from rw')
  obtain ⟨ob, od, J⟩ := hc.inst I
  obtain ⟨_, its, rv, ⟨c, dd, da, sl⟩, ho, hcl, n, hda⟩ := I.hok p _ hp
  have e := vals_refs rv
  subst e
  dsimp only at hcl hda
  subst hcl hda
  exact kia_tup (kitx_excg G) I.kIn ⟨ob, od, J⟩ ho hk (by intro z; cases z) fun tk => ⟨.bl b, H, I.tok _, rfl, q⟩
end
section
variable {X : Cx}
def isBl (b : Bool) : Value → Bool
  | .bool c => c == b
  | _ => false
theorem vals_bls : ∀ {bs : List Bool} {its : List Value}, Vals (bs.map V.bl) its → its = bs.map Value.bool
  | [], _, .nil => rfl
  | b :: bs, _, .cons r t => by
    cases (show _ = Value.bool b from r)
    rw [vals_bls t]; rfl
def rCountB (K : Frag) : V → List V → Hp → VK → Prop := fun x vs H Q => ∃ (p : Addr) (bs : List Bool) (b : Bool), x = .ref p ∧ vs = [.bl b] ∧ SqL K H p (bs.map V.bl) ∧ Q (.int (bs.count b)) H
theorem mt_count_b : MtR X "list.count" (rCountB X.K) := by
  intro pins s σ H x vs v us Q I rx rv h
  obtain ⟨p, bs, b, rfl, rfl, hq, q⟩ := h
  cases rx
  obtain ⟨u, rfl, rfl⟩ : ∃ u, us = [u] ∧ u = Value.bool b := rv.one
  obtain ⟨its, r, pl, _⟩ := I.list hq
  have e := vals_bls r
  subst e
  obtain ⟨⟨cls, dd, data, sl⟩, ho, hc, n, hd⟩ := id pl.isList
  simp only at hc hd
  subst hc hd
  refine call_meets PySem.F.slot_list_count ⟨_, ho, rfl⟩ PySem.F.entry_list_count (PySem.F.args_list_count_2 _ _) (SeqAt.list_countAt p _ n dd sl (.bool b) (isBl b)) ⟨ho, fun y hy => ?_, ?_⟩
  · obtain ⟨c, _, rfl⟩ := List.mem_map.mp (show y ∈ bs.map Value.bool by simpa using hy)
    exact SeqAt.EqAt.bool_bool c b
  · have e : List.countP (isBl b) ((bs.map Value.bool).toArray.toList) = bs.count b := by
      rw [List.toList_toArray, List.countP_map]; rfl
    rw [e]
    exact ⟨.int (bs.count b), H, I.tok _, ⟨_, rfl⟩, q⟩
def rIndexB (K : Frag) : V → List V → Hp → VK → Prop := fun x vs H Q => ∃ (p : Addr) (bs : List Bool) (b : Bool) (j : Nat), x = .ref p ∧ vs = [.bl b] ∧ SqL K H p (bs.map V.bl) ∧ bs[j]? = some b ∧ (∀ i, i < j → bs[i]? ≠ some b) ∧ j < 1000 ∧ Q (.int j) H
theorem mt_index_b : MtR X "list.index" (rIndexB X.K) := by
  intro pins s σ H x vs v us Q I rx rv h
  obtain ⟨p, bs, b, j, rfl, rfl, hq, hj, hno, hsm, q⟩ := h
  cases rx
  obtain ⟨u, rfl, rfl⟩ : ∃ u, us = [u] ∧ u = Value.bool b := rv.one
  obtain ⟨its, r, pl, _⟩ := I.list hq
  have e := vals_bls r
  subst e
  have hjl : j < bs.length := (List.getElem?_eq_some_iff.mp hj).1
  obtain ⟨⟨cls, dd, data, sl⟩, ho, hc, n, hd⟩ := id pl.isList
  simp only at hc hd
  subst hc hd
  refine call_meets PySem.F.slot_list_index ⟨_, ho, rfl⟩ PySem.F.entry_list_index (PySem.F.args_list_index_2 _ _) (SeqAt.list_indexAt p _ n dd sl (.bool b) (isBl b) j (by simp; omega) (by omega) ?_ ?_) ⟨ho, fun y hy => ?_, ⟨.int j, H, I.tok _, ⟨_, rfl⟩, q⟩⟩
  · obtain ⟨hj', e⟩ := List.getElem?_eq_some_iff.mp hj
    show isBl b ((bs.map Value.bool).toArray[j]'(by simp; omega)) = true
    simp [isBl, e]
  · intro m hm hlt
    have hm' : m < bs.length := by simpa using hm
    have := hno m hlt
    rw [List.getElem?_eq_getElem hm'] at this
    show isBl b ((bs.map Value.bool).toArray[m]) = false
    simp only [List.getElem_toArray, List.getElem_map, isBl]
    exact beq_eq_false_iff_ne.mpr fun e => this (by rw [e])
  · obtain ⟨c, _, rfl⟩ := List.mem_map.mp (show y ∈ bs.map Value.bool by simpa using hy)
    exact SeqAt.EqAt.bool_bool c b
end
end L2
namespace L2
open PySem PySem.Spec PyProof.Rows
section
variable {X : Cx} {T id : String} {name : Str} {r : V → List V → Hp → VK → Prop} {o e : Expr} {es : List Expr} {to : TE} {t : TA} {apos cpos : Pos}
theorem pet_bm (pa : PlainAttrs T) (slot : Slot T name id) (hty : typeOf (.builtin id) = pure (.type "method_descriptor")) (hm : MtR X id r) (ho : PEt X o to) (ha : PA X (e :: es) t)
    (hbase : attributeBase o name X.env (eval o X.env) = eval o X.env := by rfl)
    (hfew : ((backTo cpos (starEach (e :: es) X.env)).all (fun x => !x.1) && (backToKw cpos (keywordEach [] X.env)).all (fun x => x.1.isSome)
      && decide ((e :: es).length + ([] : List Keyword).length + (if ([] : List Keyword).isEmpty then 0 else 1) < 30)) = true := by rfl)
    (hline : (apos.endLine == cpos.line) = true := by rfl) (hs : starEach (e :: es) X.env = (false, eval e X.env) :: starEach es X.env := by rfl) (hplain : (backTo cpos (starEach es X.env)).any (·.1) = false := by rfl) :
    PEt X (.Call (.Attribute o name apos) (e :: es) [] cpos) (tBM X.K T r to t) := by
  intro pins s σ H Q I h0 h
  refine wpAny_Call_method_late hbase hfew hline rfl (thn (ho pins s σ H _ I h0 h) fun v s1 ⟨x, H1, I1, r1, ty, q1⟩ => ?_)
  obtain ⟨h1, h2⟩ := tyV_is I1 r1 ty
  refine ⟨T, id, pa, slot, hty, h1, h2, ?_⟩
  have hA := ha cpos pins s1 σ H1 _ I1 q1
  rw [hs] at hA ⊢
  refine Calls.callWith_builtin (by show (false || (backTo cpos (starEach es X.env)).any (·.1)) = false; rw [hplain] <;> rfl) (Calls.evalArgs_plain ?_)
  exact thn hA fun us s2 ⟨vs, H2, I2, r2, q2⟩ => hm pins s2 σ H2 x vs v us Q I2 r1 r2 q2
end
end L2
namespace L2
open PySem PySem.Spec PyProof.Rows
section
variable {X : Cx}
def rMulB : R2 := fun x y H Q => ∃ z n, x = .str z ∧ y = .int n ∧ z.length ≤ 100 ∧ 0 ≤ n ∧ n ≤ 10000 ∧ Q (.str (tx (List.replicate n.toNat (ts z)).flatten)) H
theorem op_mul_strB : OpR X (binaryOp .Mult) rMulB := by
  intro pins s σ H x y v u Q I rx ry h
  obtain ⟨z, n, rfl, rfl, hz, h0, h1, q⟩ := h
  obtain ⟨t, rfl⟩ := rx
  obtain ⟨t', rfl⟩ := ry
  refine SB.mul ⟨by rw [decide_eq_false (by omega), decide_eq_false (by omega)]; rfl, fun a _ b => ?_, fun a _ => ?_⟩ fun t' k => ⟨.str (Txt.mul z n), H, I.tok _, ⟨_, rfl⟩, by rw [mul_tx]; exact q⟩
  · have h2 : (922337203685477 : Int) ≤ (2 ^ 63 - 1 : Int) / n := Int.le_ediv_of_mul_le (by omega) (by omega)
    omega
  · unfold PySem.Builtin.Str.tooLong
    have e : z.length * n.toNat ≤ 100 * 10000 := Nat.mul_le_mul hz (by omega)
    exact decide_eq_false (by rw [sizeLine_eq]; omega)
end
/-- a list of texts, none too long -/
def SLs (n : Nat) (H : Hp) (p : Addr) : Prop := ∃ xs : List V, H p = some (.lst xs) ∧ (∀ v ∈ xs, ∃ z : Str, v = .str z ∧ z.length ≤ 6000) ∧ 0 < xs.length ∧ xs.length ≤ n
theorem SLs.same {n : Nat} {H H' : Hp} {p : Addr} (h : SLs n H p) (g : ∀ b o, H b = some o → H' b = some o) : SLs n H' p := by
  obtain ⟨xs, h1, h2⟩ := h
  exact ⟨xs, g _ _ h1, h2⟩
theorem all_nil {P : V → Prop} : ∀ v ∈ ([] : List V), P v := fun _ h => nomatch h
theorem all_cons {P : V → Prop} {v : V} {r : List V} (h : P v) (hr : ∀ w ∈ r, P w) : ∀ w ∈ v :: r, P w := fun w hw => by
  rcases List.mem_cons.mp hw with z | z
  · rw [z]; exact h
  · exact hr w z
end L2
namespace L2
open PySem PySem.Spec PyProof.Rows
section
variable {X : Cx}
theorem occ_has {z : List Nat} {c : Nat} (h : c ∈ z) : ∃ (i : Nat) (rest : List Nat), i < z.length ∧ PySem.Builtin.Str.occurrences (tx z) (tx [c]) 0 (tx z).length 1 = i :: rest := by
  have hl : (tx z).length = z.length := tx_len z
  have h0 : fromIndex (tx z).length (0 : Int) = 0 := by
    unfold fromIndex
    rw [if_neg (by omega)]
    omega
  obtain ⟨j, hj, e⟩ := List.mem_iff_getElem.mp h
  have hat : (tx z).cps.getD j 0 = c := by
    show z.toArray.getD j 0 = c
    simp [hj, e]
  rcases StrLaws.find3_spec (tx z) c (0 : Int) with ⟨e1, n⟩ | ⟨k, e1, k1, k2, k3, k4⟩
  · rw [h0] at n
    exact absurd hat (n j (by omega) (by omega))
  · have e1 : Txt.find3 (tx z) (tx [c]) 0 = (k : Int) := e1
    unfold Txt.find3 at e1
    rw [h0] at e1
    cases eo : PySem.Builtin.Str.occurrences (tx z) (tx [c]) 0 (tx z).length 1 with
    | nil => rw [eo] at e1; simp only at e1; omega
    | cons i rest =>
      rw [eo] at e1
      simp only at e1
      exact ⟨i, rest, by omega, rfl⟩
def rIndexS : V → List V → Hp → VK → Prop := fun x vs H Q => ∃ (z : List Nat) (c : Nat), x = .str (tx z) ∧ vs = [.str (tx [c])] ∧ c ∈ z ∧ ∀ i : Nat, i < z.length → Q (.int i) H
theorem mt_index_s : MtR X "str.index" rIndexS := by
  intro pins s σ H x vs v us Q I rx rv h
  obtain ⟨z, c, rfl, rfl, hc, q⟩ := h
  obtain ⟨t, rfl⟩ := rx
  obtain ⟨u1, rfl, ⟨t1, rfl⟩⟩ := rv.one
  obtain ⟨i, rest, hi, ho⟩ := occ_has hc
  exact call_gives F.slot_str_index (typeIs_str _ _ _) F.entry_str_index (F.args_str_index_2 _ _) (gives_str_index (tx z) (tx [c]) t t1 i rest ho) ⟨.int i, H, I.tok _, ⟨_, rfl⟩, q i hi⟩
end
end L2
namespace K32
open PySem L2
local macro_rules | `(tactic| walk_at "rd") => `(tactic| simp only [cxOf_K, nox_K, compCx_K, tSeq, tNext, tAsg, gName, tRet, tRetN, tIfS, tDrop, tOp, tUn, tVar, tC, tCall, tCons, tNil, tTest, tB, tAnd, tOr, tNot, tAndV, tOrV, tNotV, tIf, tCB, tBM, tComp, tTrue, tPart, tNoPart, tSl, tChain, tIsN, tNotN, tLst, tTup, tFor_eq, sDPut, tDNewK, tNever, rI0, rI, rU, rEq, rNe, rMulS, rInC, iRng1, iStr, CDiv, CMul, CPow, scal, List.append_nil, List.getElem?_cons_zero, List.getElem?_cons_succ, List.set_cons_zero, List.set_cons_succ, List.map_cons, List.map_nil, List.length_cons, List.length_nil, sizeLine_eq, Nat.reduceAdd, Nat.reduceLeDiff, Option.join_some, Option.join_none, Option.some.injEq, V.int.injEq, V.str.injEq, V.bl.injEq, V.ref.injEq, V.ty.injEq, List.cons.injEq, and_true, true_and, and_self, exists_eq_left', exists_eq_left, exists_and_left, exists_and_right, decide_eq_true_eq, Bool.not_eq_eq_eq_not, Bool.not_true, Bool.not_false, decide_eq_false_iff_not, Int.reduceLT, Int.reduceLE, Int.reduceNeg, Int.reducePow, Int.reduceAdd, Int.reduceSub, Int.reduceMul, Int.reduceToNat, natAbs10, Nat.reduceLT, Nat.reducePow, or_true, true_or, if_true, if_false, Bool.false_eq_true, ite_true, ite_false, reduceCtorEq])
seal L2.PSs L2.PS L2.PE L2.PT L2.PW L2.PA L2.PI L2.PG L2.PGs L2.PPs L2.PTs
def top (i : Nat) : Stmt := PySem.Challenge.pw_cabinet_k32_paths_read.main.body.getD i (.Pass ⟨0, 0, 0, 0⟩)
abbrev sCell : Stmt := top 36
def cellF (ns : List Int) (k : Int) : Int :=
  let m := if ns = [] then k * 7919 else (k * 7919 + k / ns.length * 104729 + ns.getD (k % ns.length).toNat 0 * 48271) % 1000003
  (m * m / 11 + 13 * m) % 1000003
theorem cellF_lo (ns : List Int) (k : Int) : 0 ≤ cellF ns k := Int.emod_nonneg _ (by decide)
theorem cellF_hi (ns : List Int) (k : Int) : cellF ns k < 1000003 := Int.emod_lt_of_pos _ (by decide)
def spCell (K : PySem.W.Frag) : Sp := fun vs H Q _ => ∃ (a : Addr) (ns : List Int) (k : Int), vs = [.ref a, .int k] ∧ SqL K H a (ns.map V.int) ∧ ns.length ≤ 63 ∧ 0 ≤ k ∧ k < 1000000 ∧ ∀ H', Same H H' → Q (.int (cellF ns k)) H'
theorem spCell_i {K : PySem.W.Frag} {H : Hp} {Q : VK} {E : XK} {a : Addr} {ns : List Int} {k : Int} (hS : SqL K H a (ns.map V.int)) (h63 : ns.length ≤ 63) (h0 : 0 ≤ k) (h1 : k < 1000000) (q : ∀ H', Same H H' → Q (.int (cellF ns k)) H') :
    spCell K [.ref a, .int k] H Q E := ⟨a, ns, k, rfl, hS, h63, h0, h1, q⟩
section
variable {P : Program} {w : World} {K : PySem.W.Frag} {mg : Str → Option Value} {base : Heap} {f : Addr} {fd : FuncData}
theorem scCell : FnScope ["_law_script", "_law_k", "_law_more"] ["_law_script", "_law_k"] (defScope sCell) := ⟨rfl, rfl, rfl, by decide +kernel, rfl, by decide +kernel, by decide +kernel⟩
theorem ok_cell (F : Fun K "_law_cell" "_law_cell" sCell f fd) (B : Bl mg) : FnOk P w K mg base CX0 1 f fd ["_law_script", "_law_k"] (spCell K) := by
  refine F.ok scCell (fun vs H Q E h => ?_) (fun cdv A outer s H vs Q E hr h => ?_)
  · obtain ⟨a, ns, k, rfl, _⟩ := h
    rfl
  obtain ⟨a, ns, k, rfl, hS, h63, h0, h1, q⟩ := h
  have nd := scCell.nd
  have hu0 := hr.units0
  refine ⟨_, (pss_cons (ps_set (i := 2) nd rfl (Or.inl rfl) (pe_op op_mul (pv 1) pe_int))
    (pss_cons (ps_if (pt_cmpR (op_ne_l hu0) (pv 0) (pe_lst pa_nil) (nomark _)) (pss_cons (ps_set (i := 2) nd rfl (Or.inl rfl) (pe_op op_add (pv 2) (pe_op op_mul (pe_op op_fdiv (pv 1) (pe_callB call_len_l rfl B.len bt_len (pa_cons (pv 0) pa_nil))) pe_int)))
    (pss_one (ps_set (i := 2) nd rfl (Or.inl rfl) (pe_op op_mod (pe_op op_add (pv 2) (pe_op op_mul (pe_ix ix_list (pv 0) (pe_op op_mod (pv 1) (pe_callB call_len_l rfl B.len bt_len (pa_cons (pv 0) pa_nil))) (fun _ _ => rfl)) pe_int)) pe_int)))) pss_nil)
    (pss_one (ps_ret (pe_op op_mod (pe_op op_add (pe_op op_fdiv (pe_op op_mul (pv 2) (pv 2)) pe_int) (pe_op op_mul pe_int (pv 2))) pe_int))))), ?_⟩
  rw [show start ["_law_script", "_law_k", "_law_more"] [.ref a, .int k] = [some (.ref a), some (.int k), none] from rfl]
  walk_at "rd"
  intro p hp
  have hS' := (same_new hp (.lst [])).seq hS
  refine rEqL_i hS' (SqL.of upd_same) (flat_ints ns) rfl ⟨_, rfl, ?_⟩
  rw [eqLs_nil]
  by_cases hn : ns = []
  · subst hn
    refine iteF ⟨.inl (by omega), ?_⟩
    exact q _ (same_new hp _)
  · have hpos : 0 < ns.length := List.length_pos_iff.mpr hn
    have e1 : (ns.map V.int).isEmpty = false := by cases ns with | nil => exact absurd rfl hn | cons _ _ => rfl
    rw [if_pos rfl, e1]
    have hl : (ns.map V.int).length = ns.length := List.length_map _
    have hm0 : 0 ≤ k % (ns.length : Int) := Int.emod_nonneg _ (by omega)
    have hm1 : k % (ns.length : Int) < ns.length := Int.emod_lt_of_pos _ (by omega)
    refine iteT ⟨ns.map V.int, hS', by rw [hl]; omega, ns.map V.int, hS', by rw [hl]; omega, ?_⟩
    rw [hl]
    refine rIxL_i hS' (atI_getD (d := .int 0) hm0 (by rw [hl]; exact hm1)) ⟨ns.getD (k % ns.length).toNat 0, ?_, .inl ?_, ?_⟩
    · simp [List.getD, List.getElem?_map]
    · generalize (k * 7919 + k / ns.length * 104729 + ns.getD (k % ns.length).toNat 0 * 48271) = z
      omega
    · have e : cellF ns k = _ := rfl
      have e2 : cellF ns k = (((k * 7919 + k / ns.length * 104729 + ns.getD (k % ns.length).toNat 0 * 48271) % 1000003 * ((k * 7919 + k / ns.length * 104729 + ns.getD (k % ns.length).toNat 0 * 48271) % 1000003) / 11 + 13 * ((k * 7919 + k / ns.length * 104729 + ns.getD (k % ns.length).toNat 0 * 48271) % 1000003)) % 1000003) := by
        unfold cellF; rw [if_neg hn]
      rw [← e2]
      exact q _ (same_new hp _)
end
end K32
namespace K32
open PySem L2
local macro_rules | `(tactic| walk_at "rd") => `(tactic| simp only [cxOf_K, nox_K, compCx_K, tSeq, tNext, tAsg, gName, tRet, tRetN, tIfS, tDrop, tOp, tUn, tVar, tC, tCall, tCons, tNil, tTest, tB, tAnd, tOr, tNot, tAndV, tOrV, tNotV, tIf, tCB, tBM, tComp, tTrue, tPart, tNoPart, tSl, tChain, tIsN, tNotN, tLst, tTup, tFor_eq, sDPut, tDNewK, tNever, rI0, rI, rU, rEq, rNe, rMulS, rInC, iRng1, iStr, CDiv, CMul, CPow, scal, List.append_nil, List.getElem?_cons_zero, List.getElem?_cons_succ, List.set_cons_zero, List.set_cons_succ, List.map_cons, List.map_nil, List.length_cons, List.length_nil, sizeLine_eq, Nat.reduceAdd, Nat.reduceLeDiff, Option.join_some, Option.join_none, Option.some.injEq, V.int.injEq, V.str.injEq, V.bl.injEq, V.ref.injEq, V.ty.injEq, List.cons.injEq, and_true, true_and, and_self, exists_eq_left', exists_eq_left, exists_and_left, exists_and_right, decide_eq_true_eq, Bool.not_eq_eq_eq_not, Bool.not_true, Bool.not_false, decide_eq_false_iff_not, Int.reduceLT, Int.reduceLE, Int.reduceNeg, Int.reducePow, Int.reduceAdd, Int.reduceSub, Int.reduceMul, Int.reduceToNat, natAbs10, Nat.reduceLT, Nat.reducePow, or_true, true_or, if_true, if_false, Bool.false_eq_true, ite_true, ite_false, reduceCtorEq])
seal L2.PSs L2.PS L2.PE L2.PT L2.PW L2.PA L2.PI L2.PG L2.PGs L2.PPs L2.PTs
section
variable {P : Program} {w : World} {K : PySem.W.Frag} {mg : Str → Option Value} {base : Heap} {f : Addr} {fd : FuncData}
abbrev sName : Stmt := top 37
def spName : Sp := fun vs H Q _ => ∃ (m : Int), vs = [.int m] ∧ 0 ≤ m ∧ m < 2000000 ∧ ∀ (x : List Nat), okName x = true → ∀ H', Same H H' → Q (.str (tx x)) H'
theorem scName : FnScope ["_law_more", "_law_letters", "_law_size", "_law_at", "_law_word_here", "_law_rest"] ["_law_more"] (defScope sName) := ⟨rfl, rfl, rfl, by decide +kernel, rfl, by decide +kernel, by decide +kernel⟩
theorem ok_name (F : Fun K "_law_name_by" "_law_name_by" sName f fd) (B : Bl mg) : FnOk P w K mg base CX0 1 f fd ["_law_more"] spName := by
  refine F.ok scName (fun vs H Q E h => ?_) (fun cdv A outer s H vs Q E hr h => ?_)
  · obtain ⟨m, rfl, _⟩ := h
    rfl
  obtain ⟨m, rfl, h0, h1, q⟩ := h
  have nd := scName.nd
  refine ⟨_, (pss_cons (ps_set (i := 1) nd rfl (Or.inr rfl) pe_str)
    (pss_cons (ps_set (i := 2) nd rfl (Or.inl rfl) (pe_ix ix_list (pe_lst (pa_cons pe_int (pa_cons (pe_op op_add pe_int (pe_op op_mod (pe_op op_fdiv (pv 0) pe_int) pe_int)) (pa_cons (pe_op op_add pe_int (pe_op op_mod (pe_op op_fdiv (pv 0) pe_int) pe_int)) pa_nil)))) (pe_op op_mod (pv 0) pe_int) (fun _ _ => rfl)))
    (pss_cons (ps_if (pt_cmpR op_eq (pe_op op_mod (pe_op op_fdiv (pv 0) pe_int) pe_int) pe_int (nomark _)) (pss_cons (ps_set (i := 3) nd rfl (Or.inl rfl) (pe_op op_mod (pe_op op_fdiv (pv 0) pe_int) (pv 2)))
    (pss_cons (ps_set (i := 4) nd rfl (Or.inl rfl) (pe_op op_add_str (pe_op op_add_str (pe_op op_mul_str pe_str (pv 3)) (pe_ix ix_str (pv 1) (pe_op op_mod (pe_op op_fdiv (pv 0) pe_int) pe_int) (fun _ _ => rfl))) (pe_op op_mul_str pe_str (pe_op op_sub (pe_op op_sub (pv 2) (pv 3)) pe_int))))
    (pss_one (ps_ret (pv 4))))) pss_nil)
    (pss_cons (ps_set (i := 5) nd rfl (Or.inl rfl) (pe_bm PySem.F.plainAttrs_str PySem.F.slot_str_join PySem.F.type_str_join mt_join pe_str (pa_cons (pe_comp (own := ["_law_j"]) (F := [("_law_letters", 1), ("_law_more", 0)]) ⟨rfl, by with_unfolding_all rfl, by with_unfolding_all rfl, by with_unfolding_all rfl, (.cons rfl rfl rfl (.cons rfl rfl rfl .nil))⟩ rfl (pi_range1 rfl B.range (pa_cons (pe_op op_sub (pv 2) pe_int) pa_nil)) (fun _ _ _ _ => pg_name (i := 0) (by show (compN ["_law_j"] [("_law_letters", 1), ("_law_more", 0)]).Nodup; decide +kernel) rfl (Or.inl rfl)) (fun _ _ _ _ => pts_nil) (fun _ _ _ _ => (pe_ix ix_str (pv 1) (pe_op op_mod (pe_op op_add (pe_op op_fdiv (pv 2) pe_int) (pe_op op_mul (pv 0) (pe_op op_add pe_int (pe_op op_mod (pe_op op_fdiv (pv 2) pe_int) pe_int)))) pe_int) (fun _ _ => rfl)))) pa_nil)))
    (pss_one (ps_ret (pe_op op_add_str (pe_ix ix_str (pv 1) (pe_op op_mod (pe_op op_fdiv (pv 0) pe_int) pe_int) (fun _ _ => rfl)) (pv 5)))))))), ?_⟩
  rw [show start ["_law_more", "_law_letters", "_law_size", "_law_at", "_law_word_here", "_law_rest"] [.int m] = [some (.int m), none, none, none, none, none] from rfl]
  walk_at "rd"
  intro p hp
  obtain ⟨v, hv, hm⟩ := atI_of (xs := [V.int 1, V.int (1 + m / 3 % 4), V.int (1 + m / 3 % 12)]) (i := m % 3) (by omega) (by simp only [List.length_cons, List.length_nil]; omega)
  obtain ⟨n, rfl, n1, n12⟩ : ∃ n : Int, v = .int n ∧ 1 ≤ n ∧ n ≤ 12 := by
    simp only [List.mem_cons, List.not_mem_nil, or_false] at hm
    rcases hm with rfl | rfl | rfl <;> exact ⟨_, rfl, by omega, by omega⟩
  refine rIxL_i (SqL.of upd_same) hv ?_
  simp only [ts_a, rep_one, of_nil]
  split
  · have a0 := Int.emod_nonneg (m / 72) (show n ≠ 0 by omega)
    have a1 := Int.emod_lt_of_pos (m / 72) (show 0 < n by omega)
    obtain ⟨c, hc, hcl⟩ := at_l26 (i := m / 864 % 26) (by omega) (by omega)
    refine ⟨n, rfl, by omega, by decide, by omega, by omega, rIxS_i (by decide) (by rw [ts_l36]; exact hc) ⟨_, rfl, ?_, n, rfl, by decide, by omega, by omega, ?_, ?_⟩⟩
    · rw [tx_len, tx_len]; simp only [List.length_replicate, List.length_singleton]; omega
    · rw [app_tx, tx_len, tx_len]; simp only [List.length_append, List.length_replicate, List.length_singleton]; omega
    · have e : tx (List.replicate (m / 72 % n).toNat 97) ++ tx [c] ++ tx (List.replicate (n - m / 72 % n - 1).toNat 97) = tx (List.replicate (m / 72 % n).toNat 97 ++ [c] ++ List.replicate (n - m / 72 % n - 1).toNat 97) := by rw [app_tx, app_tx]
      rw [e]
      refine q _ (okName_of ?_ ?_ ?_) _ (same_new hp _)
      · simp only [List.length_append, List.length_replicate, List.length_singleton]; omega
      · cases e : (m / 72 % n).toNat with
        | zero => exact ⟨c, _, rfl, hcl⟩
        | succ k => exact ⟨97, _, rfl, a_letL⟩
      · intro d hd
        simp only [List.mem_append, List.mem_replicate, List.mem_singleton] at hd
        rcases hd with (⟨_, rfl⟩ | rfl) | ⟨_, rfl⟩
        · exact letL_sub a_letL
        · exact letL_sub hcl
        · exact letL_sub a_letL
  · refine ⟨rfl, n, rfl, by omega, by omega, comp_rng (fun i ys H' => Same (upd H p (.lst [V.int 1, V.int (1 + m / 3 % 4), V.int (1 + m / 3 % 12)])) H' ∧ ∃ cs : List Nat, ys = (cs.map fun c => tx [c]).map V.str ∧ cs.length = i ∧ ∀ c ∈ cs, c ∈ letL ++ figL) (by rw [sizeLine_eq]; omega) ⟨Same.refl _, [], rfl, rfl, fun _ h => nomatch h⟩ ?_ ?_⟩
    · rintro i ys H' hi _ ⟨hs, cs, rfl, hl, hcs⟩
      walk_at "rd"
      obtain ⟨c, hc, hcl⟩ := at_l36 (i := (m / 7 + (0 + (i : Int)) * (1 + m / 11 % 35)) % 36) (by omega) (by omega)
      refine ⟨.inl (by omega), rIxS_i (by decide) (by rw [ts_l36]; exact hc) ⟨hs, cs ++ [c], by simp, by simp [hl], ?_⟩⟩
      intro d hd
      rcases List.mem_append.mp hd with z | z
      · exact hcs d z
      · rw [List.mem_singleton.mp z]; exact hcl
    · rintro ys H' hl ⟨hs, cs, rfl, hlen, hcs⟩ p' hp'
      obtain ⟨c, hc, hcl⟩ := at_l26 (i := m / 72 % 26) (by omega) (by omega)
      have hfl : ((cs.map fun c => tx [c]).map ts).flatten = cs := by
        clear hlen hl hcs
        induction cs with
        | nil => rfl
        | cons d r ih => simp only [List.map_cons, List.flatten_cons, ih, ts_tx]; rfl
      refine ⟨p', cs.map fun c => tx [c], rfl, rfl, SqL.of upd_same, by rw [hfl]; omega, rIxS_i (by decide) (by rw [ts_l36]; exact hc) ⟨_, rfl, _, rfl, ?_, ?_⟩⟩
      · rw [hfl, tx_len, tx_len, List.length_singleton]; omega
      · rw [hfl, app_tx]
        refine q _ (okName_of ?_ ⟨c, cs, rfl, hcl⟩ ?_) _ ((same_new hp _).trans (hs.trans (same_new hp' _)))
        · show (c :: cs).length ≤ 12
          rw [List.length_cons]; omega
        · intro d hd
          rcases List.mem_cons.mp hd with z | z
          · rw [z]; exact letL_sub hcl
          · exact hcs d z
end
end K32
namespace K32
open PySem L2
local macro_rules | `(tactic| walk_at "rd") => `(tactic| simp only [cxOf_K, nox_K, compCx_K, tSeq, tNext, tAsg, gName, tRet, tRetN, tIfS, tDrop, tOp, tUn, tVar, tC, tCall, tCons, tNil, tTest, tB, tAnd, tOr, tNot, tAndV, tOrV, tNotV, tIf, tCB, tBM, tComp, tTrue, tPart, tNoPart, tSl, tChain, tIsN, tNotN, tLst, tTup, tFor_eq, sDPut, tDNewK, tNever, rI0, rI, rU, rEq, rNe, rMulS, rInC, iRng1, iStr, CDiv, CMul, CPow, scal, List.append_nil, List.getElem?_cons_zero, List.getElem?_cons_succ, List.set_cons_zero, List.set_cons_succ, List.map_cons, List.map_nil, List.length_cons, List.length_nil, sizeLine_eq, Nat.reduceAdd, Nat.reduceLeDiff, Option.join_some, Option.join_none, Option.some.injEq, V.int.injEq, V.str.injEq, V.bl.injEq, V.ref.injEq, V.ty.injEq, List.cons.injEq, and_true, true_and, and_self, exists_eq_left', exists_eq_left, exists_and_left, exists_and_right, decide_eq_true_eq, Bool.not_eq_eq_eq_not, Bool.not_true, Bool.not_false, decide_eq_false_iff_not, Int.reduceLT, Int.reduceLE, Int.reduceNeg, Int.reducePow, Int.reduceAdd, Int.reduceSub, Int.reduceMul, Int.reduceToNat, natAbs10, Nat.reduceLT, Nat.reducePow, or_true, true_or, if_true, if_false, Bool.false_eq_true, ite_true, ite_false, reduceCtorEq])
seal L2.PSs L2.PS L2.PE L2.PT L2.PW L2.PA L2.PI L2.PG L2.PGs L2.PPs L2.PTs
section
variable {P : Program} {w : World} {K : PySem.W.Frag} {mg : Str → Option Value} {base : Heap} {f : Addr} {fd : FuncData}
abbrev sGood : Stmt := top 44
def nameV : V → Bool
  | .str x => okName (ts x)
  | _ => false
def spGood : Sp := fun vs H Q _ => ∃ (v : V) (t : String), vs = [v] ∧ tyS H v = some t ∧ (∀ x, v = .str x → x.length ≤ 100000) ∧ ∀ H', Same H H' → Q (.bl (nameV v)) H'
theorem not_str {H : Hp} {v : V} {t : String} (ht : tyS H v = some t) (h : isSub t "str" = false) : nameV v = false := by
  cases v with
  | str x => cases ht; exact absurd h (by decide)
  | _ => rfl
theorem str_of {H : Hp} {v : V} {t : String} (ht : tyS H v = some t) (h : ¬ isSub t "str" = false) : ∃ x, v = .str x := by
  cases v with
  | str x => exact ⟨x, rfl⟩
  | ref a =>
    have h' : (match H a with | some (.lst _) => some "list" | some (.tup _) => some "tuple" | some (.dK _) => some "dict" | _ => none) = some t := ht
    split at h' <;> first | (cases h'; exact absurd (by decide) h) | cases h'
  | non => cases ht; exact absurd (by decide) h
  | bl b => cases ht; exact absurd (by decide) h
  | int b => cases ht; exact absurd (by decide) h
  | byt b => cases ht
  | flt b => cases ht
  | ty b => cases ht
theorem scGood : FnScope ["_law_part", "_law_letters"] ["_law_part"] (defScope sGood) := ⟨rfl, rfl, rfl, by decide +kernel, rfl, by decide +kernel, by decide +kernel⟩
def spGoodS : Sp := fun vs H Q _ => ∃ (x : List Nat), vs = [.str (tx x)] ∧ x.length ≤ 100000 ∧ ∀ H', Same H H' → Q (.bl (okName x)) H'
theorem ok_good (F : Fun K "_law_is_name" "_law_is_name" sGood f fd) (B : Bl mg) : FnOk P w K mg base CX0 1 f fd ["_law_part"] spGoodS := by
  refine F.ok scGood (fun vs H Q E h => ?_) (fun cdv A outer s H vs Q E hr h => ?_)
  · obtain ⟨x, rfl, _⟩ := h
    rfl
  obtain ⟨x, rfl, hl, q⟩ := h
  have nd := scGood.nd
  have hu0 := hr.units0
  refine ⟨_, (pss_cons (ps_set (i := 1) nd rfl (Or.inr rfl) pe_str)
    (pss_cons (ps_if (PW.pt (pw_or (pt_cmpR op_eq (pv 0) pe_str (nomark _)) (pw_or (pt_cmpR op_gt (pe_callB call_len_str rfl B.len bt_len (pa_cons (pv 0) pa_nil)) pe_int (nomark _)) (pw_or1 (pt_cmpR op_notin_c (pe_ix ix_str (pv 0) pe_int (fun _ _ => rfl)) (pv 1) (by with_unfolding_all rfl)))))) (pss_one (ps_ret pe_bl)) pss_nil)
    (pss_one (ps_ret (pe_cmpR (op_eq_l hu0) (pe_comp (own := ["_law_sign"]) (F := [("_law_letters", 1)]) ⟨rfl, by with_unfolding_all rfl, by with_unfolding_all rfl, by with_unfolding_all rfl, (.cons rfl rfl rfl .nil)⟩ rfl (pi_str (pv 0)) (fun _ _ _ _ => pg_name (i := 0) (by show (compN ["_law_sign"] [("_law_letters", 1)]).Nodup; decide +kernel) rfl (Or.inl rfl)) (fun _ _ _ _ => (pts_one (pt_cmpR op_notin_c (pv 0) (pe_op op_add_str (pv 1) pe_str) (by with_unfolding_all rfl)))) (fun _ _ _ _ => (pv 0))) (pe_lst pa_nil) (nomark _)))))), ?_⟩
  rw [show start ["_law_part", "_law_letters"] [.str (tx x)] = [some (.str (tx x)), none] from rfl]
  walk_at "rd"
  have hlen := tx_len x
  have hts : ts (tx x) = x := ts_tx x
  have of_e : ∀ y : List Nat, tx y = Str.ofString "" → y = [] := fun y e => by
    have := congrArg ts e
    rw [ts_tx] at this
    rw [this]; decide +kernel
  by_cases h0 : tx x = Str.ofString ""
  · rw [if_pos h0]
    have e : okName x = false := by rw [of_e x h0]; rfl
    rw [← e]; exact q H (Same.refl H)
  rw [if_neg h0]
  have h1 : 0 < x.length := by
    cases x with
    | nil => exact absurd (by decide +kernel) h0
    | cons c r => exact Nat.succ_pos _
  refine ⟨by omega, ?_⟩
  by_cases h12 : 12 < ((tx x).length : Int)
  · rw [if_pos h12]
    have e : okName x = false := by
      unfold okName
      rw [show decide (x.length ≤ 12) = false from decide_eq_false (by omega)]
      simp
    rw [← e]; exact q H (Same.refl H)
  rw [if_neg h12]
  obtain ⟨c, r, hc⟩ : ∃ c r, x = c :: r := by
    cases x with
    | nil => simp at h1
    | cons c r => exact ⟨c, r, rfl⟩
  refine rIxS_i (by rw [sizeLine_eq]; omega) (c := c) (by rw [hts, hc]; exact atI_nat (j := 0) rfl) ⟨c, rfl, ?_⟩
  have en : okName x = (decide (c ∈ letL) && x.all fun c => decide (c ∈ letL ++ figL)) := by
    unfold okName
    rw [show decide (x.length ≤ 12) = true from decide_eq_true (by omega), show decide (1 ≤ x.length) = true from decide_eq_true (by omega), hc]
    simp
  simp only [ts_l26]
  by_cases hcl : c ∈ letL
  · refine ⟨false, by rw [decide_eq_true hcl]; rfl, iteF ?_⟩
    refine comp_str (fun i ys H' => Same H H' ∧ ∃ cs : List Nat, ys = (cs.map fun c => tx [c]).map V.str ∧ cs = ((ts (tx x)).take i).filter fun c => !decide (c ∈ letL ++ figL)) (by rw [sizeLine_eq, hts]; omega) ⟨Same.refl _, [], rfl, by simp⟩ ?_ ?_
    · rintro i d ys H' hd _ ⟨hS, cs, rfl, hcs⟩
      walk_at "rd"
      refine ⟨by decide, d, rfl, !decide (d ∈ letL ++ figL), ?_, ?_⟩
      · have e : ts (Str.ofString "abcdefghijklmnopqrstuvwxyz" ++ Str.ofString "0123456789") = letL ++ figL := by decide +kernel
        rw [e, Bool.not_not]
      · have e : (ts (tx x)).take (i + 1) = (ts (tx x)).take i ++ [d] := by rw [List.take_add_one, hd]; rfl
        by_cases hm : d ∈ letL ++ figL
        · rw [decide_eq_true hm]
          refine iteF ⟨hS, cs, rfl, ?_⟩
          rw [e, List.filter_append, ← hcs]
          simp only [List.filter_cons, decide_eq_true hm, Bool.not_true, Bool.false_eq_true, if_false, List.filter_nil, List.append_nil]
        · rw [decide_eq_false hm]
          refine iteT ⟨hS, cs ++ [d], by simp, ?_⟩
          rw [e, List.filter_append, ← hcs]
          simp only [List.filter_cons, decide_eq_false hm, Bool.not_false, if_true, List.filter_nil]
    · rintro ys H' hl' ⟨hS, cs, rfl, hcs⟩ p hp p' hp'
      refine rEqL_i (SqL.of (by rw [upd_ne (ne_of_none upd_same hp')]; exact upd_same)) (SqL.of upd_same) (flat_strs _) rfl ?_
      rw [eqLs_nil]
      have e : okName x = (List.map V.str (List.map (fun c => tx [c]) cs)).isEmpty := by
        rw [en, decide_eq_true hcl, Bool.true_and, List.isEmpty_map, List.isEmpty_map, hcs, List.take_length, all_filter, hts]
      show Q (V.bl (List.map V.str (List.map (fun c => tx [c]) cs)).isEmpty) _
      rw [← e]
      exact q _ (hS.trans ((same_new hp _).trans (same_new hp' _)))
  · refine ⟨true, by rw [decide_eq_false hcl]; rfl, iteT ?_⟩
    have e : okName x = false := by rw [en, decide_eq_false hcl]; rfl
    rw [← e]; exact q H (Same.refl H)
structure Ms (mg : Str → Option Value) : Prop where
  LETTERS : ∃ t, mg "LETTERS" = some (.str (Str.ofString "abcdefghijklmnopqrstuvwxyz") t)
  FIGURES : ∃ t, mg "FIGURES" = some (.str (Str.ofString "0123456789") t)
  NAME_SIGNS : ∃ t, mg "NAME_SIGNS" = some (.str (Str.ofString "abcdefghijklmnopqrstuvwxyz0123456789") t)
  MOST_IN_NAME : ∃ t, mg "MOST_IN_NAME" = some (.int 12 t)
  MOST_IN_ROW : ∃ t, mg "MOST_IN_ROW" = some (.int 60 t)
  MOST_STEPS : ∃ t, mg "MOST_STEPS" = some (.int 8 t)
abbrev sIsName : Stmt := top 7
theorem scIsName : FnScope ["thing"] ["thing"] (defScope sIsName) := ⟨rfl, rfl, rfl, by decide +kernel, rfl, by decide +kernel, by decide +kernel⟩
theorem ok_is_name (F : Fun K "is_name" "is_name" sIsName f fd) (B : Bl mg) (M : Ms mg) : FnOk P w K mg base CX0 1 f fd ["thing"] spGood := by
  refine F.ok scIsName (fun vs H Q E h => ?_) (fun cdv A outer s H vs Q E hr h => ?_)
  · obtain ⟨v, t, rfl, _⟩ := h
    rfl
  obtain ⟨v, t, rfl, ht, hl, q⟩ := h
  have nd := scIsName.nd
  refine ⟨_, (pss_cons (ps_if (PW.pt (pw_or (pt_not (pt_val (pe_callB (call_isi (T := "str") (by decide)) rfl B.isinstance bt_isinstance (pa_cons (pv 0) (pa_cons (pe_bltn (v := .ty "str") rfl B.str bt_str rfl) pa_nil))))) (pw_or1 (pt_not (pt_chain op_le op_le pe_int (pe_callB call_len_str rfl B.len bt_len (pa_cons (pv 0) pa_nil)) (pe_gi rfl M.MOST_IN_NAME)))))) (pss_one (ps_ret pe_bl)) pss_nil)
    (pss_one (ps_ret (pe_and (pe_cmpR op_in_c (pe_ix ix_str (pv 0) pe_int (fun _ _ => rfl)) (pe_gs rfl M.LETTERS) (by with_unfolding_all rfl)) (pe_one (pe_callB (call_all rfl) rfl B.all bt_all (pa_cons (pe_comp (own := ["sign"]) (F := []) ⟨rfl, by with_unfolding_all rfl, by with_unfolding_all rfl, by with_unfolding_all rfl, .nil⟩ rfl (pi_str (pv 0)) (fun _ _ _ _ => pg_name (i := 0) (by show (compN ["sign"] []).Nodup; decide +kernel) rfl (Or.inl rfl)) (fun _ _ _ _ => pts_nil) (fun _ _ _ _ => (pe_cmpR op_in_c (pv 0) (pe_gs rfl M.NAME_SIGNS) (by with_unfolding_all rfl)))) pa_nil))))))), ?_⟩
  rw [show start ["thing"] [v] = [some v] from rfl]
  walk_at "rd"
  refine ⟨t, ht, ?_⟩
  by_cases hs : isSub t "str" = false
  · rw [if_pos hs]
    have e : nameV v = false := not_str ht hs
    rw [← e]; exact q H (Same.refl H)
  · rw [if_neg hs]
    obtain ⟨x, rfl⟩ := str_of ht hs
    have hx := hl x rfl
    have hlen := ts_len x
    refine ⟨x, rfl, by omega, ?_⟩
    by_cases h1 : (1 : Int) ≤ (x.length : Int)
    · rw [if_pos h1]
      by_cases h12 : ¬ (x.length : Int) ≤ 12
      · rw [if_pos h12]
        have e : nameV (.str x) = false := by
          show okName (ts x) = false
          unfold okName
          rw [show decide ((ts x).length ≤ 12) = false from decide_eq_false (by omega)]
          simp
        rw [← e]; exact q H (Same.refl H)
      rw [if_neg h12]
      obtain ⟨c, r, hc⟩ : ∃ c r, ts x = c :: r := by
        cases e : ts x with
        | nil => rw [e] at hlen; simp at hlen; omega
        | cons c r => exact ⟨c, r, rfl⟩
      refine rIxS_i (by rw [sizeLine_eq]; omega) (c := c) (by rw [hc]; exact atI_nat (j := 0) rfl) ⟨c, rfl, ?_⟩
      have en : nameV (.str x) = (decide (c ∈ letL) && (ts x).all fun c => decide (c ∈ letL ++ figL)) := by
        show okName (ts x) = _
        unfold okName
        rw [show decide ((ts x).length ≤ 12) = true from decide_eq_true (by omega), show decide (1 ≤ (ts x).length) = true from decide_eq_true (by omega), hc]
        simp
      simp only [ts_l26]
      by_cases hcl : c ∈ letL
      · rw [if_pos hcl]
        refine ⟨x, rfl, comp_str (fun i ys H' => Same H H' ∧ ys = (((ts x).take i).map fun c => decide (c ∈ letL ++ figL)).map V.bl) (by rw [sizeLine_eq]; omega) ⟨Same.refl _, rfl⟩ ?_ ?_⟩
        · rintro i d ys H' hd _ ⟨hS, rfl⟩
          walk_at "rd"
          refine ⟨d, rfl, hS, ?_⟩
          have e : (ts x).take (i + 1) = (ts x).take i ++ [d] := by rw [List.take_add_one, hd]; rfl
          rw [e, ts_l36]
          simp only [List.map_append, List.map_cons, List.map_nil]
        · rintro ys H' hl' ⟨hS, rfl⟩ p hp
          refine ⟨p, rfl, _, SqL.of upd_same, ?_⟩
          have e : nameV (.str x) = ((((ts x).take (ts x).length).map fun c => decide (c ∈ letL ++ figL)).all id) := by
            rw [en, decide_eq_true hcl, Bool.true_and, List.take_length, List.all_map]; rfl
          rw [← e]
          exact q _ (hS.trans (same_new hp _))
      · rw [if_neg hcl]
        have e : nameV (.str x) = false := by rw [en, decide_eq_false hcl]; rfl
        rw [← e]; exact q H (Same.refl H)
    · rw [if_neg h1]
      have e : nameV (.str x) = false := by
        have : ts x = [] := List.eq_nil_of_length_eq_zero (by omega)
        show okName (ts x) = false
        rw [this]; rfl
      rw [← e]; exact q H (Same.refl H)
end
end K32
namespace K32
open PySem L2
local macro_rules | `(tactic| walk_at "rd") => `(tactic| simp only [cxOf_K, nox_K, compCx_K, tSeq, tNext, tAsg, gName, tRet, tRetN, tIfS, tDrop, tOp, tUn, tVar, tC, tCall, tCons, tNil, tTest, tB, tAnd, tOr, tNot, tAndV, tOrV, tNotV, tIf, tCB, tBM, tComp, tTrue, tPart, tNoPart, tSl, tChain, tIsN, tNotN, tLst, tTup, tFor_eq, sDPut, tDNewK, tNever, rI0, rI, rU, rEq, rNe, rMulS, rInC, iRng1, iStr, CDiv, CMul, CPow, scal, List.append_nil, List.getElem?_cons_zero, List.getElem?_cons_succ, List.set_cons_zero, List.set_cons_succ, List.map_cons, List.map_nil, List.length_cons, List.length_nil, sizeLine_eq, Nat.reduceAdd, Nat.reduceLeDiff, Option.join_some, Option.join_none, Option.some.injEq, V.int.injEq, V.str.injEq, V.bl.injEq, V.ref.injEq, V.ty.injEq, List.cons.injEq, and_true, true_and, and_self, exists_eq_left', exists_eq_left, exists_and_left, exists_and_right, decide_eq_true_eq, Bool.not_eq_eq_eq_not, Bool.not_true, Bool.not_false, decide_eq_false_iff_not, Int.reduceLT, Int.reduceLE, Int.reduceNeg, Int.reducePow, Int.reduceAdd, Int.reduceSub, Int.reduceMul, Int.reduceToNat, natAbs10, Nat.reduceLT, Nat.reducePow, or_true, true_or, if_true, if_false, Bool.false_eq_true, ite_true, ite_false, reduceCtorEq])
local macro_rules | `(tactic| walk_at "rd3") => `(tactic| simp only [gTup, gCons, gNil, iZip, tIsT, tDisp, tPairs, tBM0, iList, iDict, tThaw, tMaxD, rMaxD, tDGet, rVals, tComp, cxOf_K, nox_K, compCx_K, tSeq, tNext, tAsg, gName, tRet, tRetN, tIfS, tDrop, tOp, tUn, tVar, tC, tCall, tCons, tNil, tTest, tB, tAnd, tOr, tNot, tAndV, tOrV, tNotV, tIf, tCB, tBM, tComp, tTrue, tPart, tNoPart, tSl, tChain, tIsN, tNotN, tLst, tTup, tFor_eq, sDPut, tDNewK, tNever, rI0, rI, rU, rEq, rNe, rMulS, rInC, iRng1, iStr, CDiv, CMul, CPow, scal, List.append_nil, List.getElem?_cons_zero, List.getElem?_cons_succ, List.set_cons_zero, List.set_cons_succ, List.map_cons, List.map_nil, List.length_cons, List.length_nil, sizeLine_eq, Nat.reduceAdd, Nat.reduceLeDiff, Option.join_some, Option.join_none, Option.some.injEq, V.int.injEq, V.str.injEq, V.bl.injEq, V.ref.injEq, V.ty.injEq, List.cons.injEq, and_true, true_and, and_self, exists_eq_left', exists_eq_left, exists_and_left, exists_and_right, decide_eq_true_eq, Bool.not_eq_eq_eq_not, Bool.not_true, Bool.not_false, decide_eq_false_iff_not, Int.reduceLT, Int.reduceLE, Int.reduceNeg, Int.reducePow, Int.reduceAdd, Int.reduceSub, Int.reduceMul, Int.reduceToNat, natAbs10, Nat.reduceLT, Nat.reducePow, or_true, true_or, if_true, if_false, Bool.false_eq_true, ite_true, ite_false, reduceCtorEq])
seal L2.PSs L2.PS L2.PE L2.PT L2.PW L2.PA L2.PI L2.PG L2.PGs L2.PPs L2.PTs
abbrev sKindOf : Stmt := top 6
abbrev sPlace : Stmt := top 31
def kindV (t : String) : V := if t = "NoneType" then .str "nothing" else if t = "bool" then .str "truth" else if t = "int" then .str "number" else if t = "str" then .str "text" else if t = "list" then .str "row" else if t = "dict" then .str "record" else .non
section
variable {P : Program} {w : World} {K : PySem.W.Frag} {mg : Str → Option Value} {base : Heap} {f : Addr} {fd : FuncData}
theorem iP {c A B : Prop} [Decidable c] (h : c) (a : A) : if c then A else B := by rw [if_pos h]; exact a
theorem iN {c A B : Prop} [Decidable c] (h : ¬c) (b : B) : if c then A else B := by rw [if_neg h]; exact b
def tyM : List String := ["NoneType", "bool", "int", "str", "list", "tuple", "dict"]
theorem tyT_mem (t : T) : tyT t ∈ tyM := by cases t <;> simp [tyT, tyM]
def spKind : Sp := fun vs H Q _ => ∃ (v : V) (t : T), vs = [v] ∧ Rep H v t ∧ ∀ H', Same H H' → Q (kindV (tyT t)) H'
theorem rep_non {H : Hp} {v : V} {t : T} (h : Rep H v t) : v = .non ↔ tyT t = "NoneType" := by
  constructor
  · intro e
    subst e
    have := h.ty
    exact (Option.some.inj this).symm
  · intro e
    cases t with
    | non => exact h
    | _ => exact absurd e (by simp [tyT])
theorem scKindOf : FnScope ["thing"] ["thing"] (defScope sKindOf) := ⟨rfl, rfl, rfl, by decide +kernel, rfl, by decide +kernel, by decide +kernel⟩
theorem ok_kind_of (F : Fun K "kind_of" "kind_of" sKindOf f fd) (B : Bl mg) : FnOk P w K mg base CX0 1 f fd ["thing"] spKind := by
  refine F.ok scKindOf (fun vs H Q E h => ?_) (fun cdv A outer s H vs Q E hr h => ?_)
  · obtain ⟨v, t, rfl, _⟩ := h
    rfl
  obtain ⟨v, t, rfl, hv, q⟩ := h
  have nd := scKindOf.nd
  refine ⟨_, (pss_cons (ps_if (pt_cmp (pc_isN (pv 0))) (pss_one (ps_ret pe_str)) pss_nil)
    (pss_cons (ps_if (pt_val (pe_callB (call_isi (T := "bool") (by decide)) rfl B.isinstance bt_isinstance (pa_cons (pv 0) (pa_cons (pe_bltn (v := .ty "bool") rfl B.bool bt_bool rfl) pa_nil)))) (pss_one (ps_ret pe_str)) pss_nil)
    (pss_cons (ps_if (pt_val (pe_callB (call_isi (T := "int") (by decide)) rfl B.isinstance bt_isinstance (pa_cons (pv 0) (pa_cons (pe_bltn (v := .ty "int") rfl B.int bt_int rfl) pa_nil)))) (pss_one (ps_ret pe_str)) pss_nil)
    (pss_cons (ps_if (pt_val (pe_callB (call_isi (T := "str") (by decide)) rfl B.isinstance bt_isinstance (pa_cons (pv 0) (pa_cons (pe_bltn (v := .ty "str") rfl B.str bt_str rfl) pa_nil)))) (pss_one (ps_ret pe_str)) pss_nil)
    (pss_cons (ps_if (pt_val (pe_callB (call_isi (T := "list") (by decide)) rfl B.isinstance bt_isinstance (pa_cons (pv 0) (pa_cons (pe_bltn (v := .ty "list") rfl B.list bt_list rfl) pa_nil)))) (pss_one (ps_ret pe_str)) pss_nil)
    (pss_cons (ps_if (pt_val (pe_callB (call_isi (T := "dict") (by decide)) rfl B.isinstance bt_isinstance (pa_cons (pv 0) (pa_cons (pe_bltn (v := .ty "dict") rfl B.dict bt_dict rfl) pa_nil)))) (pss_one (ps_ret pe_str)) pss_nil)
    (pss_one (ps_ret pe_non)))))))), ?_⟩
  rw [show start ["thing"] [v] = [some v] from rfl]
  walk_at "rd3"
  have q := q H (Same.refl H)
  have ht := hv.ty
  have hm := tyT_mem t
  have hn := rep_non hv
  simp only [ht, Option.some.injEq, exists_eq_left']
  generalize tyT t = y at hm hn q
  simp only [tyM, List.mem_cons, List.not_mem_nil, or_false] at hm
  by_cases hv : v = .non
  · rw [if_pos hv]; rw [hn.mp hv] at q; exact q
  · rw [if_neg hv]
    rcases hm with rfl | rfl | rfl | rfl | rfl | rfl | rfl
    · exact absurd (hn.mpr rfl) hv
    all_goals (simpa [isSub, kindV] using q)
def nameT : T → Bool
  | .str x => okName x
  | _ => false
def placeT : T → Bool
  | .int i => decide (0 ≤ i ∧ i < 60)
  | _ => false
def stepOk (t : T) : Bool := nameT t || placeT t
/-- texts not too long -/
def shortT : T → Prop
  | .str x => x.length ≤ 1000
  | .lst us => us.length ≤ 100 ∧ ∀ x, T.str x ∈ us → x.length ≤ 1000
  | _ => True
def spPlace : Sp := fun vs H Q _ => ∃ (v : V) (t : T), vs = [v] ∧ Rep H v t ∧ ∀ H', Same H H' → Q (.bl (placeT t)) H'
theorem scPlace : FnScope ["thing"] ["thing"] (defScope sPlace) := ⟨rfl, rfl, rfl, by decide +kernel, rfl, by decide +kernel, by decide +kernel⟩
theorem ok_place (F : Fun K "is_place" "is_place" sPlace f fd) (B : Bl mg) (M : Ms mg) (Gkind_of : Dn P w K mg base 1 "kind_of" ["thing"] spKind) : FnOk P w K mg base CX0 2 f fd ["thing"] spPlace := by
  refine F.ok scPlace (fun vs H Q E h => ?_) (fun cdv A outer s H vs Q E hr h => ?_)
  · obtain ⟨v, t, rfl, _⟩ := h
    rfl
  obtain ⟨v, t, rfl, hv, q⟩ := h
  have nd := scPlace.nd
  refine ⟨_, (pss_one (ps_ret (pe_and (pe_cmpR op_eq (pe_cd Gkind_of hr (by omega) rfl (pa_cons (pv 0) pa_nil)) pe_str (nomark _)) (pe_one (pe_chain op_le op_lt pe_int (pv 0) (pe_gi rfl M.MOST_IN_ROW)))))), ?_⟩
  rw [show start ["thing"] [v] = [some v] from rfl]
  walk_at "rd3"
  refine ⟨v, t, rfl, hv, fun H1 g1 => ?_⟩
  have q := q H1 g1
  cases t with
  | int i =>
    cases (show v = _ from hv)
    refine ⟨rfl, iP (show kindV "int" = V.str (Str.ofString "number") by decide +kernel) ⟨i, rfl, ?_⟩⟩
    by_cases c0 : 0 ≤ i
    · refine iP c0 ⟨i, rfl, ?_⟩
      have e : placeT (.int i) = decide (i < 60) := by simp [placeT, c0]
      rw [← e]; exact q
    · refine iN c0 ?_
      have e : placeT (.int i) = false := by simp [placeT, c0]
      rw [← e]; exact q
  | non => exact ⟨rfl, iN (show ¬ kindV "NoneType" = V.str (Str.ofString "number") by decide +kernel) q⟩
  | bl b => exact ⟨rfl, iN (show ¬ kindV "bool" = V.str (Str.ofString "number") by decide +kernel) q⟩
  | str b => exact ⟨rfl, iN (show ¬ kindV "str" = V.str (Str.ofString "number") by decide +kernel) q⟩
  | lst b => exact ⟨rfl, iN (show ¬ kindV "list" = V.str (Str.ofString "number") by decide +kernel) q⟩
  | dic b c => exact ⟨rfl, iN (show ¬ kindV "dict" = V.str (Str.ofString "number") by decide +kernel) q⟩
  | tup b => exact ⟨rfl, iN (show ¬ kindV "tuple" = V.str (Str.ofString "number") by decide +kernel) q⟩
end
def figs (i : Int) : List Nat := ts (Str.ofString (toString i))
theorem figs60 : ∀ n : Nat, n < 60 → 1 ≤ (figs n).length ∧ (figs n).length ≤ 2 ∧ ∀ c ∈ figs n, c ∈ figL := by decide +kernel
theorem of_dot : Str.ofString "." = tx [46] := by decide +kernel
theorem of_open : Str.ofString "[" = tx [91] := by decide +kernel
theorem of_close : Str.ofString "]" = tx [93] := by decide +kernel
theorem of_int (i : Int) : Str.ofString (toString i) = tx (figs i) := (tx_ts _).symm
theorem step_cases {t : T} (h : stepOk t = true) : (∃ x, t = .str x ∧ okName x = true) ∨ ∃ i, t = .int i ∧ placeT (.int i) = true := by
  cases t with
  | str x => exact .inl ⟨x, rfl, by simpa [stepOk, nameT, placeT] using h⟩
  | int i => exact .inr ⟨i, rfl, by simpa [stepOk, nameT, placeT] using h⟩
  | _ => exact absurd h (by simp [stepOk, nameT, placeT])
theorem cut60 : ∀ n : Nat, n < 60 → Txt.slice (tx (91 :: (figs n ++ [93]))) (some 1) (some (-1)) = tx (figs n) := by decide +kernel
theorem reads {i : Int} (h : placeT (.int i) = true) : intText? (tx (figs i)) = some i := by
  simp only [placeT, decide_eq_true_eq] at h
  rw [← of_int]
  exact PySem.W.KIN.num_reads h.1 (by omega)
theorem no_name (l : List Nat) : okName (91 :: l) = false := by
  have h : decide (91 ∈ letL) = false := by decide +kernel
  show (decide (1 ≤ (91 :: l).length) && decide ((91 :: l).length ≤ 12) && decide (91 ∈ letL) && (91 :: l).all (fun c => decide (c ∈ letL ++ figL))) = false
  rw [h]; simp
theorem none_back {H H' : Hp} (g : Same H H') {p : Addr} (h : H' p = none) : H p = none := by
  cases e : H p with
  | none => rfl
  | some o => rw [g _ _ e] at h; cases h
abbrev sWrites : Stmt := top 34
theorem scWrites : FnScope ["figures"] ["figures"] (defScope sWrites) := ⟨rfl, rfl, rfl, by decide +kernel, rfl, by decide +kernel, by decide +kernel⟩
/-- the places' figures -/
def plcL : List (List Nat) := (List.range 60).map fun n => figs (n : Nat)
theorem plc_len : ∀ f ∈ plcL, 1 ≤ f.length ∧ f.length ≤ 2 ∧ ∀ c ∈ f, c ∈ figL := by decide +kernel
theorem fig1 : ∀ a ∈ figL, intText? (tx [a]) = some ((a - 48 : Nat) : Int) ∧ figs ((a - 48 : Nat) : Int) = [a] ∧ a - 48 < 10 := by decide +kernel
theorem fig2 : ∀ a ∈ figL, ∀ b ∈ figL, intText? (tx [a, b]) = some ((10 * (a - 48) + (b - 48) : Nat) : Int) ∧ 10 * (a - 48) + (b - 48) < 100 := by decide +kernel
theorem fig_val {f : List Nat} (h1 : 1 ≤ f.length) (h2 : f.length ≤ 2) (hf : ∀ c ∈ f, c ∈ figL) : ∃ n : Nat, intText? (tx f) = some (n : Int) ∧ n < 100 := by
  match f, h1, h2, hf with
  | [a], _, _, hf =>
    obtain ⟨e, _, h⟩ := fig1 a (hf a List.mem_cons_self)
    exact ⟨_, e, by omega⟩
  | [a, b], _, _, hf =>
    obtain ⟨e, h⟩ := fig2 a (hf a List.mem_cons_self) b (hf b (List.mem_cons_of_mem _ List.mem_cons_self))
    exact ⟨_, e, h⟩
theorem plc_mem {n : Nat} (h : n < 60) : figs (n : Int) ∈ plcL := List.mem_map.mpr ⟨n, List.mem_range.mpr h, rfl⟩
theorem plc_of {f : List Nat} (h : f ∈ plcL) : ∃ n : Nat, n < 60 ∧ f = figs (n : Int) := by
  obtain ⟨n, hn, rfl⟩ := List.mem_map.mp h
  exact ⟨n, List.mem_range.mp hn, rfl⟩
theorem figs_inj : ∀ n : Nat, n < 60 → ∀ m : Nat, m < 100 → figs (n : Int) = figs (m : Int) → n = m := by decide +kernel
section
variable {P : Program} {w : World} {K : PySem.W.Frag} {mg : Str → Option Value} {base : Heap} {f : Addr} {fd : FuncData}
def spWrites : Sp := fun vs H Q _ => ∃ (z : List Nat), vs = [.str (tx z)] ∧ z.length ≤ 100000 ∧ ∀ H', Same H H' → Q (.bl (decide (z ∈ plcL))) H'
theorem ok_writes (F : Fun K "writes_place" "writes_place" sWrites f fd) (B : Bl mg) (M : Ms mg) (Gis_place : Dn P w K mg base 2 "is_place" ["thing"] spPlace) : FnOk P w K mg base CX0 3 f fd ["figures"] spWrites := by
  refine F.ok scWrites (fun vs H Q E h => ?_) (fun cdv A outer s H vs Q E hr h => ?_)
  · obtain ⟨z, rfl, _⟩ := h
    rfl
  obtain ⟨z, rfl, hz, q⟩ := h
  have nd := scWrites.nd
  have hlen := tx_len z
  refine ⟨_, (pss_cons (ps_if (PW.pt (pw_or (pt_not (pt_chain op_le op_le pe_int (pe_callB call_len_str rfl B.len bt_len (pa_cons (pv 0) pa_nil)) pe_int)) (pw_or1 (pt_not (pt_val (pe_callB (call_all rfl) rfl B.all bt_all (pa_cons (pe_comp (own := ["sign"]) (F := []) ⟨rfl, by with_unfolding_all rfl, by with_unfolding_all rfl, by with_unfolding_all rfl, .nil⟩ rfl (pi_str (pv 0)) (fun _ _ _ _ => pg_name (i := 0) (by show (compN ["sign"] []).Nodup; decide +kernel) rfl (Or.inl rfl)) (fun _ _ _ _ => pts_nil) (fun _ _ _ _ => (pe_cmpR op_in_c (pv 0) (pe_gs rfl M.FIGURES) (by with_unfolding_all rfl)))) pa_nil))))))) (pss_one (ps_ret pe_bl)) pss_nil)
    (pss_one (ps_ret (pe_and (pe_cmpR op_eq (pv 0) (pe_callTy call_str_int rfl B.str bt_str (pa_cons (pe_callTy call_int_str rfl B.int bt_int (pa_cons (pv 0) pa_nil)) pa_nil)) (nomark _)) (pe_one (pe_cd Gis_place hr (by omega) rfl (pa_cons (pe_callTy call_int_str rfl B.int bt_int (pa_cons (pv 0) pa_nil)) pa_nil))))))), ?_⟩
  rw [show start ["figures"] [.str (tx z)] = [some (.str (tx z))] from rfl]
  walk_at "rd3"
  have no : z ∉ plcL → ∀ H', Same H H' → Q (.bl false) H' := fun h H' g => by
    have := q H' g
    rwa [decide_eq_false h] at this
  refine ⟨by omega, ?_⟩
  by_cases h1 : (1 : Int) ≤ ((tx z).length : Int)
  · refine iP h1 ?_
    by_cases h2 : ¬ ((tx z).length : Int) ≤ 2
    · exact iP h2 (no (fun hm => by have := plc_len z hm; omega) _ (Same.refl _))
    · refine iN h2 ?_
      refine comp_str (fun j ys H' => Same H H' ∧ ys = (((ts (tx z)).take j).map fun c => decide (c ∈ figL)).map V.bl) (by rw [sizeLine_eq, ts_tx]; omega) ⟨Same.refl _, rfl⟩ ?_ ?_
      · rintro j d ys H' hd _ ⟨hS, rfl⟩
        walk_at "rd3"
        refine ⟨d, rfl, hS, ?_⟩
        have e : (ts (tx z)).take (j + 1) = (ts (tx z)).take j ++ [d] := by rw [List.take_add_one, hd]; rfl
        rw [e, ts_f10]
        simp only [List.map_append, List.map_cons, List.map_nil]
      · rintro ys H' hl' ⟨hS, rfl⟩ p hp
        have g1 := hS.trans (same_new hp (.lst ((((ts (tx z)).take (ts (tx z)).length).map fun c => decide (c ∈ figL)).map V.bl)))
        refine ⟨p, rfl, _, SqL.of upd_same, ?_⟩
        by_cases ha : ∀ c ∈ z, c ∈ figL
        · obtain ⟨n, hn, hn2⟩ := fig_val (by omega) (by omega) ha
          refine iN ?_ ⟨_, hn, by omega, ?_, ?_⟩
          · rw [List.take_length, ts_tx, Bool.not_eq_false, List.all_map, List.all_eq_true]
            intro c hc
            exact decide_eq_true (ha c hc)
          · have : ((n : Int)).natAbs.log2 ≤ ((n : Int)).natAbs := Nat.log2_le_self _
            omega
          · by_cases he : tx z = Str.ofString (toString (n : Int))
            · refine iP he ⟨_, hn, by omega, .int n, .int n, rfl, rfl, fun H2 g2 => ?_⟩
              have ez : z = figs n := by
                have := congrArg ts he
                rwa [ts_tx] at this
              have e2 : placeT (.int n) = decide (z ∈ plcL) := by
                simp only [placeT]
                rw [decide_eq_decide]
                constructor
                · rintro ⟨_, h⟩
                  rw [ez]; exact plc_mem (by omega)
                · intro h
                  obtain ⟨m, hm, e⟩ := plc_of h
                  have := figs_inj m hm n hn2 (by rw [← e, ez])
                  omega
              rw [e2]
              exact q _ (g1.trans g2)
            · refine iN he (no (fun hm => ?_) _ g1)
              obtain ⟨m, hm, e⟩ := plc_of hm
              have hr : intText? (tx (figs (m : Int))) = some (m : Int) := reads (by simp only [placeT, decide_eq_true_eq]; omega)
              rw [← e, hn] at hr
              have := Option.some.inj hr
              have e3 : n = m := by omega
              apply he
              rw [e, ← of_int, e3]
        · refine iP ?_ (no (fun hm => ha (plc_len z hm).2.2) _ g1)
          rw [List.take_length, ts_tx, List.all_map, List.all_eq_false]
          refine Classical.byContradiction fun y => ha fun c hc => Classical.byContradiction fun hn => y ⟨c, hc, ?_⟩
          show ¬ (decide (c ∈ figL) = true)
          rw [decide_eq_true_iff]; exact hn
  · exact iN h1 (no (fun hm => by have := plc_len z hm; omega) _ (Same.refl _))
end
end K32
namespace K32
open PySem L2
local macro_rules | `(tactic| walk_at "rd") => `(tactic| simp only [cxOf_K, nox_K, compCx_K, tSeq, tNext, tAsg, gName, tRet, tRetN, tIfS, tDrop, tOp, tUn, tVar, tC, tCall, tCons, tNil, tTest, tB, tAnd, tOr, tNot, tAndV, tOrV, tNotV, tIf, tCB, tBM, tComp, tTrue, tPart, tNoPart, tSl, tChain, tIsN, tNotN, tLst, tTup, tFor_eq, sDPut, tDNewK, tNever, rI0, rI, rU, rEq, rNe, rMulS, rInC, iRng1, iStr, CDiv, CMul, CPow, scal, List.append_nil, List.getElem?_cons_zero, List.getElem?_cons_succ, List.set_cons_zero, List.set_cons_succ, List.map_cons, List.map_nil, List.length_cons, List.length_nil, sizeLine_eq, Nat.reduceAdd, Nat.reduceLeDiff, Option.join_some, Option.join_none, Option.some.injEq, V.int.injEq, V.str.injEq, V.bl.injEq, V.ref.injEq, V.ty.injEq, List.cons.injEq, and_true, true_and, and_self, exists_eq_left', exists_eq_left, exists_and_left, exists_and_right, decide_eq_true_eq, Bool.not_eq_eq_eq_not, Bool.not_true, Bool.not_false, decide_eq_false_iff_not, Int.reduceLT, Int.reduceLE, Int.reduceNeg, Int.reducePow, Int.reduceAdd, Int.reduceSub, Int.reduceMul, Int.reduceToNat, natAbs10, Nat.reduceLT, Nat.reducePow, or_true, true_or, if_true, if_false, Bool.false_eq_true, ite_true, ite_false, reduceCtorEq])
local macro_rules | `(tactic| walk_at "rd3") => `(tactic| simp only [gTup, gCons, gNil, iZip, tIsT, tDisp, tPairs, tBM0, iList, iDict, tThaw, tMaxD, rMaxD, tDGet, rVals, tComp, cxOf_K, nox_K, compCx_K, tSeq, tNext, tAsg, gName, tRet, tRetN, tIfS, tDrop, tOp, tUn, tVar, tC, tCall, tCons, tNil, tTest, tB, tAnd, tOr, tNot, tAndV, tOrV, tNotV, tIf, tCB, tBM, tComp, tTrue, tPart, tNoPart, tSl, tChain, tIsN, tNotN, tLst, tTup, tFor_eq, sDPut, tDNewK, tNever, rI0, rI, rU, rEq, rNe, rMulS, rInC, iRng1, iStr, CDiv, CMul, CPow, scal, List.append_nil, List.getElem?_cons_zero, List.getElem?_cons_succ, List.set_cons_zero, List.set_cons_succ, List.map_cons, List.map_nil, List.length_cons, List.length_nil, sizeLine_eq, Nat.reduceAdd, Nat.reduceLeDiff, Option.join_some, Option.join_none, Option.some.injEq, V.int.injEq, V.str.injEq, V.bl.injEq, V.ref.injEq, V.ty.injEq, List.cons.injEq, and_true, true_and, and_self, exists_eq_left', exists_eq_left, exists_and_left, exists_and_right, decide_eq_true_eq, Bool.not_eq_eq_eq_not, Bool.not_true, Bool.not_false, decide_eq_false_iff_not, Int.reduceLT, Int.reduceLE, Int.reduceNeg, Int.reducePow, Int.reduceAdd, Int.reduceSub, Int.reduceMul, Int.reduceToNat, natAbs10, Nat.reduceLT, Nat.reducePow, or_true, true_or, if_true, if_false, Bool.false_eq_true, ite_true, ite_false, reduceCtorEq])
seal L2.PSs L2.PS L2.PE L2.PT L2.PW L2.PA L2.PI L2.PG L2.PGs L2.PPs L2.PTs
abbrev sRStep : Stmt := top 33
abbrev sRPath : Stmt := top 32
def prn (n : Nat) : List Nat := 91 :: (figs (n : Int) ++ [93])
def stepD (p : List Nat) : Option T := if okName p = true then some (.str p) else match (List.range 60).find? (fun n => decide (prn n = p)) with
  | some n => some (.int n)
  | none => none
theorem prn_inj {n m : Nat} (hn : n < 60) (hm : m < 60) (h : prn n = prn m) : n = m := by
  unfold prn at h
  have := List.append_cancel_right (List.cons.inj h).2
  exact figs_inj n hn m (by omega) this
theorem stepD_place {n : Nat} (h : n < 60) : stepD (prn n) = some (.int n) := by
  unfold stepD
  rw [if_neg (by unfold prn; rw [no_name]; decide)]
  cases e : (List.range 60).find? (fun m => decide (prn m = prn n)) with
  | none =>
    have := List.find?_eq_none.mp e n (List.mem_range.mpr h)
    simp at this
  | some m =>
    have h1 := List.find?_some e
    have h2 := List.mem_range.mp (List.mem_of_find?_eq_some e)
    rw [prn_inj h2 h (of_decide_eq_true h1)]
theorem stepD_none {p : List Nat} (h1 : okName p = false) (h2 : ∀ n, n < 60 → p ≠ prn n) : stepD p = none := by
  unfold stepD
  rw [if_neg (by rw [h1]; decide)]
  cases e : (List.range 60).find? (fun m => decide (prn m = p)) with
  | none => rfl
  | some m =>
    have h3 := List.find?_some e
    have h4 := List.mem_range.mp (List.mem_of_find?_eq_some e)
    exact absurd (of_decide_eq_true h3).symm (h2 m h4)
theorem stepD_name {p : List Nat} (h : okName p = true) : stepD p = some (.str p) := if_pos h
def stepsD : List (List Nat) → Option (List T)
  | [] => some []
  | p :: r => match stepD p, stepsD r with
    | some u, some us => some (u :: us)
    | _, _ => none
theorem stepsD_snoc : ∀ (ps : List (List Nat)) (p : List Nat) (us : List T) (u : T), stepsD ps = some us → stepD p = some u → stepsD (ps ++ [p]) = some (us ++ [u])
  | [], p, us, u, h, hu => by cases h; show (match stepD p, some [] with | some u, some us => some (u :: us) | _, _ => none) = _; rw [hu]; rfl
  | q :: ps, p, us, u, h, hu => by
    unfold stepsD at h
    cases hq : stepD q with
    | none => rw [hq] at h; cases h
    | some v =>
      cases hps : stepsD ps with
      | none => rw [hq, hps] at h; cases h
      | some vs =>
        rw [hq, hps] at h
        cases h
        show (match stepD q, stepsD (ps ++ [p]) with | some u, some us => some (u :: us) | _, _ => none) = _
        rw [hq, stepsD_snoc ps p vs u hps hu]; rfl
theorem stepsD_bad : ∀ (ps : List (List Nat)) (i : Nat) (p : List Nat), ps[i]? = some p → stepD p = none → stepsD ps = none
  | q :: ps, 0, p, h, hp => by
    have : q = p := by simpa using h
    subst this
    unfold stepsD; rw [hp]
  | q :: ps, i + 1, p, h, hp => by
    have h : ps[i]? = some p := by simpa using h
    unfold stepsD
    rw [stepsD_bad ps i p h hp]
    cases stepD q <;> rfl
/-- parted at dots -/
def spl : List Nat → List (List Nat)
  | [] => [[]]
  | c :: r => if c = 46 then [] :: spl r else match spl r with
    | [] => [[c]]
    | p :: ps => (c :: p) :: ps
theorem spl_ne : ∀ x, spl x ≠ []
  | [] => by simp [spl]
  | c :: r => by
    unfold spl
    split
    · simp
    · split <;> simp
theorem jn_cons (p : List Nat) : ∀ ps : List (List Nat), ps ≠ [] → jn [46] (p :: ps) = p ++ [46] ++ jn [46] ps
  | [], h => absurd rfl h
  | _ :: _, _ => rfl
theorem jn_head (c : Nat) (p : List Nat) : ∀ ps : List (List Nat), jn [46] ((c :: p) :: ps) = c :: jn [46] (p :: ps)
  | [] => rfl
  | q :: ps => rfl
theorem spl_jn : ∀ x, jn [46] (spl x) = x
  | [] => rfl
  | c :: r => by
    have ih := spl_jn r
    unfold spl
    split
    · rename_i h
      rw [jn_cons _ _ (spl_ne r), ih, h]; rfl
    · split
      · rename_i e; exact absurd e (spl_ne r)
      · rename_i p ps e
        rw [e] at ih
        rw [jn_head, ih]
theorem spl_free : ∀ x, ∀ p ∈ spl x, 46 ∉ p
  | [], p, h => by
    have : p = [] := by simpa [spl] using h
    rw [this]; simp
  | c :: r, p, h => by
    have ih := spl_free r
    unfold spl at h
    split at h
    · rcases List.mem_cons.mp h with z | z
      · rw [z]; simp
      · exact ih p z
    · rename_i hc
      split at h
      · rename_i e; exact absurd e (spl_ne r)
      · rename_i q ps e
        rw [e] at ih
        rcases List.mem_cons.mp h with z | z
        · rw [z]
          intro y
          rcases List.mem_cons.mp y with y | y
          · exact hc y.symm
          · exact ih q List.mem_cons_self y
        · exact ih p (List.mem_cons_of_mem _ z)
theorem spl_len : ∀ x, (spl x).length ≤ x.length + 1
  | [] => by simp [spl]
  | c :: r => by
    have ih := spl_len r
    unfold spl
    split
    · simp only [List.length_cons]; omega
    · split
      · simp
      · rename_i p ps e
        rw [e] at ih
        simp only [List.length_cons] at ih ⊢; omega
theorem spl_part : ∀ x, ∀ p ∈ spl x, p.length ≤ x.length
  | [], p, h => by
    have : p = [] := by simpa [spl] using h
    rw [this]; simp
  | c :: r, p, h => by
    have ih := spl_part r
    unfold spl at h
    split at h
    · rcases List.mem_cons.mp h with z | z
      · rw [z]; simp
      · have := ih p z; simp only [List.length_cons]; omega
    · split at h
      · rename_i e; exact absurd e (spl_ne r)
      · rename_i q ps e
        rw [e] at ih
        rcases List.mem_cons.mp h with z | z
        · rw [z]; have := ih q List.mem_cons_self; simp only [List.length_cons]; omega
        · have := ih p (List.mem_cons_of_mem _ z); simp only [List.length_cons]; omega
theorem split_spl (z : Str) : Txt.split z (Str.ofString ".") = (spl (ts z)).map tx := by
  rw [show Str.ofString "." = ⟨#[46]⟩ from by decide +kernel]
  refine split_is (by simp [spl_ne]) ?_ ?_
  · intro q hq
    obtain ⟨p, hp, rfl⟩ := List.mem_map.mp hq
    rw [ts_tx]; exact spl_free _ p hp
  · rw [List.map_map, show (ts ∘ tx) = id from funext fun x => ts_tx x, List.map_id, spl_jn]
def dotD (L : List Nat) : List Nat := L.flatMap (rpl 91 [46, 91])
def prts (L : List Nat) : List (List Nat) := if L.take 1 = [91] then (spl (dotD L)).drop 1 else spl (dotD L)
theorem dot_open (r : List Nat) : dotD (91 :: r) = 46 :: 91 :: dotD r := rfl
theorem spl_dot (x : List Nat) : spl (46 :: x) = [] :: spl x := by
  rw [spl]; rfl
theorem prts_open (r : List Nat) : prts (91 :: r) = spl ((dotD (91 :: r)).drop 1) := by
  unfold prts
  rw [if_pos (show List.take 1 (91 :: r) = [91] by simp), dot_open, spl_dot]; rfl
theorem dot_len : ∀ L : List Nat, (dotD L).length ≤ 2 * L.length
  | [] => by simp [dotD]
  | c :: r => by
    have ih := dot_len r
    unfold dotD at ih ⊢
    rw [List.flatMap_cons, List.length_append]
    have : (rpl 91 [46, 91] c).length ≤ 2 := by unfold rpl; split <;> simp
    simp only [List.length_cons]; omega
theorem prts_len (L : List Nat) : (prts L).length ≤ 2 * L.length + 1 := by
  have h1 := spl_len (dotD L)
  have h2 := dot_len L
  unfold prts
  split
  · rw [List.length_drop]; omega
  · omega
theorem prts_part (L : List Nat) : ∀ p ∈ prts L, p.length ≤ 2 * L.length := fun p hp => by
  have h2 := dot_len L
  have : p ∈ spl (dotD L) := by
    unfold prts at hp
    split at hp
    · exact List.mem_of_mem_drop hp
    · exact hp
  have := spl_part _ p this
  omega
def dueD (L : List Nat) : Option (List T) := if L = [46] then some [] else if 8 < (prts L).length then none else stepsD (prts L)
theorem repl_dot (x : Str) : ts (Txt.replace x (Str.ofString "[") (Str.ofString ".[")) = dotD (ts x) := by
  rw [show Str.ofString "[" = ⟨#[91]⟩ from by decide +kernel]
  have e3 : ts (Str.ofString ".[") = [46, 91] := by decide +kernel
  exact (replace_is _ _ 91).trans (by unfold dotD; rw [e3])
section
variable {P : Program} {w : World} {K : PySem.W.Frag} {mg : Str → Option Value} {base : Heap} {f : Addr} {fd : FuncData} {C : Addr}
def XNo (C : Addr) (H : Hp) (E : XK) : Prop := ∀ H', Same H H' → E (.ref C) none H'
def spRStepX (C : Addr) : Sp := fun vs H Q E => ∃ (p : List Nat), vs = [.str (tx p)] ∧ p.length ≤ 50000 ∧ (∀ u, stepD p = some u → ∀ H', Same H H' → Q (scv u) H') ∧ (stepD p = none → XNo C H E)
theorem scRStep : FnScope ["part", "figures"] ["part"] (defScope sRStep) := ⟨rfl, rfl, rfl, by decide +kernel, rfl, by decide +kernel, by decide +kernel⟩
theorem ok_rstepx (F : Fun K "read_step" "read_step" sRStep f fd) (B : Bl mg) (Gis_name : Dn P w K mg base 1 "is_name" ["thing"] spGood) (Gwrites_place : Dn P w K mg base 3 "writes_place" ["figures"] spWrites) (RBadPath : Xr0 K mg "BadPath" C) : FnOk P w K mg base (CXE P w) 4 f fd ["part"] (spRStepX C) := by
  refine F.okx scRStep (fun vs H Q E h => ?_) (fun cdv A outer s H vs Q E hr h => ?_)
  · obtain ⟨p, rfl, _⟩ := h
    rfl
  obtain ⟨p, rfl, hl, q, qn⟩ := h
  have nd := scRStep.nd
  refine ⟨_, (pss_cons (ps_if (pt_val (pe_cd Gis_name hr (by omega) rfl (pa_cons (pv 0) pa_nil))) (pss_one (ps_ret (pv 0))) pss_nil)
    (pss_cons (ps_set (i := 1) nd rfl (Or.inl rfl) (pe_slice sl_str (pv 0) (po_some pe_int) (po_some (pe_un un_neg pe_int))))
    (pss_cons (ps_if (PW.pt (pw_or (pt_cmpR op_ne (pv 0) (pe_op op_add_str (pe_op op_add_str pe_str (pv 1)) pe_str) (nomark _)) (pw_or1 (pt_not (pt_val (pe_cd Gwrites_place hr (by omega) rfl (pa_cons (pv 1) pa_nil))))))) (pss_one (ps_raise0 RBadPath rfl rfl lvs (pa_cons pe_str pa_nil))) pss_nil)
    (pss_one (ps_ret (pe_callTy call_int_str rfl B.int bt_int (pa_cons (pv 1) pa_nil))))))), ?_⟩
  rw [show start ["part", "figures"] [.str (tx p)] = [some (.str (tx p)), none] from rfl]
  walk_at "rd3"
  have hpl := tx_len p
  refine ⟨_, "str", rfl, rfl, fun y e => ?_, fun H1 g1 => ⟨okName p, ?_, ?_⟩⟩
  · have e' : tx p = y := V.str.inj e
    rw [← e', tx_len]; omega
  · show V.bl (okName (ts (tx p))) = V.bl (okName p)
    rw [ts_tx]
  by_cases hn : okName p = true
  · exact iP hn (q _ (stepD_name hn) _ g1)
  refine iN hn ?_
  have hn' : okName p = false := by cases h : okName p with
    | false => rfl
    | true => exact absurd h hn
  have hsl := Txt.slice_le (tx p) (some 1) (some (-1))
  refine ⟨_, rfl, by rw [hpl, sizeLine_eq]; omega, ?_⟩
  have hcut : ∀ n : Nat, n < 60 → p = prn n → Txt.slice (tx p) (some 1) (some (-1)) = tx (figs (n : Int)) := fun n hn60 e => by rw [e]; exact cut60 n hn60
  generalize hfg : Txt.slice (tx p) (some 1) (some (-1)) = fg at hsl hcut
  have no : ∀ {H2 : Hp} (v0 : V) (o : Option V), Same H H2 → stepD p = none → tXRaise0 C E (tCons (tC v0) tNil) { nx := tRet (tCB (fun xs H Q => ∃ x, xs = [V.str x] ∧ ∃ x_2, intText? x = some x_2 ∧ x.length ≤ 640 ∧ Q (V.int x_2) H) (tCons (tVar 1) tNil)) { nx := fun x H' => Q V.non H', rt := Q }, rt := Q } [some (V.str (tx p)), o] H2 := fun {H2} v0 o g h => ⟨by simp, qn h _ g⟩
  have hfl := ts_len fg
  refine ⟨fg, rfl, by rw [of_open, tx_len]; simp only [List.length_cons, List.length_nil]; omega, by rw [of_open, of_close, ← tx_ts fg, app_tx, tx_len, tx_len]; simp only [List.length_append, List.length_cons, List.length_nil]; omega, !decide (tx p = Str.ofString "[" ++ fg ++ Str.ofString "]"), by rw [Bool.not_not], ?_⟩
  by_cases he : tx p = Str.ofString "[" ++ fg ++ Str.ofString "]"
  · rw [decide_eq_true he]
    have ep : p = 91 :: (ts fg ++ [93]) := by
      have := congrArg ts he
      have e0 : Str.ofString "[" ++ fg ++ Str.ofString "]" = tx ([91] ++ ts fg ++ [93]) := by rw [of_open, of_close, ← app_tx, ← app_tx, tx_ts]
      rw [e0, ts_tx, ts_tx] at this
      rw [this]; rfl
    refine iN (by decide) ⟨ts fg, by rw [tx_ts], by omega, fun H2 g2 => ⟨decide (ts fg ∈ plcL), rfl, ?_⟩⟩
    by_cases hm : ts fg ∈ plcL
    · rw [decide_eq_true hm]
      obtain ⟨n, hn60, en⟩ := plc_of hm
      have e2 : p = prn n := by rw [ep, en]; rfl
      have e3 : fg = tx (figs (n : Int)) := by rw [← en, tx_ts]
      refine iN (by decide) ⟨fg, rfl, n, ?_, ?_, ?_⟩
      · rw [e3]; exact reads (by simp only [placeT, decide_eq_true_eq]; omega)
      · have := (plc_len _ hm).2.1
        omega
      · exact q (.int n) (by rw [e2]; exact stepD_place hn60) _ (g1.trans g2)
    · rw [decide_eq_false hm]
      refine iP rfl (no _ _ (g1.trans g2) (stepD_none hn' fun n hn60 e => hm ?_))
      rw [hcut n hn60 e, ts_tx]; exact plc_mem hn60
  · rw [decide_eq_false he]
    refine iP rfl (no _ _ g1 (stepD_none hn' fun n hn60 e => he ?_))
    rw [hcut n hn60 e, e, of_open, of_close, app_tx, app_tx]; rfl
def spRPathX (C : Addr) : Sp := fun vs H Q E => ∃ (L : List Nat), vs = [.str (tx L)] ∧ L.length ≤ 20000 ∧ (∀ us, dueD L = some us → ∀ p H', Same H H' → H p = none → H' p = some (.lst (us.map scv)) → Q (.ref p) H') ∧ (dueD L = none → XNo C H E)
theorem scRPath : FnScope ["text", "dotted", "parts"] ["text"] (defScope sRPath) := ⟨rfl, rfl, rfl, by decide +kernel, rfl, by decide +kernel, by decide +kernel⟩
theorem ok_rpathx (F : Fun K "read_path" "read_path" sRPath f fd) (B : Bl mg) (M : Ms mg) (Gread_stepx : Dx P w K mg base 4 "read_step" ["part"] (spRStepX C)) (RBadPath : Xr0 K mg "BadPath" C) : FnOk P w K mg base (CXE P w) 5 f fd ["text"] (spRPathX C) := by
  refine F.okx scRPath (fun vs H Q E h => ?_) (fun cdv A outer s H vs Q E hr h => ?_)
  · obtain ⟨L, rfl, _⟩ := h
    rfl
  obtain ⟨L, rfl, hL, q, qn⟩ := h
  have nd := scRPath.nd
  refine ⟨_, (pss_iflit (pv 0) (pe_lst pa_nil) (psst_set (i := 1) nd rfl (Or.inl rfl) (pet_replace (i := 0) rfl (by first | exact Or.inl rfl | exact Or.inr (Or.inl rfl) | exact Or.inr (Or.inr rfl)) (by decide +kernel) (by decide +kernel))
    (pss_cons (ps_set (i := 2) nd rfl (Or.inl rfl) (pe_ifExp (pt_cmpR op_eq (pe_slice sl_str (pv 0) po_none (po_some pe_int)) pe_str (nomark _)) (pe_bm PySem.F.plainAttrs_str PySem.F.slot_str_split PySem.F.type_str_split mt_split (pe_slice sl_str (pv 1) (po_some pe_int) po_none) (pa_cons pe_str pa_nil)) (pe_bm PySem.F.plainAttrs_str PySem.F.slot_str_split PySem.F.type_str_split mt_split (pv 1) (pa_cons pe_str pa_nil))))
    (pss_cons (ps_if (pt_cmpR op_gt (pe_callB call_len_l rfl B.len bt_len (pa_cons (pv 2) pa_nil)) (pe_gi rfl M.MOST_STEPS) (nomark _)) (pss_one (ps_raise0 RBadPath rfl rfl lvs (pa_cons pe_str pa_nil))) pss_nil)
    (pss_one (ps_ret (pe_compX (own := ["part"]) (F := []) ⟨rfl, by with_unfolding_all rfl, by with_unfolding_all rfl, by with_unfolding_all rfl, .nil⟩ rfl (pi_list (pv 2)) (fun _ _ _ _ => pg_name (i := 0) (by show (compN ["part"] []).Nodup; decide +kernel) rfl (Or.inl rfl)) (fun _ _ _ _ => pts_nil) (fun _ _ _ _ _ _ hp => (pe_cp Gread_stepx hr (by omega) rfl hp (pa_cons (pv 0) pa_nil))) lvs)))))) (nomark _)), ?_⟩
  rw [show start ["text", "dotted", "parts"] [.str (tx L)] = [some (.str (tx L)), none, none] from rfl]
  walk_at "rd3"
  have hraise : ∀ {H2 : Hp} (v0 : V) (D : Ends) (σ : St), Same H H2 → dueD L = none → tXRaise0 C E (tCons (tC v0) tNil) D σ H2 := fun {H2} v0 D σ g h => ⟨by simp, qn h _ g⟩
  have fin : ∀ (σ : St) (D : Ends) (v0 : V) H1 l, L ≠ [46] → Same H H1 → H1 l = some (.lst (((prts L).map tx).map V.str)) → ∃ p, V.ref l = V.ref p ∧ ∃ ys, SqL K H1 p ys ∧ if 8 < (ys.length : Int) then tXRaise0 C E (tCons (tC v0) tNil) D σ H1 else ∃ a, V.ref l = V.ref a ∧ (∃ xs, SqL K H1 a xs) ∧
      CompBody [Str.ofString "part"] [] (gName 0) tTrue (tCall (spRStepX C) [] (xUp E) (tCons (tVar 0) tNil)) σ Q (Itl K a) H1 := by
    intro σ D v0 H1 l hne g hl
    refine ⟨l, rfl, _, SqL.of hl, ?_⟩
    rw [List.length_map, List.length_map]
    by_cases h8 : 8 < ((prts L).length : Int)
    · refine iP h8 (hraise _ _ _ g ?_)
      unfold dueD
      rw [if_neg hne, if_pos (by omega)]
    have edue : dueD L = stepsD (prts L) := by
      unfold dueD
      rw [if_neg hne, if_neg (by omega)]
    refine iN h8 ⟨l, rfl, ⟨_, SqL.of hl⟩, ?_⟩
    refine comp_list (K := K) (xs := ((prts L).map tx).map V.str) (fun i zs H2 => Same H1 H2 ∧ ∃ us, stepsD ((prts L).take i) = some us ∧ zs = us.map scv) (by rw [sizeLine_eq, List.length_map, List.length_map]; omega) ⟨Same.refl _, [], rfl, rfl⟩ (fun i zs H2 _ h => SqL.of (h.1 _ _ hl)) ?_ ?_
    · rintro i v zs H2 hv _ ⟨g2, us, hus, rfl⟩
      obtain ⟨t, ht, rfl⟩ : ∃ t, (prts L)[i]? = some t ∧ v = V.str (tx t) := by
        rw [List.getElem?_map, List.getElem?_map] at hv
        cases hc : (prts L)[i]? with
        | none => rw [hc] at hv; cases hv
        | some t => rw [hc] at hv; exact ⟨t, rfl, (Option.some.inj hv).symm⟩
      walk_at "rd3"
      refine ⟨t, rfl, by have := prts_part L t (List.mem_of_getElem? ht); omega, fun u hu H3 g3 => ⟨g2.trans g3, us ++ [u], ?_, by rw [List.map_append]; rfl⟩, fun hn H3 g3 a o ha => ?_⟩
      · rw [take_succ_of ht]
        exact stepsD_snoc _ _ _ _ hus hu
      · exact qn (by rw [edue]; exact stepsD_bad _ i t ht hn) _ ((g.trans (g2.trans g3)).trans (same_new ha o))
    · rintro zs H2 _ ⟨g2, us, hus, rfl⟩ p hp
      rw [List.length_map, List.length_map, List.take_length] at hus
      exact q us (by rw [edue]; exact hus) p _ ((g.trans g2).trans (same_new hp _)) (none_back (g.trans g2) hp) upd_same
  by_cases h46 : tx L = Str.ofString "."
  · refine iP h46 fun p hp => q [] ?_ p _ (same_new hp _) hp upd_same
    have : L = [46] := by
      have := congrArg ts h46
      rw [of_dot, ts_tx, ts_tx] at this
      exact this
    unfold dueD
    rw [if_pos this]
  have hne : L ≠ [46] := fun e => h46 (by rw [e, of_dot])
  have hpl := tx_len L
  have hl1 : ts (Txt.replace (tx L) (Str.ofString "[") (Str.ofString ".[")) = dotD L := (repl_dot (tx L)).trans (congrArg dotD (ts_tx L))
  generalize hdd : Txt.replace (tx L) (Str.ofString "[") (Str.ofString ".[") = dd at hl1
  have hdl : dd.length ≤ 40000 := by
    have h8 := ts_len dd
    have h9 : (ts dd).length ≤ 2 * L.length := by rw [hl1]; exact dot_len L
    omega
  have hne1 : (Str.ofString ".").length ≠ 0 := by decide +kernel
  have hs1 : Txt.slice (tx L) none (some 1) = tx (L.take 1) := by
    have := slice_to (tx L) 1
    rw [ts_tx] at this
    exact this
  have hs2 : Txt.slice dd (some 1) none = tx ((dotD L).drop 1) := by
    have := slice_from dd 1
    rw [hl1] at this
    exact this
  refine iN h46 ⟨_, rfl, by rw [tx_len]; omega, _, rfl, by rw [sizeLine_eq, tx_len]; omega, ?_⟩
  rw [hs1, hdd]
  refine ⟨rfl, ?_⟩
  by_cases h91 : L.take 1 = [91]
  · obtain ⟨r, er⟩ : ∃ r, L = 91 :: r := by
      cases L with
      | nil => simp at h91
      | cons c r =>
        have : c = 91 := by simpa using h91
        exact ⟨r, by rw [this]⟩
    have e1 : prts L = spl ((dotD L).drop 1) := by rw [er]; exact prts_open r
    refine iP (by rw [h91, of_open]) ⟨_, rfl, by rw [sizeLine_eq]; omega, rfl, _, _, rfl, rfl, hne1, ?_, fun l' hl' => ?_⟩
    · have := Txt.slice_le dd (some 1) none
      omega
    · rw [hs2, split_spl, ts_tx, ← e1]
      exact fin _ _ _ _ l' hne (same_new hl' _) upd_same
  · have e1 : prts L = spl (dotD L) := by unfold prts; rw [if_neg h91]
    refine iN (fun z => h91 ?_) ⟨rfl, _, _, rfl, rfl, hne1, by omega, fun l' hl' => ?_⟩
    · rw [of_open] at z
      have := congrArg ts (V.str.inj z)
      rwa [ts_tx, ts_tx] at this
    · rw [split_spl, hl1, ← e1]
      exact fin _ _ _ _ l' hne (same_new hl' _) upd_same
end
end K32
namespace K32
open PySem L2
local macro_rules | `(tactic| walk_at "rd") => `(tactic| simp only [cxOf_K, nox_K, compCx_K, tSeq, tNext, tAsg, gName, tRet, tRetN, tIfS, tDrop, tOp, tUn, tVar, tC, tCall, tCons, tNil, tTest, tB, tAnd, tOr, tNot, tAndV, tOrV, tNotV, tIf, tCB, tBM, tComp, tTrue, tPart, tNoPart, tSl, tChain, tIsN, tNotN, tLst, tTup, tFor_eq, sDPut, tDNewK, tNever, rI0, rI, rU, rEq, rNe, rMulS, rInC, iRng1, iStr, CDiv, CMul, CPow, scal, List.append_nil, List.getElem?_cons_zero, List.getElem?_cons_succ, List.set_cons_zero, List.set_cons_succ, List.map_cons, List.map_nil, List.length_cons, List.length_nil, sizeLine_eq, Nat.reduceAdd, Nat.reduceLeDiff, Option.join_some, Option.join_none, Option.some.injEq, V.int.injEq, V.str.injEq, V.bl.injEq, V.ref.injEq, V.ty.injEq, List.cons.injEq, and_true, true_and, and_self, exists_eq_left', exists_eq_left, exists_and_left, exists_and_right, decide_eq_true_eq, Bool.not_eq_eq_eq_not, Bool.not_true, Bool.not_false, decide_eq_false_iff_not, Int.reduceLT, Int.reduceLE, Int.reduceNeg, Int.reducePow, Int.reduceAdd, Int.reduceSub, Int.reduceMul, Int.reduceToNat, natAbs10, Nat.reduceLT, Nat.reducePow, or_true, true_or, if_true, if_false, Bool.false_eq_true, ite_true, ite_false, reduceCtorEq])
local macro_rules | `(tactic| walk_at "rd3") => `(tactic| simp only [gTup, gCons, gNil, iZip, tIsT, tDisp, tPairs, tBM0, iList, iDict, tThaw, tMaxD, rMaxD, tDGet, rVals, tComp, cxOf_K, nox_K, compCx_K, tSeq, tNext, tAsg, gName, tRet, tRetN, tIfS, tDrop, tOp, tUn, tVar, tC, tCall, tCons, tNil, tTest, tB, tAnd, tOr, tNot, tAndV, tOrV, tNotV, tIf, tCB, tBM, tComp, tTrue, tPart, tNoPart, tSl, tChain, tIsN, tNotN, tLst, tTup, tFor_eq, sDPut, tDNewK, tNever, rI0, rI, rU, rEq, rNe, rMulS, rInC, iRng1, iStr, CDiv, CMul, CPow, scal, List.append_nil, List.getElem?_cons_zero, List.getElem?_cons_succ, List.set_cons_zero, List.set_cons_succ, List.map_cons, List.map_nil, List.length_cons, List.length_nil, sizeLine_eq, Nat.reduceAdd, Nat.reduceLeDiff, Option.join_some, Option.join_none, Option.some.injEq, V.int.injEq, V.str.injEq, V.bl.injEq, V.ref.injEq, V.ty.injEq, List.cons.injEq, and_true, true_and, and_self, exists_eq_left', exists_eq_left, exists_and_left, exists_and_right, decide_eq_true_eq, Bool.not_eq_eq_eq_not, Bool.not_true, Bool.not_false, decide_eq_false_iff_not, Int.reduceLT, Int.reduceLE, Int.reduceNeg, Int.reducePow, Int.reduceAdd, Int.reduceSub, Int.reduceMul, Int.reduceToNat, natAbs10, Nat.reduceLT, Nat.reducePow, or_true, true_or, if_true, if_false, Bool.false_eq_true, ite_true, ite_false, reduceCtorEq])
seal L2.PSs L2.PS L2.PE L2.PT L2.PW L2.PA L2.PI L2.PG L2.PGs L2.PPs L2.PTs
abbrev sDue : Stmt := top 45
def plS : List Str := (List.range 60).map fun n => tx (prn n)
theorem in_str (z : Str) : ∀ ss : List Str, inV (.str z) (ss.map V.str) = decide (z ∈ ss)
  | [] => rfl
  | a :: ss => by
    have ih := in_str z ss
    show (eqV (.str a) (.str z) || inV (.str z) (ss.map V.str)) = _
    rw [ih]
    by_cases h : a = z
    · subst h
      rw [show eqV (.str a) (.str a) = true from by simp [eqV], Bool.true_or, decide_eq_true (by simp)]
    · rw [show eqV (.str a) (.str z) = false from by simp [eqV, h], Bool.false_or]
      rw [decide_eq_decide]
      simp [Ne.symm h]
theorem plS_at {n : Nat} (h : n < 60) : plS[n]? = some (tx (prn n)) := by
  unfold plS
  rw [List.getElem?_map, List.getElem?_range h]; rfl
theorem plS_mem (p : List Nat) : tx p ∈ plS ↔ ∃ n, n < 60 ∧ p = prn n := by
  unfold plS
  rw [List.mem_map]
  constructor
  · rintro ⟨n, hn, e⟩
    have := congrArg ts e
    rw [ts_tx, ts_tx] at this
    exact ⟨n, List.mem_range.mp hn, this.symm⟩
  · rintro ⟨n, hn, rfl⟩
    exact ⟨n, List.mem_range.mpr hn, rfl⟩
section
variable {P : Program} {w : World} {K : PySem.W.Frag} {mg : Str → Option Value} {base : Heap} {f : Addr} {fd : FuncData} {C : Addr}
def spDue : Sp := fun vs H Q _ => ∃ (L : List Nat), vs = [.str (tx L)] ∧ L.length ≤ 20000 ∧ (∀ us, dueD L = some us → ∀ p H', Same H H' → H p = none → H' p = some (.lst (us.map scv)) → Q (.ref p) H') ∧ (dueD L = none → ∀ H', Same H H' → Q .non H')
theorem scDue : FnScope ["_law_text", "_law_parts", "_law_places", "_law_path", "_law_part"] ["_law_text"] (defScope sDue) := ⟨rfl, rfl, rfl, by decide +kernel, rfl, by decide +kernel, by decide +kernel⟩
theorem ok_due (F : Fun K "_law_due" "_law_due" sDue f fd) (B : Bl mg) (G_law_is_name : Dn P w K mg base 1 "_law_is_name" ["_law_part"] spGoodS) : FnOk P w K mg base CX0 2 f fd ["_law_text"] spDue := by
  refine F.ok scDue (fun vs H Q E h => ?_) (fun cdv A outer s H vs Q E hr h => ?_)
  · obtain ⟨L, rfl, _⟩ := h
    rfl
  obtain ⟨L, rfl, hL, q, qn⟩ := h
  have nd := scDue.nd
  have hu := hu_of hr
  refine ⟨_, (pss_iflit (pv 0) (pe_lst pa_nil) (psst_set (i := 1) nd rfl (Or.inl rfl) (pet_bm PySem.F.plainAttrs_str PySem.F.slot_str_split PySem.F.type_str_split mt_split (pet_replace (i := 0) rfl (by first | exact Or.inl rfl | exact Or.inr (Or.inl rfl) | exact Or.inr (Or.inr rfl)) (by decide +kernel) (by decide +kernel)) (pa_cons pe_str pa_nil))
    (pss_cons (ps_mid (ps_if (pt_cmpR op_eq (pe_slice sl_str (pv 0) po_none (po_some pe_int)) pe_str (nomark _)) (pss_one (ps_set (i := 1) nd rfl (Or.inl rfl) (pe_slice sl_list (pv 1) (po_some pe_int) po_none))) pss_nil))
    (pss_cons (ps_comp (i := 2) nd rfl (Or.inl rfl) (own := ["_law_k"]) (F := []) ⟨rfl, by with_unfolding_all rfl, by with_unfolding_all rfl, by with_unfolding_all rfl, .nil⟩ rfl (pi_range1 rfl B.range (pa_cons pe_int pa_nil)) (fun _ _ _ _ => pg_name (i := 0) (by show (compN ["_law_k"] []).Nodup; decide +kernel) rfl (Or.inl rfl)) (fun _ _ _ _ => pts_nil) (fun _ _ _ _ => (pe_op op_add_str (pe_op op_add_str pe_str (pe_callTy call_str_int rfl B.str bt_str (pa_cons (pv 0) pa_nil))) pe_str)))
    (pss_cons (ps_set (i := 3) nd rfl (Or.inl rfl) (pe_lst pa_nil))
    (pss_cons (ps_for PassesOwn.never rfl (pi_list (pv 1)) (pg_name (i := 4) nd rfl (Or.inl rfl)) (pss_one (ps_if (pt_cmpR op_in_seq (pv 4) (pv 2) (by with_unfolding_all rfl)) (pss_one (ps_expr (pe_bm PySem.F.plainAttrs_list PySem.F.slot_list_append PySem.F.type_list_append mt_append (pv 3) (pa_cons (pe_bm PySem.F.plainAttrs_list PySem.F.slot_list_index PySem.F.type_list_index mt_index (pv 2) (pa_cons (pv 4) pa_nil)) pa_nil)))) (pss_one (ps_if (pt_val (pe_cd G_law_is_name hr (by omega) rfl (pa_cons (pv 4) pa_nil))) (pss_one (ps_expr (pe_bm PySem.F.plainAttrs_list PySem.F.slot_list_append PySem.F.type_list_append mt_append (pv 3) (pa_cons (pv 4) pa_nil)))) (pss_one (ps_ret pe_non)))))))
    (pss_cons (ps_if (pt_cmpR op_gt (pe_callB call_len_l rfl B.len bt_len (pa_cons (pv 3) pa_nil)) pe_int (nomark _)) (pss_one (ps_ret pe_non)) pss_nil)
    (pss_one (ps_ret (pv 3))))))))) (nomark _)), ?_⟩
  rw [show start ["_law_text", "_law_parts", "_law_places", "_law_path", "_law_part"] [.str (tx L)] = [some (.str (tx L)), none, none, none, none] from rfl]
  walk_at "rd3"
  by_cases h46 : tx L = Str.ofString "."
  · refine iP h46 fun p hp => q [] ?_ p _ (same_new hp _) hp upd_same
    have : L = [46] := by
      have := congrArg ts h46
      rw [of_dot, ts_tx, ts_tx] at this
      exact this
    unfold dueD
    rw [if_pos this]
  have hne : L ≠ [46] := fun e => h46 (by rw [e, of_dot])
  have hpl := tx_len L
  have hl1 : ts (Txt.replace (tx L) (Str.ofString "[") (Str.ofString ".[")) = dotD L := (repl_dot (tx L)).trans (congrArg dotD (ts_tx L))
  generalize hdd : Txt.replace (tx L) (Str.ofString "[") (Str.ofString ".[") = dd at hl1
  have hdl : dd.length ≤ 40000 := by
    have h8 := ts_len dd
    have h9 : (ts dd).length ≤ 2 * L.length := by rw [hl1]; exact dot_len L
    omega
  have hne1 : (Str.ofString ".").length ≠ 0 := by decide +kernel
  have hs1 : Txt.slice (tx L) none (some 1) = tx (L.take 1) := by
    have := slice_to (tx L) 1
    rw [ts_tx] at this
    exact this
  have hpz := prts_len L
  refine iN h46 ⟨_, rfl, by rw [tx_len]; omega, ?_⟩
  rw [hdd]
  refine ⟨rfl, _, _, rfl, rfl, hne1, by omega, fun l1 hl1' => ?_⟩
  rw [split_spl, hl1]
  have s1 := same_new hl1' (.lst (((spl (dotD L)).map tx).map V.str))
  have e1 := upd_same (H := H) (a := l1) (o := .lst (((spl (dotD L)).map tx).map V.str))
  generalize upd H l1 (.lst (((spl (dotD L)).map tx).map V.str)) = H1 at s1 e1 ⊢
  refine ⟨fun σ' H' => ∃ l2, σ' = [some (.str (tx L)), some (.ref l2), none, none, none] ∧ Same H H' ∧ H' l2 = some (.lst (((prts L).map tx).map V.str)), ?_, ?_⟩
  · walk_at "rd3"
    refine ⟨_, rfl, by rw [sizeLine_eq, tx_len]; omega, rfl, ?_⟩
    rw [hs1]
    by_cases h91 : L.take 1 = [91]
    · refine iP (by rw [h91, of_open]) ⟨l1, _, rfl, SqL.of e1, fun p hp => ⟨p, rfl, s1.trans (same_new hp _), ?_⟩⟩
      have e2 : cutV (((spl (dotD L)).map tx).map V.str) (some 1) none = ((prts L).map tx).map V.str := by
        have := cut_from (((spl (dotD L)).map tx).map V.str) 1
        rw [show (some (1 : Int)) = some ((1 : Nat) : Int) from rfl, this]
        unfold prts
        rw [if_pos h91, ← List.map_drop, ← List.map_drop]
      rw [e2]; exact upd_same
    · refine iN (fun z => h91 ?_) ⟨s1, ?_⟩
      · rw [of_open] at z
        have := congrArg ts (V.str.inj z)
        rwa [ts_tx, ts_tx] at this
      · unfold prts; rw [if_neg h91]; exact e1
  · rintro σ' H' ⟨l2, rfl, g2, hl2⟩
    walk_at "rd3"
    refine comp_rng (fun i zs H3 => Same H' H3 ∧ zs = ((List.range i).map fun n => tx (prn n)).map V.str) (by rw [sizeLine_eq]; decide) ⟨Same.refl _, rfl⟩ ?_ ?_
    · rintro i zs H3 hi _ ⟨g3, rfl⟩
      walk_at "rd3"
      simp only [Int.zero_add]
      have hf := figs60 i (by omega)
      refine ⟨?_, ?_, ?_, g3, ?_⟩
      · have : ((i : Int)).natAbs.log2 ≤ ((i : Int)).natAbs := Nat.log2_le_self _
        omega
      · rw [of_int, of_open, tx_len, tx_len]; simp only [List.length_cons, List.length_nil]; omega
      · rw [of_int, of_open, of_close, app_tx, tx_len, tx_len, List.length_append]; simp only [List.length_cons, List.length_nil]; omega
      · rw [of_int, of_open, of_close, app_tx, app_tx, List.range_succ]
        simp only [List.map_append, List.map_cons, List.map_nil]
        rfl
    · rintro zs H3 _ ⟨g3, rfl⟩ p3 hp3 p4 hp4
      change upd H3 p3 (.lst (plS.map V.str)) p4 = none at hp4
      change (∃ xs, SqL K (upd (upd H3 p3 (.lst (plS.map V.str))) p4 (.lst [])) l2 xs) ∧ ForB _ _ _ _ (Itl K l2) (upd (upd H3 p3 (.lst (plS.map V.str))) p4 (.lst []))
      have s3 := same_new hp3 (.lst (plS.map V.str))
      have e3 := upd_same (H := H3) (a := p3) (o := .lst (plS.map V.str))
      generalize upd H3 p3 (.lst (plS.map V.str)) = H4 at s3 e3 hp4 ⊢
      have s4 := same_new hp4 (.lst ([] : List V))
      have e4 := upd_same (H := H4) (a := p4) (o := .lst [])
      have G4 := g2.trans (g3.trans s3)
      have hp4H : H p4 = none := none_back G4 hp4
      have hl24 := s3 _ _ (g3 _ _ hl2)
      have ne2 : l2 ≠ p4 := ne_of_none hl24 hp4
      have ne3 : p3 ≠ p4 := ne_of_none e3 hp4
      refine ⟨⟨_, SqL.of (s4 _ _ hl24)⟩, forB_list (K := K) (a := l2) (xs := ((prts L).map tx).map V.str) (fun i σ H5 => ∃ o us, σ = [some (.str (tx L)), some (.ref l2), some (.ref p3), some (.ref p4), o] ∧ Same H H5 ∧ H5 l2 = some (.lst (((prts L).map tx).map V.str)) ∧ H5 p3 = some (.lst (plS.map V.str)) ∧ H5 p4 = some (.lst (us.map scv)) ∧ stepsD ((prts L).take i) = some us ∧ us.length = i) ⟨_, [], rfl, G4.trans s4, s4 _ _ hl24, s4 _ _ e3, e4, rfl, rfl⟩ (fun i σ H5 _ h => by obtain ⟨o, us, _, _, h, _⟩ := h; exact SqL.of h) ?_ ?_⟩
      · rintro i v σ H5 hv ⟨o, us, rfl, g5, h2, h3, h4, hus, hul⟩
        obtain ⟨t, ht, rfl⟩ : ∃ t, (prts L)[i]? = some t ∧ v = V.str (tx t) := by
          rw [List.getElem?_map, List.getElem?_map] at hv
          cases hc : (prts L)[i]? with
          | none => rw [hc] at hv; cases hv
          | some t => rw [hc] at hv; exact ⟨t, rfl, (Option.some.inj hv).symm⟩
        have hil : i < (prts L).length := (List.getElem?_eq_some_iff.mp ht).1
        have htl := prts_part L t (List.mem_of_getElem? ht)
        walk_at "rd3"
        have put : ∀ (u : T) (H6 : Hp), Same H5 H6 → stepD t = some u → rAppend (V.ref p4) [scv u] H6 fun x H1 => Same H H1 ∧ H1 l2 = some (HO.lst (List.map V.str (List.map tx (prts L)))) ∧ H1 p3 = some (HO.lst (List.map V.str plS)) ∧ ∃ x, H1 p4 = some (HO.lst (List.map scv x)) ∧ stepsD (List.take (i + 1) (prts L)) = some x ∧ x.length = i + 1 := fun u H6 g6 hu' => by
          refine ⟨p4, _, _, rfl, rfl, g6 _ _ h4, by rw [List.length_map, sizeLine_eq]; omega, (g5.trans g6).put hp4H _, by rw [upd_ne ne2]; exact g6 _ _ h2, by rw [upd_ne ne3]; exact g6 _ _ h3, us ++ [u], by rw [List.map_append]; exact upd_same, ?_, by rw [List.length_append, hul]; rfl⟩
          rw [take_succ_of ht]
          exact stepsD_snoc _ _ _ _ hus hu'
        refine ⟨p3, plS.map V.str, rfl, .inl (SqL.of h3), rfl, ?_, ?_⟩
        · rw [List.all_map, List.all_eq_true]
          intro _ _; rfl
        rw [if_neg Bool.false_ne_true, in_str]
        refine ⟨_, rfl, ?_⟩
        by_cases hm : tx t ∈ plS
        · obtain ⟨n, hn, rfl⟩ := (plS_mem t).mp hm
          refine iP (decide_eq_true hm) ⟨.inl ⟨rfl, _, SqL.of h4⟩, .inl ⟨rfl, _, SqL.of h3⟩, p3, plS, tx (prn n), n, rfl, rfl, SqL.of h3, plS_at hn, fun j hj e => ?_, by omega, put (.int n) H5 (Same.refl _) (stepD_place hn)⟩
          rw [plS_at (by omega)] at e
          have e2 := congrArg ts (Option.some.inj e)
          rw [ts_tx, ts_tx] at e2
          have := prn_inj (by omega) hn e2
          omega
        · refine iN (by rw [decide_eq_false hm]; decide) ⟨t, rfl, by omega, fun H6 g6 => ⟨okName t, rfl, ?_⟩⟩
          by_cases hn : okName t = true
          · exact iP hn ⟨.inl ⟨rfl, _, SqL.of (g6 _ _ h4)⟩, put (.str t) H6 g6 (stepD_name hn)⟩
          · refine iN hn (qn ?_ _ (g5.trans g6))
            have hn' : okName t = false := by
              cases h : okName t with
              | false => rfl
              | true => exact absurd h hn
            have hb := stepsD_bad (prts L) i t ht (stepD_none hn' fun n hn60 e => hm ((plS_mem t).mpr ⟨n, hn60, e⟩))
            unfold dueD
            rw [if_neg hne]
            split
            · rfl
            · exact hb
      · rintro σ H5 ⟨o, us, rfl, g5, h2, h3, h4, hus, hul⟩
        walk_at "rd3"
        rw [List.length_map, List.length_map] at hul
        rw [List.length_map, List.length_map, List.take_length] at hus
        refine ⟨_, SqL.of h4, ?_⟩
        rw [List.length_map]
        by_cases h8 : 8 < (us.length : Int)
        · refine iP h8 (qn ?_ _ g5)
          unfold dueD
          rw [if_neg hne, if_pos (by omega)]
        · refine iN h8 (q us ?_ p4 _ g5 hp4H h4)
          unfold dueD
          rw [if_neg hne, if_neg (by omega)]; exact hus
end
end K32
namespace K32
open PySem L2 PySem.W
local macro_rules | `(tactic| walk_at "rd") => `(tactic| simp only [cxOf_K, nox_K, compCx_K, tSeq, tNext, tAsg, gName, tRet, tRetN, tIfS, tDrop, tOp, tUn, tVar, tC, tCall, tCons, tNil, tTest, tB, tAnd, tOr, tNot, tAndV, tOrV, tNotV, tIf, tCB, tBM, tComp, tTrue, tPart, tNoPart, tSl, tChain, tIsN, tNotN, tLst, tTup, tFor_eq, sDPut, tDNewK, tNever, rI0, rI, rU, rEq, rNe, rMulS, rInC, iRng1, iStr, CDiv, CMul, CPow, scal, List.append_nil, List.getElem?_cons_zero, List.getElem?_cons_succ, List.set_cons_zero, List.set_cons_succ, List.map_cons, List.map_nil, List.length_cons, List.length_nil, sizeLine_eq, Nat.reduceAdd, Nat.reduceLeDiff, Option.join_some, Option.join_none, Option.some.injEq, V.int.injEq, V.str.injEq, V.bl.injEq, V.ref.injEq, V.ty.injEq, List.cons.injEq, and_true, true_and, and_self, exists_eq_left', exists_eq_left, exists_and_left, exists_and_right, decide_eq_true_eq, Bool.not_eq_eq_eq_not, Bool.not_true, Bool.not_false, decide_eq_false_iff_not, Int.reduceLT, Int.reduceLE, Int.reduceNeg, Int.reducePow, Int.reduceAdd, Int.reduceSub, Int.reduceMul, Int.reduceToNat, natAbs10, Nat.reduceLT, Nat.reducePow, or_true, true_or, if_true, if_false, Bool.false_eq_true, ite_true, ite_false, reduceCtorEq])
local macro_rules | `(tactic| walk_at "rd3") => `(tactic| simp only [gTup, gCons, gNil, iZip, tIsT, tDisp, tPairs, tBM0, iList, iDict, tThaw, tMaxD, rMaxD, tDGet, rVals, tComp, cxOf_K, nox_K, compCx_K, tSeq, tNext, tAsg, gName, tRet, tRetN, tIfS, tDrop, tOp, tUn, tVar, tC, tCall, tCons, tNil, tTest, tB, tAnd, tOr, tNot, tAndV, tOrV, tNotV, tIf, tCB, tBM, tComp, tTrue, tPart, tNoPart, tSl, tChain, tIsN, tNotN, tLst, tTup, tFor_eq, sDPut, tDNewK, tNever, rI0, rI, rU, rEq, rNe, rMulS, rInC, iRng1, iStr, CDiv, CMul, CPow, scal, List.append_nil, List.getElem?_cons_zero, List.getElem?_cons_succ, List.set_cons_zero, List.set_cons_succ, List.map_cons, List.map_nil, List.length_cons, List.length_nil, sizeLine_eq, Nat.reduceAdd, Nat.reduceLeDiff, Option.join_some, Option.join_none, Option.some.injEq, V.int.injEq, V.str.injEq, V.bl.injEq, V.ref.injEq, V.ty.injEq, List.cons.injEq, and_true, true_and, and_self, exists_eq_left', exists_eq_left, exists_and_left, exists_and_right, decide_eq_true_eq, Bool.not_eq_eq_eq_not, Bool.not_true, Bool.not_false, decide_eq_false_iff_not, Int.reduceLT, Int.reduceLE, Int.reduceNeg, Int.reducePow, Int.reduceAdd, Int.reduceSub, Int.reduceMul, Int.reduceToNat, natAbs10, Nat.reduceLT, Nat.reducePow, or_true, true_or, if_true, if_false, Bool.false_eq_true, ite_true, ite_false, reduceCtorEq])
seal L2.PSs L2.PS L2.PE L2.PT L2.PW L2.PA L2.PI L2.PG L2.PGs L2.PPs L2.PTs
abbrev sWord : Stmt := top 39
abbrev sFound : Stmt := top 46
/-- the eighteen classes, as they lie -/
structure Wf (mg : Str → Option Value) (d : Nat → Addr) : Prop where
  m0 : mg "BadPath" = some (.ref (d 0))
  m1 : mg "NoPlace" = some (.ref (d 1))
  m2 : mg "TooGreat" = some (.ref (d 2))
  m3 : mg "NoneFits" = some (.ref (d 3))
  m4 : mg "BadText" = some (.ref (d 4))
  m5 : mg "NoDeed" = some (.ref (d 5))
  m6 : mg "CantMove" = some (.ref (d 6))
  m7 : mg "NoBack" = some (.ref (d 7))
  m8 : mg "NoVersion" = some (.ref (d 8))
  m9 : mg "NoFit" = some (.ref (d 9))
  m10 : mg "Stuck" = some (.ref (d 10))
  m11 : mg "BadQuestion" = some (.ref (d 11))
  m12 : mg "NoKey" = some (.ref (d 12))
  m13 : mg "IsKept" = some (.ref (d 13))
  m14 : mg "NotKept" = some (.ref (d 14))
  m15 : mg "NoWayBack" = some (.ref (d 15))
  m16 : mg "NoStore" = some (.ref (d 16))
  m17 : mg "BadRow" = some (.ref (d 17))
/-- what is true of a caught one of the class d 0 -/
structure Wk (K : Frag) (d : Nat → Addr) : Prop where
  G : XGet K (d 0)
  k0 : kitOne K (.ref (d 0)) (.ref (d 0)) = some true
  k1 : kitOne K (.ref (d 0)) (.ref (d 1)) = some false
  k2 : kitOne K (.ref (d 0)) (.ref (d 2)) = some false
  k3 : kitOne K (.ref (d 0)) (.ref (d 3)) = some false
  a9 : kitAny K (.ref (d 0)) ([d 4, d 5, d 6, d 7, d 8, d 9, d 10, d 11, d 12].map Value.ref) = some false
  a5 : kitAny K (.ref (d 0)) ([d 13, d 14, d 15, d 16, d 17].map Value.ref) = some false
section
variable {P : Program} {w : World} {K : PySem.W.Frag} {mg : Str → Option Value} {base : Heap} {f : Addr} {fd : FuncData} {d : Nat → Addr} {Bs : Addr}
def spWord (d : Nat → Addr) : Sp := fun vs H Q _ => ∃ x, vs = [.ref x] ∧ Caught H x (d 0) ∧ ∀ p H', Same H H' → H' p = some (.tup [.str (Str.ofString "path")]) → Q (.ref p) H'
theorem scWord : FnScope ["_law_e", "_law_some_here", "_law_others"] ["_law_e"] (defScope sWord) := ⟨rfl, rfl, rfl, by decide +kernel, rfl, by decide +kernel, by decide +kernel⟩
theorem ok_word (F : Fun K "_law_word" "_law_word" sWord f fd) (B : Bl mg) (W : Wf mg d) (Y : Wk K d) : FnOkH P w K mg base 1 f fd ["_law_e"] (spWord d) := by
  refine F.okh scWord (fun vs H Q E h => ?_) (fun cdv A outer s H vs Q E hr h => ?_)
  · obtain ⟨x, rfl, _⟩ := h
    rfl
  obtain ⟨x, rfl, hc, q⟩ := h
  have nd := scWord.nd
  refine ⟨_, (pss_cons (ps_set (i := 1) nd rfl (Or.inl rfl) (pe_lst (pa_cons (pe_callB call_xis rfl B.isinstance bt_isinstance (pa_cons (pv 0) (pa_cons (pe_glob (v := .ref (d 0)) rfl W.m0 rfl) pa_nil))) (pa_cons (pe_callB call_xis rfl B.isinstance bt_isinstance (pa_cons (pv 0) (pa_cons (pe_glob (v := .ref (d 1)) rfl W.m1 rfl) pa_nil))) (pa_cons (pe_callB call_xis rfl B.isinstance bt_isinstance (pa_cons (pv 0) (pa_cons (pe_glob (v := .ref (d 2)) rfl W.m2 rfl) pa_nil))) (pa_cons (pe_callB call_xis rfl B.isinstance bt_isinstance (pa_cons (pv 0) (pa_cons (pe_glob (v := .ref (d 3)) rfl W.m3 rfl) pa_nil))) pa_nil))))))
    (pss_cons (ps_set (i := 2) nd rfl (Or.inl rfl) (pe_callB call_xist rfl B.isinstance bt_isinstance (pa_cons (pv 0) (pa_cons (pe_tup (pa_cons (pe_glob (v := .ref (d 4)) rfl W.m4 rfl) (pa_cons (pe_glob (v := .ref (d 5)) rfl W.m5 rfl) (pa_cons (pe_glob (v := .ref (d 6)) rfl W.m6 rfl) (pa_cons (pe_glob (v := .ref (d 7)) rfl W.m7 rfl) (pa_cons (pe_glob (v := .ref (d 8)) rfl W.m8 rfl) (pa_cons (pe_glob (v := .ref (d 9)) rfl W.m9 rfl) (pa_cons (pe_glob (v := .ref (d 10)) rfl W.m10 rfl) (pa_cons (pe_glob (v := .ref (d 11)) rfl W.m11 rfl) (pa_cons (pe_glob (v := .ref (d 12)) rfl W.m12 rfl) pa_nil)))))))))) pa_nil))))
    (pss_cons (ps_if (PW.pt (pw_or (pt_val (pv 2)) (pw_or (pt_val (pe_callB call_xist rfl B.isinstance bt_isinstance (pa_cons (pv 0) (pa_cons (pe_tup (pa_cons (pe_glob (v := .ref (d 13)) rfl W.m13 rfl) (pa_cons (pe_glob (v := .ref (d 14)) rfl W.m14 rfl) (pa_cons (pe_glob (v := .ref (d 15)) rfl W.m15 rfl) (pa_cons (pe_glob (v := .ref (d 16)) rfl W.m16 rfl) (pa_cons (pe_glob (v := .ref (d 17)) rfl W.m17 rfl) pa_nil)))))) pa_nil)))) (pw_or1 (pt_cmpR op_ne (pe_bm PySem.F.plainAttrs_list PySem.F.slot_list_count PySem.F.type_list_count mt_count_b (pv 1) (pa_cons pe_bl pa_nil)) pe_int (nomark _)))))) (pss_one (ps_ret (pe_tup (pa_cons pe_str pa_nil)))) pss_nil)
    (pss_cons (ps_if (pt_val (pe_ix ix_list (pv 1) pe_int (fun _ _ => rfl))) pss_never pss_nil)
    (pss_one (ps_ret (pe_tup (pa_cons (pe_ix ix_list (pe_lst (pa_cons pe_str (pa_cons pe_str (pa_cons pe_str (pa_cons pe_str pa_nil))))) (pe_bm PySem.F.plainAttrs_list PySem.F.slot_list_index PySem.F.type_list_index mt_index_b (pv 1) (pa_cons pe_bl pa_nil)) (fun _ _ => rfl)) pa_nil)))))))), ?_⟩
  rw [show start ["_law_e", "_law_some_here", "_law_others"] [.ref x] = [some (.ref x), none, none] from rfl]
  walk_at "rd3"
  refine ⟨x, _, _, ⟨rfl, rfl⟩, hc, Y.G, true, Y.k0, x, _, _, ⟨rfl, rfl⟩, hc, Y.G, false, Y.k1, x, _, _, ⟨rfl, rfl⟩, hc, Y.G, false, Y.k2, x, _, _, ⟨rfl, rfl⟩, hc, Y.G, false, Y.k3, fun p1 hp1 p2 hp2 => ?_⟩
  have s1 := same_new hp1 (.lst [V.bl true, V.bl false, V.bl false, V.bl false])
  have e1 := upd_same (H := H) (a := p1) (o := .lst [V.bl true, V.bl false, V.bl false, V.bl false])
  generalize upd H p1 (.lst [V.bl true, V.bl false, V.bl false, V.bl false]) = H1 at s1 e1 hp2 ⊢
  have s2 := same_new hp2 (.tup [V.ref (d 4), V.ref (d 5), V.ref (d 6), V.ref (d 7), V.ref (d 8), V.ref (d 9), V.ref (d 10), V.ref (d 11), V.ref (d 12)])
  have e2 := upd_same (H := H1) (a := p2) (o := .tup [V.ref (d 4), V.ref (d 5), V.ref (d 6), V.ref (d 7), V.ref (d 8), V.ref (d 9), V.ref (d 10), V.ref (d 11), V.ref (d 12)])
  generalize upd H1 p2 _ = H2 at s2 e2 ⊢
  refine ⟨x, _, _, ⟨rfl, rfl⟩, [d 4, d 5, d 6, d 7, d 8, d 9, d 10, d 11, d 12], e2, hc.same (s1.trans s2), Y.G, false, Y.a9, iN (by decide) fun p3 hp3 => ?_⟩
  have s3 := same_new hp3 (.tup [V.ref (d 13), V.ref (d 14), V.ref (d 15), V.ref (d 16), V.ref (d 17)])
  have e3 := upd_same (H := H2) (a := p3) (o := .tup [V.ref (d 13), V.ref (d 14), V.ref (d 15), V.ref (d 16), V.ref (d 17)])
  generalize upd H2 p3 _ = H3 at s3 e3 ⊢
  have g3 := s1.trans (s2.trans s3)
  have e1' := s3 _ _ (s2 _ _ e1)
  refine ⟨x, _, _, ⟨rfl, rfl⟩, [d 13, d 14, d 15, d 16, d 17], e3, hc.same g3, Y.G, false, Y.a5, iN (by decide) ⟨.inl ⟨rfl, _, SqL.of e1'⟩, p1, [true, false, false, false], true, rfl, rfl, SqL.of e1', rfl, false, by decide, iN (by decide) (rIxL_i (SqL.of e1') (atI_nat (j := 1) rfl) ⟨false, rfl, iN (by decide) fun p4 hp4 => ?_⟩)⟩⟩
  have s4 := same_new hp4 (.lst [V.str (Str.ofString "path"), V.str (Str.ofString "place"), V.str (Str.ofString "great"), V.str (Str.ofString "none")])
  have e4 := upd_same (H := H3) (a := p4) (o := .lst [V.str (Str.ofString "path"), V.str (Str.ofString "place"), V.str (Str.ofString "great"), V.str (Str.ofString "none")])
  generalize upd H3 p4 _ = H4 at s4 e4 ⊢
  refine ⟨.inl ⟨rfl, _, SqL.of (s4 _ _ e1')⟩, p1, [true, false, false, false], true, 0, rfl, rfl, SqL.of (s4 _ _ e1'), rfl, (fun j hj => absurd hj (Nat.not_lt_zero _)), by decide, rIxL_i (SqL.of e4) (atI_nat (j := 0) rfl) fun p5 hp5 => ?_⟩
  exact q p5 _ (g3.trans (s4.trans (same_new hp5 _))) upd_same
def spFound (d : Nat → Addr) : Sp := fun vs H Q _ => ∃ (L : List Nat), vs = [.str (tx L)] ∧ L.length ≤ 20000 ∧ (∀ us, dueD L = some us → ∀ p H', Same H H' → H p = none → H' p = some (.lst (us.map scv)) → Q (.ref p) H') ∧ (dueD L = none → ∀ p H', Same H H' → H' p = some (.tup [.str (Str.ofString "path")]) → Q (.ref p) H')
theorem scFound : FnScope ["_law_text", "_law_e"] ["_law_text"] (defScope sFound) := ⟨rfl, rfl, rfl, by decide +kernel, rfl, by decide +kernel, by decide +kernel⟩
theorem ok_found (F : Fun K "_law_found" "_law_found" sFound f fd) (mB : mg "CabinetError" = some (.ref Bs)) (ex : exmOne K (.ref (d 0)) (.ref Bs) = some true) (Gread_pathx : Dx P w K mg base 5 "read_path" ["text"] (spRPathX (d 0))) (Gw : Dh P w K mg base 1 "_law_word" ["_law_e"] (spWord d)) : FnOk P w K mg base CX0 6 f fd ["_law_text"] (spFound d) := by
  refine F.ok scFound (fun vs H Q E h => ?_) (fun cdv A outer s H vs Q E hr h => ?_)
  · obtain ⟨L, rfl, _⟩ := h
    rfl
  obtain ⟨L, rfl, hL, q, qn⟩ := h
  have nd := scFound.nd
  refine ⟨_, (pss_one (ps_try (tb := fun E => tRet (tCall (spRPathX (d 0)) [] E (tCons (tVar 0) tNil))) rfl rfl mB nd (i := 1) rfl rfl rfl rfl rfl (fun pins W E hp => pss_one (ps_ret (pe_cp Gread_pathx hr (by omega) rfl hp (pa_cons (pv 0) pa_nil))))
    (fun v => pss_one (ps_ret (pe_ch Gw hr.h (by omega) rfl (pa_cons (pv 1) pa_nil)))))), ?_⟩
  rw [show start ["_law_text", "_law_e"] [.str (tx L)] = [some (.str (tx L)), none] from rfl]
  refine ⟨_, rfl, L, rfl, hL, q, fun hn H' g => ⟨d 0, rfl, ex, fun x hx => ?_⟩⟩
  exact ⟨_, rfl, x, rfl, .inl upd_same, fun p H2 g2 hp => qn hn p H2 (g.trans ((same_new hx _).trans g2)) hp⟩
end
end K32
namespace K32
open PySem L2
local macro_rules | `(tactic| walk_at "rd") => `(tactic| simp only [cxOf_K, nox_K, compCx_K, tSeq, tNext, tAsg, gName, tRet, tRetN, tIfS, tDrop, tOp, tUn, tVar, tC, tCall, tCons, tNil, tTest, tB, tAnd, tOr, tNot, tAndV, tOrV, tNotV, tIf, tCB, tBM, tComp, tTrue, tPart, tNoPart, tSl, tChain, tIsN, tNotN, tLst, tTup, tFor_eq, sDPut, tDNewK, tNever, rI0, rI, rU, rEq, rNe, rMulS, rInC, iRng1, iStr, CDiv, CMul, CPow, scal, List.append_nil, List.getElem?_cons_zero, List.getElem?_cons_succ, List.set_cons_zero, List.set_cons_succ, List.map_cons, List.map_nil, List.length_cons, List.length_nil, sizeLine_eq, Nat.reduceAdd, Nat.reduceLeDiff, Option.join_some, Option.join_none, Option.some.injEq, V.int.injEq, V.str.injEq, V.bl.injEq, V.ref.injEq, V.ty.injEq, List.cons.injEq, and_true, true_and, and_self, exists_eq_left', exists_eq_left, exists_and_left, exists_and_right, decide_eq_true_eq, Bool.not_eq_eq_eq_not, Bool.not_true, Bool.not_false, decide_eq_false_iff_not, Int.reduceLT, Int.reduceLE, Int.reduceNeg, Int.reducePow, Int.reduceAdd, Int.reduceSub, Int.reduceMul, Int.reduceToNat, natAbs10, Nat.reduceLT, Nat.reducePow, or_true, true_or, if_true, if_false, Bool.false_eq_true, ite_true, ite_false, reduceCtorEq])
local macro_rules | `(tactic| walk_at "rd3") => `(tactic| simp only [gTup, gCons, gNil, iZip, tIsT, tDisp, tPairs, tBM0, iList, iDict, tThaw, tMaxD, rMaxD, tDGet, rVals, tComp, cxOf_K, nox_K, compCx_K, tSeq, tNext, tAsg, gName, tRet, tRetN, tIfS, tDrop, tOp, tUn, tVar, tC, tCall, tCons, tNil, tTest, tB, tAnd, tOr, tNot, tAndV, tOrV, tNotV, tIf, tCB, tBM, tComp, tTrue, tPart, tNoPart, tSl, tChain, tIsN, tNotN, tLst, tTup, tFor_eq, sDPut, tDNewK, tNever, rI0, rI, rU, rEq, rNe, rMulS, rInC, iRng1, iStr, CDiv, CMul, CPow, scal, List.append_nil, List.getElem?_cons_zero, List.getElem?_cons_succ, List.set_cons_zero, List.set_cons_succ, List.map_cons, List.map_nil, List.length_cons, List.length_nil, sizeLine_eq, Nat.reduceAdd, Nat.reduceLeDiff, Option.join_some, Option.join_none, Option.some.injEq, V.int.injEq, V.str.injEq, V.bl.injEq, V.ref.injEq, V.ty.injEq, List.cons.injEq, and_true, true_and, and_self, exists_eq_left', exists_eq_left, exists_and_left, exists_and_right, decide_eq_true_eq, Bool.not_eq_eq_eq_not, Bool.not_true, Bool.not_false, decide_eq_false_iff_not, Int.reduceLT, Int.reduceLE, Int.reduceNeg, Int.reducePow, Int.reduceAdd, Int.reduceSub, Int.reduceMul, Int.reduceToNat, natAbs10, Nat.reduceLT, Nat.reducePow, or_true, true_or, if_true, if_false, Bool.false_eq_true, ite_true, ite_false, reduceCtorEq])
seal L2.PSs L2.PS L2.PE L2.PT L2.PW L2.PA L2.PI L2.PG L2.PGs L2.PPs L2.PTs
abbrev sAlike : Stmt := top 40
mutual
def T.fin : T → Prop
  | .lst us => T.fins us
  | .tup us => T.fins us
  | .dic ks us => ks.Nodup ∧ T.fins us
  | _ => True
def T.fins : List T → Prop
  | [] => True
  | u :: us => T.fin u ∧ T.fins us
end
theorem T.fins_mem {t : T} : ∀ {ts : List T}, T.fins ts → t ∈ ts → T.fin t
  | [], _, h => nomatch h
  | u :: ts, h, hm => (List.mem_cons.mp hm).elim (fun e => e ▸ h.1) (T.fins_mem h.2)
section
variable {P : Program} {w : World} {K : PySem.W.Frag} {mg : Str → Option Value} {base : Heap} {f : Addr} {fd : FuncData}
theorem rIxT_i {K : PySem.W.Frag} {H : Hp} {a : Addr} {xs : List V} {i : Int} {v : V} {Q : VK} (h1 : SqT K H a xs) (h2 : atI xs i = some v) (q : Q v H) : rIxT K (.ref a) (.int i) H Q := ⟨a, xs, i, v, rfl, rfl, h1, h2, q⟩
theorem small_away {H : Hp} {d : Addr} {o : HO} {t : T} {xs : List V} {us : List T} (hd : Rep H (.ref d) t) (hs : T.szs us < T.sz t) (h : Reps H xs us) : Reps (upd H d o) xs us :=
  Reps.away _ _ h fun z => by
    obtain ⟨t', h1, h2⟩ := Occs.sub _ _ h z
    have e := Rep.one _ _ _ hd h1
    subst e
    omega
theorem all_true : ∀ n : Nat, (List.replicate n true).all id = true
  | 0 => rfl
  | n + 1 => by rw [List.replicate_succ, List.all_cons, all_true n]; rfl
def spAlike (n : Nat) : Sp := fun vs H Q _ => ∃ (v u : V) (t : T), vs = [v, u] ∧ Rep H v t ∧ Rep H u t ∧ T.fin t ∧ T.dep t < n ∧ T.sz t ≤ 100000 ∧ ∀ H', Same H H' → Q (.bl true) H'
theorem scAlike : FnScope ["_law_found_here", "_law_due_here"] ["_law_found_here", "_law_due_here"] (defScope sAlike) := ⟨rfl, rfl, rfl, by decide +kernel, rfl, by decide +kernel, by decide +kernel⟩
theorem ok_alikeS {n : Nat} (F : Fun K "_law_alike" "_law_alike" sAlike f fd) (B : Bl2 mg) (G_law_alike : Dn P w K mg base (2 + n) "_law_alike" ["_law_found_here", "_law_due_here"] (spAlike n)) :
    FnOk P w K mg base CX0 (2 + n + 1) f fd ["_law_found_here", "_law_due_here"] (spAlike (n + 1)) := by
  refine F.ok scAlike (fun vs H Q E h => ?_) (fun cdv A outer s H vs Q E hr h => ?_)
  · obtain ⟨v, u, t, rfl, _⟩ := h
    rfl
  obtain ⟨v, u, t, rfl, hv, hw, hf, hd, hz, q⟩ := h
  have nd := scAlike.nd
  have hu := hu_of hr
  have hu0 := hr.units0
  refine ⟨_, (pss_cons (ps_if (PW.pt (pw_or (pt_cmp (pc_isN (pv 1))) (pw_or1 (pt_val (pe_callB (call_isi (T := "bool") (by decide)) rfl B.isinstance bt_isinstance (pa_cons (pv 1) (pa_cons (pe_bltn (v := .ty "bool") rfl B.bool bt_bool rfl) pa_nil))))))) (pss_one (ps_ret (pe_and (pe_cmpR op_eq (pv 0) (pv 1) (nomark _)) (pe_one (pe_cmpR op_eq (pe_callB (call_isi (T := "bool") (by decide)) rfl B.isinstance bt_isinstance (pa_cons (pv 0) (pa_cons (pe_bltn (v := .ty "bool") rfl B.bool bt_bool rfl) pa_nil))) (pe_callB (call_isi (T := "bool") (by decide)) rfl B.isinstance bt_isinstance (pa_cons (pv 1) (pa_cons (pe_bltn (v := .ty "bool") rfl B.bool bt_bool rfl) pa_nil))) (nomark _)))))) pss_nil)
    (pss_cons (ps_if (pt_val (pe_callB (call_isi (T := "int") (by decide)) rfl B.isinstance bt_isinstance (pa_cons (pv 1) (pa_cons (pe_bltn (v := .ty "int") rfl B.int bt_int rfl) pa_nil)))) (pss_one (ps_ret (pe_and (pe_callB (call_isi (T := "int") (by decide)) rfl B.isinstance bt_isinstance (pa_cons (pv 0) (pa_cons (pe_bltn (v := .ty "int") rfl B.int bt_int rfl) pa_nil))) (pe_and (pe_not (pe_callB (call_isi (T := "bool") (by decide)) rfl B.isinstance bt_isinstance (pa_cons (pv 0) (pa_cons (pe_bltn (v := .ty "bool") rfl B.bool bt_bool rfl) pa_nil)))) (pe_one (pe_cmpR op_eq (pv 0) (pv 1) (nomark _))))))) pss_nil)
    (pss_cons (ps_if (pt_val (pe_callB (call_isi (T := "str") (by decide)) rfl B.isinstance bt_isinstance (pa_cons (pv 1) (pa_cons (pe_bltn (v := .ty "str") rfl B.str bt_str rfl) pa_nil)))) (pss_one (ps_ret (pe_and (pe_callB (call_isi (T := "str") (by decide)) rfl B.isinstance bt_isinstance (pa_cons (pv 0) (pa_cons (pe_bltn (v := .ty "str") rfl B.str bt_str rfl) pa_nil))) (pe_one (pe_cmpR op_eq (pv 0) (pv 1) (nomark _)))))) pss_nil)
    (pss_cons (ps_if (pt_val (pe_callB (call_isi (T := "dict") (by decide)) rfl B.isinstance bt_isinstance (pa_cons (pv 1) (pa_cons (pe_bltn (v := .ty "dict") rfl B.dict bt_dict rfl) pa_nil)))) (pss_cons (ps_if (PW.pt (pw_or (pt_not (pt_val (pe_callB (call_isi (T := "dict") (by decide)) rfl B.isinstance bt_isinstance (pa_cons (pv 0) (pa_cons (pe_bltn (v := .ty "dict") rfl B.dict bt_dict rfl) pa_nil))))) (pw_or1 (pt_cmpR op_ne (pe_callB call_lenD rfl B.len bt_len (pa_cons (pv 0) pa_nil)) (pe_callB call_lenD rfl B.len bt_len (pa_cons (pv 1) pa_nil)) (nomark _))))) (pss_one (ps_ret pe_bl)) pss_nil)
    (pss_one (ps_ret (pe_callB (call_all rfl) rfl B.all bt_all (pa_cons (pe_thaw (pe_comp (own := ["_law_name"]) (F := [("_law_found_here", 0), ("_law_due_here", 1)]) ⟨rfl, by with_unfolding_all rfl, by with_unfolding_all rfl, by with_unfolding_all rfl, (.cons rfl rfl rfl (.cons rfl rfl rfl .nil))⟩ rfl (pi_dict (pv 1)) (fun _ _ _ _ => pg_name (i := 0) (by show (compN ["_law_name"] [("_law_found_here", 0), ("_law_due_here", 1)]).Nodup; decide +kernel) rfl (Or.inl rfl)) (fun _ _ _ _ => pts_nil) (fun _ _ _ _ => (pe_and (pe_cmp (pc_din hu (pv 0) (pv 1))) (pe_one (pe_cd G_law_alike hr (by omega) rfl (pa_cons (pe_dget hu (pv 1) (pv 0) (fun _ _ => rfl)) (pa_cons (pe_dget hu (pv 2) (pv 0) (fun _ _ => rfl)) pa_nil)))))))) pa_nil))))) pss_nil)
    (pss_cons (ps_if (PW.pt (pw_or (pt_cmpR op_ne (pe_callB (call_isi (T := "tuple") (by decide)) rfl B.isinstance bt_isinstance (pa_cons (pv 1) (pa_cons (pe_bltn (v := .ty "tuple") rfl B.tuple bt_tuple rfl) pa_nil))) (pe_callB (call_isi (T := "tuple") (by decide)) rfl B.isinstance bt_isinstance (pa_cons (pv 0) (pa_cons (pe_bltn (v := .ty "tuple") rfl B.tuple bt_tuple rfl) pa_nil))) (nomark _)) (pw_or1 (pt_not (pt_val (pe_callB (call_isi2 (T := "list") (U := "tuple") (by decide) (by decide)) rfl B.isinstance bt_isinstance (pa_cons (pv 0) (pa_cons (pe_tup (pa_cons (pe_bltn (v := .ty "list") rfl B.list bt_list rfl) (pa_cons (pe_bltn (v := .ty "tuple") rfl B.tuple bt_tuple rfl) pa_nil))) pa_nil)))))))) (pss_one (ps_ret pe_bl)) pss_nil)
    (pss_cons (ps_if (pt_cmpR op_ne (pe_callB call_len_seq rfl B.len bt_len (pa_cons (pv 0) pa_nil)) (pe_callB call_len_seq rfl B.len bt_len (pa_cons (pv 1) pa_nil)) (nomark _)) (pss_one (ps_ret pe_bl)) pss_nil)
    (pss_one (ps_ret (pe_callB (call_all rfl) rfl B.all bt_all (pa_cons (pe_comp (own := ["_law_k"]) (F := [("_law_found_here", 0), ("_law_due_here", 1)]) ⟨rfl, by with_unfolding_all rfl, by with_unfolding_all rfl, by with_unfolding_all rfl, (.cons rfl rfl rfl (.cons rfl rfl rfl .nil))⟩ rfl (pi_range1 rfl B.range (pa_cons (pe_callB call_len_seq rfl B.len bt_len (pa_cons (pv 1) pa_nil)) pa_nil)) (fun _ _ _ _ => pg_name (i := 0) (by show (compN ["_law_k"] [("_law_found_here", 0), ("_law_due_here", 1)]).Nodup; decide +kernel) rfl (Or.inl rfl)) (fun _ _ _ _ => pts_nil) (fun _ _ _ _ => (pe_cd G_law_alike hr (by omega) rfl (pa_cons (pe_ix (ix_seqC (K := K) rfl) (pv 1) (pv 0) (fun _ _ => rfl)) (pa_cons (pe_ix (ix_seqC (K := K) rfl) (pv 2) (pv 0) (fun _ _ => rfl)) pa_nil))))) pa_nil)))))))))), ?_⟩
  rw [show start ["_law_found_here", "_law_due_here"] [v, u] = [some v, some u] from rfl]
  walk_at "rd3"
  have g0 := Same.refl H
  cases t with
  | non =>
    cases (show v = _ from hv); cases (show u = _ from hw)
    exact iP rfl ⟨rfl, iP rfl ⟨_, rfl, _, rfl, q _ g0⟩⟩
  | bl b =>
    cases (show v = _ from hv); cases (show u = _ from hw)
    refine iN (by simp) ⟨_, rfl, iP (by decide +kernel) ⟨?_, iP rfl ⟨_, rfl, _, rfl, ?_⟩⟩⟩
    · rfl
    · rw [decide_eq_true rfl]; exact q _ g0
  | int b =>
    cases (show v = _ from hv); cases (show u = _ from hw)
    refine iN (by simp) ⟨_, rfl, iN (by decide +kernel) ⟨_, rfl, iP (by decide +kernel) ⟨_, rfl, iP (by decide +kernel) ⟨_, rfl, true, by decide +kernel, iP rfl ⟨rfl, ?_⟩⟩⟩⟩⟩
    rw [decide_eq_true rfl]; exact q _ g0
  | str b =>
    cases (show v = _ from hv); cases (show u = _ from hw)
    refine iN (by simp) ⟨_, rfl, iN (by decide +kernel) ⟨_, rfl, iN (by decide +kernel) ⟨_, rfl, iP (by decide +kernel) ⟨_, rfl, iP (by decide +kernel) ⟨rfl, ?_⟩⟩⟩⟩⟩
    rw [decide_eq_true rfl]; exact q _ g0
  | lst us =>
    have hty : tyS H u = some "list" := hw.ty
    have htv : tyS H v = some "list" := hv.ty
    have hnn : ¬ u = V.non := fun z => by rw [z] at hty; exact absurd (Option.some.inj hty) (by decide)
    refine iN hnn ⟨_, hty, iN (by decide +kernel) ⟨_, hty, iN (by decide +kernel) ⟨_, hty, iN (by decide +kernel) ⟨_, hty, iN (by decide +kernel) ?_⟩⟩⟩⟩
    obtain ⟨a, xs, rfl, ha, hx⟩ := hv
    obtain ⟨b, ys, rfl, hb, hy⟩ := hw
    have hd' : T.deps us + 1 < n + 1 := hd
    have hz' : T.szs us + 1 ≤ 100000 := hz
    have hxl := hx.length
    have hyl := hy.length
    have hul := T.szs_len us
    refine ⟨_, hty, _, htv, false, by simp, iteF fun pt hpt => ?_⟩
    have g2 := same_new hpt (.tup [V.ty "list", V.ty "tuple"])
    refine ⟨_, "list", pt, ⟨rfl, rfl⟩, upd_same, tyS_same g2 htv, iN (by decide +kernel) ?_⟩
    generalize upd H pt (.tup [V.ty "list", V.ty "tuple"]) = H2 at g2 ⊢
    have ha := g2 _ _ ha
    have hb := g2 _ _ hb
    have hx := Reps.same g2 _ _ hx
    have hy := Reps.same g2 _ _ hy
    refine ⟨a, rfl, xs, .inl (SqL.of ha), b, rfl, ys, .inl (SqL.of hb), false, by rw [hxl, hyl]; simp, iteF ⟨b, rfl, ys, .inl (SqL.of hb), by omega, by omega, ?_⟩⟩
    rw [Int.toNat_natCast]
    refine comp_rng (fun i zs H' => Same H2 H' ∧ zs = (List.replicate i true).map V.bl) (by rw [sizeLine_eq]; omega) ⟨Same.refl _, rfl⟩ ?_ ?_
    · rintro i zs H' hi _ ⟨g, rfl⟩
      obtain ⟨t1, ht1, hr1⟩ := hx.get (i := i) (v := xs[i]) (by simp [hxl, ← hyl, hi])
      obtain ⟨t2, ht2, hr2⟩ := hy.get (i := i) (v := ys[i]) (by simp [hi])
      rw [ht1] at ht2
      cases ht2
      have hm := List.mem_of_getElem? ht1
      have d1 := T.deps_le hm
      have d2 := T.szs_le hm
      walk_at "rd3"
      refine .inl (rIxL_i (SqL.of (g _ _ ha)) (v := xs[i]) (by rw [Int.zero_add]; exact atI_nat (by simp [hxl, ← hyl, hi])) (.inl (rIxL_i (SqL.of (g _ _ hb)) (v := ys[i]) (by rw [Int.zero_add]; exact atI_nat (by simp [hi])) ⟨_, _, t1, rfl, Rep.same g _ _ hr1, Rep.same g _ _ hr2, T.fins_mem hf hm, by omega, by omega, fun H4 g4 => ⟨g.trans g4, ?_⟩⟩)))
      rw [List.replicate_succ']
      simp
    · rintro zs H' _ ⟨g, rfl⟩ p hp
      refine ⟨p, rfl, List.replicate ys.length true, SqL.of upd_same, ?_⟩
      rw [all_true]
      exact q _ (g2.trans (g.trans (same_new hp _)))
  | dic ks us =>
    have hty : tyS H u = some "dict" := hw.ty
    have htv : tyS H v = some "dict" := hv.ty
    have hnn : ¬ u = V.non := fun z => by rw [z] at hty; exact absurd (Option.some.inj hty) (by decide)
    refine iN hnn ⟨_, hty, iN (by decide +kernel) ⟨_, hty, iN (by decide +kernel) ⟨_, hty, iN (by decide +kernel) ⟨_, hty, iP (by decide +kernel) ⟨_, htv, iN (by decide +kernel) ?_⟩⟩⟩⟩⟩
    have hRd := hw
    obtain ⟨a, ps, rfl, ha, hk, hx⟩ := hv
    obtain ⟨b, rs, rfl, hb, hkb, hy⟩ := hw
    obtain ⟨nk, hf⟩ := hf
    have hd' : T.deps us + 1 < n + 1 := hd
    have hz' : T.szs us + 1 ≤ 100000 := hz
    have hpl : ps.length = us.length := by have := hx.length; rwa [List.length_map] at this
    have hrl : rs.length = us.length := by have := hy.length; rwa [List.length_map] at this
    have hul := T.szs_len us
    have nkp : (ps.map (·.1)).Nodup := by rw [hk]; exact nodup_nK nk
    have nkr : (rs.map (·.1)).Nodup := by rw [hkb]; exact nodup_nK nk
    have hsz : T.szs us < T.sz (.dic ks us) := Nat.lt_succ_self _
    refine ⟨a, rfl, ps, ha, b, rfl, rs, hb, false, by rw [hpl, hrl]; simp, iteF ⟨b, rfl, rs, .inl ⟨hb, fun o => ?_⟩⟩⟩
    have hxf : Reps (upd H b (.frz o (.dK rs))) (ps.map (·.2)) us := small_away hRd hsz hx
    have hyf : Reps (upd H b (.frz o (.dK rs))) (rs.map (·.2)) us := small_away hRd hsz hy
    have haf : ∀ H', Same (upd H b (.frz o (.dK rs))) H' → Rd H' a (.dK ps) := fun H' g => by
      by_cases e : a = b
      · subst e
        rw [hb] at ha
        cases ha
        exact .inr ⟨o, g _ _ upd_same⟩
      · exact .inl (g _ _ (by rw [upd_ne e]; exact ha))
    refine comp_dict (fun i zs H' => Same (upd H b (.frz o (.dK rs))) H' ∧ zs = (List.replicate i true).map V.bl) ?_ ⟨Same.refl _, rfl⟩ (fun i zs H' h => h.1 _ _ upd_same) ?_ ?_
    · rw [sizeLine_eq]; omega
    · rintro i rv zs H' hrv _ ⟨g, rfl⟩
      obtain ⟨t1, ht1, hr1⟩ := hyf.get (i := i) (v := rv.2) (by rw [List.getElem?_map, hrv]; rfl)
      have hm := List.mem_of_getElem? ht1
      have d1 := T.deps_le hm
      have d2 := T.szs_le hm
      have hkey : (ks.map nK)[i]? = some rv.1 := by rw [← hkb, List.getElem?_map, hrv]; rfl
      have hkey2 : (ps.map (·.1))[i]? = some rv.1 := by rw [hk]; exact hkey
      obtain ⟨kv, hkv, hrk⟩ : ∃ kv, ps[i]? = some kv ∧ kv.1 = rv.1 := by
        rw [List.getElem?_map] at hkey2
        cases hr : ps[i]? with
        | none => rw [hr] at hkey2; cases hkey2
        | some kv => rw [hr] at hkey2; exact ⟨kv, rfl, Option.some.inj hkey2⟩
      obtain ⟨t2, ht2, hr2⟩ := hxf.get (i := i) (v := kv.2) (by rw [List.getElem?_map, hkv]; rfl)
      rw [ht1] at ht2
      cases ht2
      have hgv : valV ps rv.1 = some kv.2 := valV_ix nkp (by rw [hkv, ← hrk])
      walk_at "rd3"
      have hdg : DGet H' a (kV rv.1) (some kv.2) := .inl ⟨ps, rv.1, haf H' g, rfl, hgv.symm⟩
      refine ⟨kV rv.1, rfl, .ref a, rfl, a, some kv.2, rfl, hdg, true, rfl, iP rfl ⟨kv.2, hdg, rv.2, .inl ⟨rs, rv.1, .inr ⟨o, g _ _ upd_same⟩, rfl, (valV_ix nkr hrv).symm⟩, _, _, t1, rfl, Rep.same g _ _ hr2, Rep.same g _ _ hr1, T.fins_mem hf hm, by omega, by omega, fun H4 g4 => ⟨g.trans g4, ?_⟩⟩⟩
      rw [List.replicate_succ']
      simp
    · rintro zs H' _ ⟨g, rfl⟩ p hp
      refine ⟨p, rfl, List.replicate rs.length true, SqL.of (thaw_of upd_same (by intro o v z; cases z)), ?_⟩
      rw [all_true]
      exact q _ (thaw_walk (o := o) hb (g.trans (same_new hp _)))
  | tup us =>
    have hty : tyS H u = some "tuple" := hw.ty
    have htv : tyS H v = some "tuple" := hv.ty
    have hnn : ¬ u = V.non := fun z => by rw [z] at hty; exact absurd (Option.some.inj hty) (by decide)
    refine iN hnn ⟨_, hty, iN (by decide +kernel) ⟨_, hty, iN (by decide +kernel) ⟨_, hty, iN (by decide +kernel) ⟨_, hty, iN (by decide +kernel) ?_⟩⟩⟩⟩
    obtain ⟨a, xs, rfl, ha, hx⟩ := hv
    obtain ⟨b, ys, rfl, hb, hy⟩ := hw
    have hd' : T.deps us + 1 < n + 1 := hd
    have hz' : T.szs us + 1 ≤ 100000 := hz
    have hxl := hx.length
    have hyl := hy.length
    have hul := T.szs_len us
    refine ⟨_, hty, _, htv, false, by simp, iteF fun pt hpt => ?_⟩
    have g2 := same_new hpt (.tup [V.ty "list", V.ty "tuple"])
    refine ⟨_, "tuple", pt, ⟨rfl, rfl⟩, upd_same, tyS_same g2 htv, iN (by decide +kernel) ?_⟩
    generalize upd H pt (.tup [V.ty "list", V.ty "tuple"]) = H2 at g2 ⊢
    have ha := g2 _ _ ha
    have hb := g2 _ _ hb
    have hx := Reps.same g2 _ _ hx
    have hy := Reps.same g2 _ _ hy
    refine ⟨a, rfl, xs, .inr (SqT.of ha), b, rfl, ys, .inr (SqT.of hb), false, by rw [hxl, hyl]; simp, iteF ⟨b, rfl, ys, .inr (SqT.of hb), by omega, by omega, ?_⟩⟩
    rw [Int.toNat_natCast]
    refine comp_rng (fun i zs H' => Same H2 H' ∧ zs = (List.replicate i true).map V.bl) (by rw [sizeLine_eq]; omega) ⟨Same.refl _, rfl⟩ ?_ ?_
    · rintro i zs H' hi _ ⟨g, rfl⟩
      obtain ⟨t1, ht1, hr1⟩ := hx.get (i := i) (v := xs[i]) (by simp [hxl, ← hyl, hi])
      obtain ⟨t2, ht2, hr2⟩ := hy.get (i := i) (v := ys[i]) (by simp [hi])
      rw [ht1] at ht2
      cases ht2
      have hm := List.mem_of_getElem? ht1
      have d1 := T.deps_le hm
      have d2 := T.szs_le hm
      walk_at "rd3"
      refine .inr (.inl (rIxT_i (SqT.of (g _ _ ha)) (v := xs[i]) (by rw [Int.zero_add]; exact atI_nat (by simp [hxl, ← hyl, hi])) (.inr (.inl (rIxT_i (SqT.of (g _ _ hb)) (v := ys[i]) (by rw [Int.zero_add]; exact atI_nat (by simp [hi])) ⟨_, _, t1, rfl, Rep.same g _ _ hr1, Rep.same g _ _ hr2, T.fins_mem hf hm, by omega, by omega, fun H4 g4 => ⟨g.trans g4, ?_⟩⟩)))))
      rw [List.replicate_succ']
      simp
    · rintro zs H' _ ⟨g, rfl⟩ p hp
      refine ⟨p, rfl, List.replicate ys.length true, SqL.of upd_same, ?_⟩
      rw [all_true]
      exact q _ (g2.trans (g.trans (same_new hp _)))
theorem ok_alike0 (F : Fun K "_law_alike" "_law_alike" sAlike f fd) : FnOk P w K mg base CX0 2 f fd ["_law_found_here", "_law_due_here"] (spAlike 0) := by
  refine F.ok scAlike (fun vs H Q E h => ?_) (fun cdv A outer s H vs Q E hr h => ?_)
  · obtain ⟨v, u, t, rfl, _⟩ := h
    rfl
  obtain ⟨v, u, t, rfl, hv, hw, hf, hd, _⟩ := h
  exact absurd hd (Nat.not_lt_zero _)
theorem alike_all (F : Fun K "_law_alike" "_law_alike" sAlike f fd) (B : Bl2 mg) (b : Binds K fd ["_law_found_here", "_law_due_here"] []) (kp : PySem.W.keepIn K (.ref f) = true) (m : mg "_law_alike" = some (.ref f)) :
    ∀ n : Nat, FnOk P w K mg base CX0 (2 + n) f fd ["_law_found_here", "_law_due_here"] (spAlike n)
  | 0 => ok_alike0 F
  | n + 1 => ok_alikeS F B ⟨_, _, alike_all F B b kp m n, b, kp, m⟩
end
end K32
namespace K32
open PySem L2
local macro_rules | `(tactic| walk_at "rd") => `(tactic| simp only [cxOf_K, nox_K, compCx_K, tSeq, tNext, tAsg, gName, tRet, tRetN, tIfS, tDrop, tOp, tUn, tVar, tC, tCall, tCons, tNil, tTest, tB, tAnd, tOr, tNot, tAndV, tOrV, tNotV, tIf, tCB, tBM, tComp, tTrue, tPart, tNoPart, tSl, tChain, tIsN, tNotN, tLst, tTup, tFor_eq, sDPut, tDNewK, tNever, rI0, rI, rU, rEq, rNe, rMulS, rMulB, rInC, iRng1, iStr, CDiv, CMul, CPow, scal, List.append_nil, List.getElem?_cons_zero, List.getElem?_cons_succ, List.set_cons_zero, List.set_cons_succ, List.map_cons, List.map_nil, List.length_cons, List.length_nil, sizeLine_eq, Nat.reduceAdd, Nat.reduceLeDiff, Option.join_some, Option.join_none, Option.some.injEq, V.int.injEq, V.str.injEq, V.bl.injEq, V.ref.injEq, V.ty.injEq, List.cons.injEq, and_true, true_and, and_self, exists_eq_left', exists_eq_left, exists_and_left, exists_and_right, decide_eq_true_eq, Bool.not_eq_eq_eq_not, Bool.not_true, Bool.not_false, decide_eq_false_iff_not, Int.reduceLT, Int.reduceLE, Int.reduceNeg, Int.reducePow, Int.reduceAdd, Int.reduceSub, Int.reduceMul, Int.reduceToNat, natAbs10, Nat.reduceLT, Nat.reducePow, or_true, true_or, if_true, if_false, Bool.false_eq_true, ite_true, ite_false, reduceCtorEq])
local macro_rules | `(tactic| walk_at "rd3") => `(tactic| simp only [gTup, gCons, gNil, iZip, tIsT, tDisp, tPairs, tBM0, iList, iDict, tThaw, tMaxD, rMaxD, tDGet, rVals, tComp, cxOf_K, nox_K, compCx_K, tSeq, tNext, tAsg, gName, tRet, tRetN, tIfS, tDrop, tOp, tUn, tVar, tC, tCall, tCons, tNil, tTest, tB, tAnd, tOr, tNot, tAndV, tOrV, tNotV, tIf, tCB, tBM, tComp, tTrue, tPart, tNoPart, tSl, tChain, tIsN, tNotN, tLst, tTup, tFor_eq, sDPut, tDNewK, tNever, rI0, rI, rU, rEq, rNe, rMulS, rMulB, rInC, iRng1, iStr, CDiv, CMul, CPow, scal, List.append_nil, List.getElem?_cons_zero, List.getElem?_cons_succ, List.set_cons_zero, List.set_cons_succ, List.map_cons, List.map_nil, List.length_cons, List.length_nil, sizeLine_eq, Nat.reduceAdd, Nat.reduceLeDiff, Option.join_some, Option.join_none, Option.some.injEq, V.int.injEq, V.str.injEq, V.bl.injEq, V.ref.injEq, V.ty.injEq, List.cons.injEq, and_true, true_and, and_self, exists_eq_left', exists_eq_left, exists_and_left, exists_and_right, decide_eq_true_eq, Bool.not_eq_eq_eq_not, Bool.not_true, Bool.not_false, decide_eq_false_iff_not, Int.reduceLT, Int.reduceLE, Int.reduceNeg, Int.reducePow, Int.reduceAdd, Int.reduceSub, Int.reduceMul, Int.reduceToNat, natAbs10, Nat.reduceLT, Nat.reducePow, or_true, true_or, if_true, if_false, Bool.false_eq_true, ite_true, ite_false, reduceCtorEq])
seal L2.PSs L2.PS L2.PE L2.PT L2.PW L2.PA L2.PI L2.PG L2.PGs L2.PPs L2.PTs
abbrev sSigns : Stmt := top 38
abbrev sLStep : Stmt := top 41
abbrev sBent : Stmt := top 42
abbrev sSome : Stmt := top 43
section
variable {P : Program} {w : World} {K : PySem.W.Frag} {mg : Str → Option Value} {base : Heap} {f : Addr} {fd : FuncData}
def sgS : Str := Str.ofString " !\"#$&'()*+,-./0123456789:;<=>?@ABCDEFGHIJKLMNOPQRSTUVWXYZ[\\]^_`" ++ Str.ofString "abcdefghijklmnopqrstuvwxyz{|}~"
def spSigns : Sp := fun vs H Q _ => vs = [] ∧ Q (.str sgS) H
theorem scSigns : FnScope ["_law_some_here"] [] (defScope sSigns) := ⟨rfl, rfl, rfl, by decide +kernel, rfl, by decide +kernel, by decide +kernel⟩
theorem ok_signs (F : Fun K "_law_signs" "_law_signs" sSigns f fd) : FnOk P w K mg base CX0 1 f fd [] spSigns := by
  refine F.ok scSigns (fun vs H Q E h => ?_) (fun cdv A outer s H vs Q E hr h => ?_)
  · obtain ⟨rfl, _⟩ := h
    rfl
  obtain ⟨rfl, q⟩ := h
  have nd := scSigns.nd
  refine ⟨_, (pss_cons (ps_set (i := 0) nd rfl (Or.inl rfl) pe_str)
    (pss_one (ps_ret (pe_op op_add_str (pv 0) pe_str)))), ?_⟩
  rw [show start ["_law_some_here"] [] = [none] from rfl]
  walk_at "rd3"
  exact ⟨by decide, q⟩
def spLStep : Sp := fun vs H Q _ => ∃ (m : Int), vs = [.int m] ∧ 0 ≤ m ∧ m < 2000000 ∧ ∀ (x : List Nat), x.length ≤ 20 → ∀ H', Same H H' → Q (.str (tx x)) H'
theorem scLStep : FnScope ["_law_more", "_law_place"] ["_law_more"] (defScope sLStep) := ⟨rfl, rfl, rfl, by decide +kernel, rfl, by decide +kernel, by decide +kernel⟩
theorem ok_lstep (F : Fun K "_law_step" "_law_step" sLStep f fd) (B : Bl mg) (G_law_name_by : Dn P w K mg base 1 "_law_name_by" ["_law_more"] spName) : FnOk P w K mg base CX0 2 f fd ["_law_more"] spLStep := by
  refine F.ok scLStep (fun vs H Q E h => ?_) (fun cdv A outer s H vs Q E hr h => ?_)
  · obtain ⟨m, rfl, _⟩ := h
    rfl
  obtain ⟨m, rfl, h0, h1, q⟩ := h
  have nd := scLStep.nd
  refine ⟨_, (pss_cons (ps_if (pt_cmpR op_eq (pe_op op_mod (pv 0) pe_int) pe_int (nomark _)) (pss_one (ps_ret (pe_op op_add_str pe_str (pe_cd G_law_name_by hr (by omega) rfl (pa_cons (pe_op op_fdiv (pv 0) pe_int) pa_nil))))) pss_nil)
    (pss_cons (ps_set (i := 1) nd rfl (Or.inl rfl) (pe_ix ix_list (pe_lst (pa_cons (pe_op op_mod (pe_op op_fdiv (pv 0) pe_int) pe_int) (pa_cons (pe_ix ix_list (pe_lst (pa_cons pe_int (pa_cons pe_int (pa_cons (pe_ix ix_list (pe_lst (pa_cons pe_int (pa_cons pe_int pa_nil))) (pe_callTy call_intB rfl B.int bt_int (pa_cons (pe_cmpR op_eq (pe_op op_mod (pe_op op_fdiv (pv 0) pe_int) pe_int) pe_int (nomark _)) pa_nil)) (fun _ _ => rfl)) (pa_cons pe_int pa_nil))))) (pe_op op_mod (pe_op op_fdiv (pv 0) pe_int) pe_int) (fun _ _ => rfl)) pa_nil))) (pe_op op_mod (pe_op op_fdiv (pv 0) pe_int) pe_int) (fun _ _ => rfl)))
    (pss_one (ps_ret (pe_op op_add_str (pe_op op_add_str pe_str (pe_callTy call_str_int rfl B.str bt_str (pa_cons (pv 1) pa_nil))) pe_str))))), ?_⟩
  rw [show start ["_law_more", "_law_place"] [.int m] = [some (.int m), none] from rfl]
  walk_at "rd3"
  split
  · refine ⟨m / 3, rfl, by omega, by omega, fun x hx H' g => ⟨_, rfl, ?_, ?_⟩⟩
    · have := okName_len hx
      rw [of_dot, tx_len, tx_len]; simp only [List.length_cons, List.length_nil]; omega
    · rw [of_dot, app_tx]
      refine q _ ?_ _ g
      have := okName_len hx
      rw [List.length_append]; simp only [List.length_cons, List.length_nil]; omega
  · intro p1 hp1
    have ix : ∀ {l : List Int} {p : Addr} {i : Int} {H1 : Hp} {Q' : VK}, H1 p = some (.lst (l.map V.int)) → 0 ≤ i → i < l.length → (∀ z ∈ l, 0 ≤ z ∧ z ≤ 60) → (∀ z : Int, 0 ≤ z → z ≤ 60 → Q' (.int z) H1) → rIxL K (V.ref p) (V.int i) H1 Q' := fun {l p i H1 Q'} hp h0 h1 hz hQ => by
      obtain ⟨v, hv, hm⟩ := atI_of (xs := l.map V.int) (i := i) h0 (by rw [List.length_map]; exact h1)
      obtain ⟨z, hz', rfl⟩ := List.mem_map.mp hm
      exact rIxL_i (SqL.of hp) hv (hQ z (hz z hz').1 (hz z hz').2)
    refine ix (l := [9, 60]) upd_same (by split <;> omega) (by split <;> decide) (by decide) fun z1 h1 h2 p2 hp2 => ?_
    refine ix (l := [0, 59, z1, 10]) upd_same (by omega) (by show _ < (4 : Int); omega) ?_ fun z2 h3 h4 p3 hp3 => ?_
    · intro z hz
      simp only [List.mem_cons, List.not_mem_nil, or_false] at hz
      rcases hz with rfl | rfl | rfl | rfl <;> omega
    refine ix (l := [m / 9 % 60, z2]) upd_same (by omega) (by show _ < (2 : Int); omega) ?_ fun z3 h5 h6 => ?_
    · intro z hz
      simp only [List.mem_cons, List.not_mem_nil, or_false] at hz
      rcases hz with rfl | rfl <;> omega
    have f61 : ∀ n : Nat, n < 61 → (figs (n : Int)).length ≤ 2 := by decide +kernel
    have hf : (figs z3).length ≤ 2 := by
      have := f61 z3.toNat (by omega)
      rwa [Int.toNat_of_nonneg h5] at this
    refine ⟨_, rfl, ?_, ?_, ?_, ?_⟩
    · have : z3.natAbs.log2 ≤ z3.natAbs := Nat.log2_le_self _
      omega
    · rw [of_int, of_open, tx_len, tx_len]; simp only [List.length_cons, List.length_nil]; omega
    · rw [of_int, of_open, of_close, app_tx, tx_len, tx_len, List.length_append]; simp only [List.length_cons, List.length_nil]; omega
    · rw [of_int, of_open, of_close, app_tx, app_tx]
      refine q _ ?_ _ ((same_new hp1 _).trans ((same_new hp2 _).trans (same_new hp3 _)))
      rw [List.length_append, List.length_append]; simp only [List.length_cons, List.length_nil]; omega
def spBent (K : PySem.W.Frag) : Sp := fun vs H Q _ => ∃ (a : Addr) (ns : List Int) (k : Int) (x : List Nat), vs = [.ref a, .int k, .str (tx x)] ∧ SqL K H a (ns.map V.int) ∧ ns.length ≤ 63 ∧ 0 ≤ k ∧ k ≤ 1000 ∧ x.length ≤ 15000 ∧ ∀ (y : List Nat), y.length ≤ x.length + 1 → ∀ H', Same H H' → Q (.str (tx y)) H'
theorem scBent : FnScope ["_law_script", "_law_k", "_law_text", "_law_more", "_law_at", "_law_signs_here", "_law_sign"] ["_law_script", "_law_k", "_law_text"] (defScope sBent) := ⟨rfl, rfl, rfl, by decide +kernel, rfl, by decide +kernel, by decide +kernel⟩
theorem ok_bent (F : Fun K "_law_bent" "_law_bent" sBent f fd) (B : Bl mg) (G_law_cell : Dn P w K mg base 1 "_law_cell" ["_law_script", "_law_k"] (spCell K)) (G_law_signs : Dn P w K mg base 1 "_law_signs" [] spSigns) : FnOk P w K mg base CX0 2 f fd ["_law_script", "_law_k", "_law_text"] (spBent K) := by
  refine F.ok scBent (fun vs H Q E h => ?_) (fun cdv A outer s H vs Q E hr h => ?_)
  · obtain ⟨a, ns, k, x, rfl, _⟩ := h
    rfl
  obtain ⟨a, ns, k, x, rfl, hS, h63, k0, k1, hx, q⟩ := h
  have nd := scBent.nd
  refine ⟨_, (pss_cons (ps_set (i := 3) nd rfl (Or.inl rfl) (pe_cd G_law_cell hr (by omega) rfl (pa_cons (pv 0) (pa_cons (pv 1) pa_nil))))
    (pss_cons (ps_set (i := 4) nd rfl (Or.inl rfl) (pe_op op_mod (pe_op op_fdiv (pv 3) pe_int) (pe_op op_add (pe_callB call_len_str rfl B.len bt_len (pa_cons (pv 2) pa_nil)) pe_int)))
    (pss_cons (ps_set (i := 5) nd rfl (Or.inl rfl) (pe_op op_add_str (pe_cd0 G_law_signs hr (by omega) rfl) pe_str))
    (pss_cons (ps_set (i := 6) nd rfl (Or.inl rfl) (pe_ix ix_str (pv 5) (pe_op op_mod (pe_cd G_law_cell hr (by omega) rfl (pa_cons (pv 0) (pa_cons (pe_op op_add (pv 1) pe_int) pa_nil))) (pe_callB call_len_str rfl B.len bt_len (pa_cons (pv 5) pa_nil))) (fun _ _ => rfl)))
    (pss_cons (ps_if (pt_cmpR op_eq (pe_op op_mod (pv 3) pe_int) pe_int (nomark _)) (pss_one (ps_ret (pe_op op_add_str (pe_op op_add_str (pe_slice sl_str (pv 2) po_none (po_some (pv 4))) (pv 6)) (pe_slice sl_str (pv 2) (po_some (pv 4)) po_none)))) pss_nil)
    (pss_cons (ps_if (pt_cmpR op_eq (pe_op op_mod (pv 3) pe_int) pe_int (nomark _)) (pss_one (ps_ret (pe_op op_add_str (pe_slice sl_str (pv 2) po_none (po_some (pv 4))) (pe_slice sl_str (pv 2) (po_some (pe_op op_add (pv 4) pe_int)) po_none)))) pss_nil)
    (pss_cons (ps_if (pt_cmpR op_eq (pe_op op_mod (pv 3) pe_int) pe_int (nomark _)) (pss_one (ps_ret (pe_op op_add_str (pe_op op_add_str (pe_slice sl_str (pv 2) po_none (po_some (pv 4))) (pe_slice sl_str (pv 2) (po_some (pv 4)) (po_some (pe_op op_add (pv 4) pe_int)))) (pe_slice sl_str (pv 2) (po_some (pv 4)) po_none)))) pss_nil)
    (pss_one (ps_ret (pe_op op_add_str (pe_op op_add_str (pe_slice sl_str (pv 2) po_none (po_some (pv 4))) (pv 6)) (pe_slice sl_str (pv 2) (po_some (pe_op op_add (pv 4) pe_int)) po_none))))))))))), ?_⟩
  rw [show start ["_law_script", "_law_k", "_law_text", "_law_more", "_law_at", "_law_signs_here", "_law_sign"] [.ref a, .int k, .str (tx x)] = [some (.ref a), some (.int k), some (.str (tx x)), none, none, none, none] from rfl]
  walk_at "rd3"
  have hpl := tx_len x
  have l : ∀ lo hi, (Txt.slice (tx x) lo hi).length ≤ x.length := fun lo hi => by have := Txt.slice_le (tx x) lo hi; omega
  have sgl : (sgS ++ Str.ofString "....[[[]]]0011zz{`\n\t").length = 114 := by decide +kernel
  have sgl0 : sgS.length ≤ 100 := by decide +kernel
  have sz : (tx x).length ≤ sizeLine := by rw [hpl, sizeLine_eq]; omega
  have sg20 : (Str.ofString "....[[[]]]0011zz{`\n\t").length = 20 := by decide +kernel
  refine spCell_i hS h63 (by omega) (by omega) fun H1 g1 => ⟨_, rfl, by omega, by omega, rfl, _, rfl, by omega, ?_⟩
  refine spCell_i (g1.seq hS) h63 (by omega) (by omega) fun H2 g2 => ⟨by rw [sgl]; decide, _, rfl, by rw [sgl]; decide, ?_⟩
  obtain ⟨n, hn, hnl⟩ : ∃ n : Nat, cellF ns k / 8 % (((tx x).length : Int) + 1) = (n : Int) ∧ n ≤ x.length := ⟨(cellF ns k / 8 % (((tx x).length : Int) + 1)).toNat, by have := Int.emod_nonneg (cellF ns k / 8) (show ((tx x).length : Int) + 1 ≠ 0 by omega); omega, by have := Int.emod_lt_of_pos (cellF ns k / 8) (show 0 < ((tx x).length : Int) + 1 by omega); omega⟩
  simp only [hn]
  have hnn : ((n : Int) + 1) = ((n + 1 : Nat) : Int) := by omega
  simp only [hnn]
  have c2 := Int.emod_nonneg (cellF ns (k + 1)) (show (((sgS ++ Str.ofString "....[[[]]]0011zz{`\n\t").length : Nat) : Int) ≠ 0 by rw [sgl]; decide)
  have c3 := Int.emod_lt_of_pos (cellF ns (k + 1)) (show 0 < (((sgS ++ Str.ofString "....[[[]]]0011zz{`\n\t").length : Nat) : Int) by rw [sgl]; decide)
  obtain ⟨c, hc, _⟩ := atI_of (xs := ts (sgS ++ Str.ofString "....[[[]]]0011zz{`\n\t")) (i := cellF ns (k + 1) % (((sgS ++ Str.ofString "....[[[]]]0011zz{`\n\t").length : Nat) : Int)) c2 (by rw [show (ts (sgS ++ Str.ofString "....[[[]]]0011zz{`\n\t")).length = (sgS ++ Str.ofString "....[[[]]]0011zz{`\n\t").length from (ts_len _).symm]; exact c3)
  refine rIxS_i (by rw [sgl]; decide) hc ⟨_, rfl, ?_⟩
  have e1 : Txt.slice (tx x) none (some (n : Int)) = tx (x.take n) := by rw [slice_to, ts_tx]
  have e2 : Txt.slice (tx x) (some (n : Int)) none = tx (x.drop n) := by rw [slice_from, ts_tx]
  have e3 : Txt.slice (tx x) (some ((n + 1 : Nat) : Int)) none = tx (x.drop (n + 1)) := by rw [slice_from, ts_tx]
  have e4 : Txt.slice (tx x) (some (n : Int)) (some ((n + 1 : Nat) : Int)) = tx ((x.take (n + 1)).drop n) := by rw [slice_nat, ts_tx]
  have l1 : (x.take n).length ≤ n := by rw [List.length_take]; omega
  have l2 : (x.drop n).length = x.length - n := List.length_drop ..
  have l3 : (x.drop (n + 1)).length = x.length - (n + 1) := List.length_drop ..
  have l4 : ((x.take (n + 1)).drop n).length ≤ 1 := by rw [List.length_drop, List.length_take]; omega
  have g := g1.trans g2
  have fin : ∀ y : List Nat, y.length ≤ x.length + 1 → Q (.str (tx y)) H2 := fun y hy => q y hy _ g
  split
  · refine ⟨_, rfl, sz, _, rfl, _, rfl, ?_, _, rfl, sz, _, rfl, ?_, ?_⟩
    · rw [e1, tx_len, tx_len]; simp only [List.length_cons, List.length_nil]; omega
    · rw [e1, e2, app_tx, tx_len, tx_len, List.length_append]; simp only [List.length_cons, List.length_nil]; omega
    · rw [e1, e2, app_tx, app_tx]
      refine fin _ ?_
      rw [List.length_append, List.length_append]; simp only [List.length_cons, List.length_nil]; omega
  · refine ⟨_, rfl, ?_⟩
    split
    · refine ⟨_, rfl, sz, _, rfl, sz, _, rfl, _, rfl, ?_, ?_⟩
      · rw [e1, e3, tx_len, tx_len]; omega
      · rw [e1, e3, app_tx]
        refine fin _ ?_
        rw [List.length_append]; omega
    · refine ⟨_, rfl, ?_⟩
      split
      · refine ⟨_, rfl, sz, _, rfl, sz, _, rfl, _, rfl, ?_, _, rfl, sz, _, rfl, ?_, ?_⟩
        · rw [e1, e4, tx_len, tx_len]; omega
        · rw [e1, e4, e2, app_tx, tx_len, tx_len, List.length_append]; omega
        · rw [e1, e4, e2, app_tx, app_tx]
          refine fin _ ?_
          rw [List.length_append, List.length_append]; omega
      · refine ⟨_, rfl, sz, _, rfl, _, rfl, ?_, _, rfl, sz, _, rfl, ?_, ?_⟩
        · rw [e1, tx_len, tx_len]; simp only [List.length_cons, List.length_nil]; omega
        · rw [e1, e3, app_tx, tx_len, tx_len, List.length_append]; simp only [List.length_cons, List.length_nil]; omega
        · rw [e1, e3, app_tx, app_tx]
          refine fin _ ?_
          rw [List.length_append, List.length_append]; simp only [List.length_cons, List.length_nil]; omega
def spSome : Sp := fun vs H Q _ => ∃ (m : Int), vs = [.int m] ∧ 0 ≤ m ∧ ∀ (x : List Nat), x.length ≤ 6000 → ∀ H', Same H H' → Q (.str (tx x)) H'
theorem scSome : FnScope ["_law_more", "_law_some_here"] ["_law_more"] (defScope sSome) := ⟨rfl, rfl, rfl, by decide +kernel, rfl, by decide +kernel, by decide +kernel⟩
theorem ok_some (F : Fun K "_law_some" "_law_some" sSome f fd) (B : Bl mg) : FnOk P w K mg base CX0 1 f fd ["_law_more"] spSome := by
  refine F.ok scSome (fun vs H Q E h => ?_) (fun cdv A outer s H vs Q E hr h => ?_)
  · obtain ⟨m, rfl, _⟩ := h
    rfl
  obtain ⟨m, rfl, h0, q⟩ := h
  have nd := scSome.nd
  refine ⟨_, (pss_cons (ps_set (i := 1) nd rfl (Or.inl rfl) (pe_lst (pa_cons pe_str (pa_cons pe_str (pa_cons pe_str (pa_cons pe_str (pa_cons pe_str (pa_cons pe_str (pa_cons pe_str (pa_cons pe_str (pa_cons pe_str (pa_cons pe_str (pa_cons pe_str (pa_cons pe_str (pa_cons pe_str (pa_cons pe_str pa_nil))))))))))))))))
    (pss_cons (ps_set (i := 1) nd rfl (Or.inl rfl) (pe_op op_cat (pv 1) (pe_lst (pa_cons pe_str (pa_cons pe_str (pa_cons pe_str (pa_cons pe_str (pa_cons pe_str (pa_cons pe_str (pa_cons pe_str (pa_cons pe_str (pa_cons pe_str pa_nil))))))))))))
    (pss_cons (ps_set (i := 1) nd rfl (Or.inl rfl) (pe_op op_cat (pv 1) (pe_lst (pa_cons pe_str (pa_cons pe_str (pa_cons pe_str (pa_cons pe_str (pa_cons pe_str (pa_cons pe_str (pa_cons pe_str pa_nil))))))))))
    (pss_cons (ps_set (i := 1) nd rfl (Or.inl rfl) (pe_op op_cat (pv 1) (pe_lst (pa_cons (pe_op op_add_str (pe_op op_add_str pe_str (pe_op op_mul_strB pe_str pe_int)) pe_str) (pa_cons (pe_op op_add_str (pe_op op_add_str pe_str (pe_op op_mul_strB pe_str pe_int)) pe_str) (pa_cons (pe_op op_mul_strB pe_str pe_int) (pa_cons (pe_op op_mul_strB pe_str pe_int) pa_nil)))))))
    (pss_cons (ps_set (i := 1) nd rfl (Or.inl rfl) (pe_op op_cat (pv 1) (pe_lst (pa_cons (pe_op op_add_str pe_str (pe_op op_mul_strB pe_str pe_int)) (pa_cons (pe_op op_add_str pe_str (pe_op op_mul_strB pe_str pe_int)) pa_nil)))))
    (pss_cons (ps_set (i := 1) nd rfl (Or.inl rfl) (pe_op op_cat (pv 1) (pe_lst (pa_cons pe_str (pa_cons pe_str (pa_cons pe_str (pa_cons pe_str (pa_cons pe_str (pa_cons pe_str (pa_cons pe_str (pa_cons (pe_op op_mul_strB pe_str pe_int) (pa_cons pe_str (pa_cons pe_str pa_nil)))))))))))))
    (pss_one (ps_ret (pe_ix ix_list (pv 1) (pe_op op_mod (pv 0) (pe_callB call_len_l rfl B.len bt_len (pa_cons (pv 1) pa_nil))) (fun _ _ => rfl)))))))))), ?_⟩
  rw [show start ["_law_more", "_law_some_here"] [.int m] = [some (.int m), none] from rfl]
  walk_at "rd3"
  have cat : ∀ {n k : Nat} {H1 : Hp} {p r : Addr} {Q' : VK}, SLs n H1 p → SLs k H1 r → n + k ≤ 1000 → (∀ r' H', Same H1 H' → SLs (n + k) H' r' → Q' (.ref r') H') → rCat (.ref p) (.ref r) H1 Q' := fun {n k H1 p r Q'} hp hr hz h => by
    obtain ⟨xs, a1, a2, a3, a4⟩ := hp
    obtain ⟨ys, b1, b2, b3, b4⟩ := hr
    refine ⟨p, r, xs, ys, rfl, rfl, a1, b1, by rw [sizeLine_eq]; omega, fun p' hp' => h p' _ (same_new hp' _) ⟨xs ++ ys, upd_same, fun v hv => (List.mem_append.mp hv).elim (a2 v) (b2 v), by rw [List.length_append]; omega, by rw [List.length_append]; omega⟩⟩
  have new : ∀ {H1 : Hp} {p : Addr} {L : List V} (k : Nat), (∀ v ∈ L, ∃ z : Str, v = .str z ∧ z.length ≤ 6000) → 0 < L.length → L.length ≤ k → SLs k (upd H1 p (.lst L)) p := fun {H1 p L} k h1 h2 h3 => ⟨L, upd_same, h1, h2, h3⟩
  have r1 : ∀ (z : Str) (n : Nat), z.length ≤ 1 → (tx (List.replicate n (ts z)).flatten).length ≤ n := fun z n hz => by
    have := ts_len z
    rw [tx_len, List.length_flatten, List.map_replicate, List.sum_replicate_nat]
    calc n * (ts z).length ≤ n * 1 := Nat.mul_le_mul_left n (by omega)
      _ = n := Nat.mul_one n
  have r3 : ∀ (z : Str) (n : Nat), z.length ≤ 3 → (tx (List.replicate n (ts z)).flatten).length ≤ n * 3 := fun z n hz => by
    have := ts_len z
    rw [tx_len, List.length_flatten, List.map_replicate, List.sum_replicate_nat]
    exact Nat.mul_le_mul_left n (by omega)
  have ap : ∀ a b : Str, (a ++ b).length = a.length + b.length := fun a b => by rw [← tx_ts a, ← tx_ts b, app_tx, tx_len, tx_len, tx_len, List.length_append]
  have o1 : (Str.ofString "1").length = 1 := by decide +kernel
  have o0 : (Str.ofString "0").length = 1 := by decide +kernel
  have oa : (Str.ofString "a").length = 1 := by decide +kernel
  have ob : (Str.ofString "[").length = 1 := by decide +kernel
  have oc : (Str.ofString "]").length = 1 := by decide +kernel
  have od : (Str.ofString "[0]").length = 3 := by decide +kernel
  have q1 := r1 (Str.ofString "1") 4000 (by omega)
  have q0 := r1 (Str.ofString "0") 4000 (by omega)
  have q12 := r1 (Str.ofString "a") 12 (by omega)
  have q13 := r1 (Str.ofString "a") 13 (by omega)
  have q5 := r1 (Str.ofString "a") 5000 (by omega)
  have q7 := r3 (Str.ofString "[0]") 7 (by omega)
  have q8 := r3 (Str.ofString "[0]") 8 (by omega)
  intro p1 hp1 p2 hp2
  refine cat (n := 14) (k := 9) (SLs.same (new 14 ?_ (by decide) (by decide)) (same_new hp2 _)) (new 9 ?_ (by decide) (by decide)) (by decide) fun a1 G1 g1 L1 p3 hp3 => ?_
  · repeat (refine all_cons ⟨_, rfl, by decide +kernel⟩ ?_)
    exact all_nil
  · repeat (refine all_cons ⟨_, rfl, by decide +kernel⟩ ?_)
    exact all_nil
  refine cat (k := 7) (L1.same (same_new hp3 _)) (new 7 ?_ (by decide) (by decide)) (by decide) fun a2 G2 g2 L2 => ?_
  · repeat (refine all_cons ⟨_, rfl, by decide +kernel⟩ ?_)
    exact all_nil
  refine ⟨by first | omega | (rw [ap]; omega), by first | omega | (rw [ap]; omega), by first | omega | (rw [ap]; omega), by first | omega | (rw [ap]; omega), by first | omega | (rw [ap]; omega), by first | omega | (rw [ap]; omega), by first | omega | (rw [ap]; omega), by first | omega | (rw [ap]; omega), fun p4 hp4 => ?_⟩
  refine cat (k := 4) (L2.same (same_new hp4 _)) (new 4 ?_ (by decide) (by decide)) (by decide) fun a3 G3 g3 L3 => ?_
  · repeat (refine all_cons ⟨_, rfl, by first | (rw [ap, ap]; omega) | (rw [ap]; omega) | omega | decide +kernel⟩ ?_)
    exact all_nil
  refine ⟨by first | omega | (rw [ap]; omega), by first | omega | (rw [ap]; omega), by first | omega | (rw [ap]; omega), by first | omega | (rw [ap]; omega), fun p5 hp5 => ?_⟩
  refine cat (k := 2) (L3.same (same_new hp5 _)) (new 2 ?_ (by decide) (by decide)) (by decide) fun a4 G4 g4 L4 => ?_
  · repeat (refine all_cons ⟨_, rfl, by first | (rw [ap, ap]; omega) | (rw [ap]; omega) | omega | decide +kernel⟩ ?_)
    exact all_nil
  refine ⟨by first | omega | (rw [ap]; omega), fun p6 hp6 => ?_⟩
  refine cat (k := 10) (L4.same (same_new hp6 _)) (new 10 ?_ (by decide) (by decide)) (by decide) fun a5 G5 g5 L5 => ?_
  · repeat (refine all_cons ⟨_, rfl, by first | (rw [ap, ap]; omega) | (rw [ap]; omega) | omega | decide +kernel⟩ ?_)
    exact all_nil
  obtain ⟨xs, h1, h2, h3, h4⟩ := L5
  have k0 := Int.emod_nonneg m (show (xs.length : Int) ≠ 0 by omega)
  have k1 := Int.emod_lt_of_pos m (show 0 < (xs.length : Int) by omega)
  obtain ⟨v, hv, hm⟩ := atI_of (xs := xs) (i := m % xs.length) k0 k1
  obtain ⟨z, rfl, hz⟩ := h2 v hm
  refine ⟨a5, rfl, xs, SqL.of h1, by omega, rIxL_i (SqL.of h1) hv ?_⟩
  have := ts_len z
  have e := q (ts z) (by omega) G5 ((same_new hp1 _).trans ((same_new hp2 _).trans (g1.trans ((same_new hp3 _).trans (g2.trans ((same_new hp4 _).trans (g3.trans ((same_new hp5 _).trans (g4.trans ((same_new hp6 _).trans g5))))))))))
  rwa [tx_ts] at e
end
end K32
namespace K32
open PySem L2
local macro_rules | `(tactic| walk_at "rd") => `(tactic| simp only [cxOf_K, nox_K, compCx_K, tSeq, tNext, tAsg, gName, tRet, tRetN, tIfS, tDrop, tOp, tUn, tVar, tC, tCall, tCons, tNil, tTest, tB, tAnd, tOr, tNot, tAndV, tOrV, tNotV, tIf, tCB, tBM, tComp, tTrue, tPart, tNoPart, tSl, tChain, tIsN, tNotN, tLst, tTup, tFor_eq, sDPut, tDNewK, tNever, rI0, rI, rU, rEq, rNe, rMulS, rMulB, rInC, iRng1, iStr, CDiv, CMul, CPow, scal, List.append_nil, List.getElem?_cons_zero, List.getElem?_cons_succ, List.set_cons_zero, List.set_cons_succ, List.map_cons, List.map_nil, List.length_cons, List.length_nil, sizeLine_eq, Nat.reduceAdd, Nat.reduceLeDiff, Option.join_some, Option.join_none, Option.some.injEq, V.int.injEq, V.str.injEq, V.bl.injEq, V.ref.injEq, V.ty.injEq, List.cons.injEq, and_true, true_and, and_self, exists_eq_left', exists_eq_left, exists_and_left, exists_and_right, decide_eq_true_eq, Bool.not_eq_eq_eq_not, Bool.not_true, Bool.not_false, decide_eq_false_iff_not, Int.reduceLT, Int.reduceLE, Int.reduceNeg, Int.reducePow, Int.reduceAdd, Int.reduceSub, Int.reduceMul, Int.reduceToNat, natAbs10, Nat.reduceLT, Nat.reducePow, or_true, true_or, if_true, if_false, Bool.false_eq_true, ite_true, ite_false, reduceCtorEq])
local macro_rules | `(tactic| walk_at "rd3") => `(tactic| simp only [gTup, gCons, gNil, iZip, tIsT, tDisp, tPairs, tBM0, iList, iDict, tThaw, tMaxD, rMaxD, tDGet, rVals, tComp, cxOf_K, nox_K, compCx_K, tSeq, tNext, tAsg, gName, tRet, tRetN, tIfS, tDrop, tOp, tUn, tVar, tC, tCall, tCons, tNil, tTest, tB, tAnd, tOr, tNot, tAndV, tOrV, tNotV, tIf, tCB, tBM, tComp, tTrue, tPart, tNoPart, tSl, tChain, tIsN, tNotN, tLst, tTup, tFor_eq, sDPut, tDNewK, tNever, rI0, rI, rU, rEq, rNe, rMulS, rMulB, rInC, iRng1, iStr, CDiv, CMul, CPow, scal, List.append_nil, List.getElem?_cons_zero, List.getElem?_cons_succ, List.set_cons_zero, List.set_cons_succ, List.map_cons, List.map_nil, List.length_cons, List.length_nil, sizeLine_eq, Nat.reduceAdd, Nat.reduceLeDiff, Option.join_some, Option.join_none, Option.some.injEq, V.int.injEq, V.str.injEq, V.bl.injEq, V.ref.injEq, V.ty.injEq, List.cons.injEq, and_true, true_and, and_self, exists_eq_left', exists_eq_left, exists_and_left, exists_and_right, decide_eq_true_eq, Bool.not_eq_eq_eq_not, Bool.not_true, Bool.not_false, decide_eq_false_iff_not, Int.reduceLT, Int.reduceLE, Int.reduceNeg, Int.reducePow, Int.reduceAdd, Int.reduceSub, Int.reduceMul, Int.reduceToNat, natAbs10, Nat.reduceLT, Nat.reducePow, or_true, true_or, if_true, if_false, Bool.false_eq_true, ite_true, ite_false, reduceCtorEq])
seal L2.PSs L2.PS L2.PE L2.PT L2.PW L2.PA L2.PI L2.PG L2.PGs L2.PPs L2.PTs
abbrev sLaw : Stmt := top 47
section
variable {P : Program} {w : World} {K : PySem.W.Frag} {mg : Str → Option Value} {base : Heap} {f : Addr} {fd : FuncData} {d : Nat → Addr}
def spLaw (K : PySem.W.Frag) : Sp := fun vs H Q _ => ∃ (a : Addr) (ns : List Int), vs = [.ref a] ∧ SqL K H a (ns.map V.int) ∧ ns.length ≤ 63 ∧ ∀ H', Q (.bl true) H'
theorem scLaw : FnScope ["_law_script", "_law_more", "_law_text", "_law_k", "_law_at", "_law_due_here", "_law_found_here"] ["_law_script"] (defScope sLaw) := ⟨rfl, rfl, rfl, by decide +kernel, rfl, by decide +kernel, by decide +kernel⟩
/-- between two steps: the text, whatever it is -/
def TxW (H : Hp) (a : Addr) (m : Int) (n : Nat) : St → Hp → Prop := fun σ H' => ∃ (x : List Nat) (o3 o4 : Option V), σ = [some (.ref a), some (.int m), some (.str (tx x)), o3, o4, none, none] ∧ x.length ≤ n ∧ Same H H'
/-- what may stand in a drawn path -/
def Elt (u : T) : Prop := T.fin u ∧ T.dep u ≤ 1 ∧ T.sz u ≤ 3 ∧ shortT u
theorem step_elt {u : T} (h : stepOk u = true) : Elt u := by
  rcases step_cases h with ⟨x, rfl, hx⟩ | ⟨i, rfl, _⟩
  · exact ⟨True.intro, Nat.zero_le _, (show 1 ≤ 3 by decide), Nat.le_trans (okName_len hx) (by decide)⟩
  · exact ⟨True.intro, Nat.zero_le _, (show 1 ≤ 3 by decide), True.intro⟩
theorem step_sc {u : T} (h : stepOk u = true) : Sc u := by
  rcases step_cases h with ⟨x, rfl, hx⟩ | ⟨i, rfl, _⟩
  · exact .inr ⟨_, rfl⟩
  · exact .inl ⟨_, rfl⟩
theorem elts_all : ∀ {us : List T}, (∀ u ∈ us, Elt u) → T.fins us ∧ T.deps us ≤ 1 ∧ T.szs us ≤ 3 * us.length
  | [], _ => ⟨True.intro, Nat.zero_le _, Nat.zero_le _⟩
  | u :: us, h => by
    obtain ⟨h1, h2, h3⟩ := elts_all fun v hv => h v (List.mem_cons_of_mem _ hv)
    obtain ⟨a1, a2, a3, _⟩ := h u List.mem_cons_self
    refine ⟨⟨a1, h1⟩, ?_, ?_⟩
    · show max (T.dep u) (T.deps us) ≤ 1
      omega
    · show T.sz u + T.szs us ≤ 3 * (us.length + 1)
      omega
theorem stepD_ok {p : List Nat} {u : T} (h : stepD p = some u) : stepOk u = true := by
  unfold stepD at h
  split at h
  · rename_i hn
    cases h
    simp [stepOk, nameT, hn]
  · split at h
    · rename_i n e
      cases h
      have := List.mem_range.mp (List.mem_of_find?_eq_some e)
      simp only [stepOk, nameT, placeT, Bool.false_or, decide_eq_true_eq]
      omega
    · cases h
theorem stepsD_ok : ∀ {ps : List (List Nat)} {us : List T}, stepsD ps = some us → us.length = ps.length ∧ ∀ u ∈ us, stepOk u = true
  | [], us, h => by cases h; exact ⟨rfl, fun _ h => nomatch h⟩
  | p :: ps, us, h => by
    unfold stepsD at h
    cases hp : stepD p with
    | none => rw [hp] at h; cases h
    | some v =>
      cases hr : stepsD ps with
      | none => rw [hp, hr] at h; cases h
      | some vs =>
        rw [hp, hr] at h
        cases h
        obtain ⟨h1, h2⟩ := stepsD_ok hr
        refine ⟨by rw [List.length_cons, List.length_cons, h1], fun u hu => ?_⟩
        rcases List.mem_cons.mp hu with z | z
        · rw [z]; exact stepD_ok hp
        · exact h2 u z
theorem dueD_ok {L : List Nat} {us : List T} (h : dueD L = some us) : us.length ≤ 8 ∧ ∀ u ∈ us, stepOk u = true := by
  unfold dueD at h
  split at h
  · cases h; exact ⟨by decide, fun _ h => nomatch h⟩
  · split at h
    · cases h
    · obtain ⟨h1, h2⟩ := stepsD_ok h
      exact ⟨by omega, h2⟩
theorem TxW.mono {H : Hp} {a : Addr} {m : Int} {n k : Nat} {σ : St} {H' : Hp} (h : TxW H a m n σ H') (hk : n ≤ k) : TxW H a m k σ H' := by
  obtain ⟨x, o3, o4, e, hx, g⟩ := h
  exact ⟨x, o3, o4, e, by omega, g⟩
theorem flat20 : ∀ xs : List (List Nat), (∀ x ∈ xs, x.length ≤ 20) → (((xs.map tx).map ts).flatten).length ≤ 20 * xs.length
  | [], _ => by simp
  | x :: xs, h => by
    have ih := flat20 xs fun y hy => h y (List.mem_cons_of_mem _ hy)
    have h0 := h x List.mem_cons_self
    simp only [List.map_cons, List.flatten_cons, List.length_append, List.length_cons]
    rw [ts_tx]; omega
theorem ok_law (F : Fun K "law" "law" sLaw f fd) (B : Bl mg) (G_law_cell : Dn P w K mg base 1 "_law_cell" ["_law_script", "_law_k"] (spCell K)) (G_law_step : Dn P w K mg base 2 "_law_step" ["_law_more"] spLStep) (G_law_bent : Dn P w K mg base 2 "_law_bent" ["_law_script", "_law_k", "_law_text"] (spBent K)) (G_law_some : Dn P w K mg base 1 "_law_some" ["_law_more"] spSome)
    (G_law_due : Dn P w K mg base 2 "_law_due" ["_law_text"] spDue) (G_law_found : Dn P w K mg base 6 "_law_found" ["_law_text"] (spFound d)) (G_law_alike : Dn P w K mg base 5 "_law_alike" ["_law_found_here", "_law_due_here"] (spAlike 3)) : FnOk P w K mg base CX0 7 f fd ["_law_script"] (spLaw K) := by
  refine F.ok scLaw (fun vs H Q E h => ?_) (fun cdv A outer s H vs Q E hr h => ?_)
  · obtain ⟨a, ns, rfl, _⟩ := h
    rfl
  obtain ⟨a, ns, rfl, hS, h63, q⟩ := h
  have nd := scLaw.nd
  have hu0 := hr.units0
  have hu := hu_of hr
  have hu64 := hr.units
  refine ⟨_, (pss_cons (ps_set (i := 1) nd rfl (Or.inl rfl) (pe_cd G_law_cell hr (by omega) rfl (pa_cons (pv 0) (pa_cons pe_int pa_nil))))
    (pss_cons (ps_set (i := 2) nd rfl (Or.inl rfl) (pe_bm PySem.F.plainAttrs_str PySem.F.slot_str_join PySem.F.type_str_join mt_join pe_str (pa_cons (pe_comp (own := ["_law_k"]) (F := [("_law_script", 0)]) ⟨rfl, by with_unfolding_all rfl, by with_unfolding_all rfl, by with_unfolding_all rfl, (.cons rfl rfl rfl .nil)⟩ rfl (pi_range1 rfl B.range (pa_cons (pe_op op_mod (pv 1) pe_int) pa_nil)) (fun _ _ _ _ => pg_name (i := 0) (by show (compN ["_law_k"] [("_law_script", 0)]).Nodup; decide +kernel) rfl (Or.inl rfl)) (fun _ _ _ _ => pts_nil) (fun _ _ _ _ => (pe_cd G_law_step hr (by omega) rfl (pa_cons (pe_cd G_law_cell hr (by omega) rfl (pa_cons (pv 1) (pa_cons (pe_op op_add pe_int (pv 0)) pa_nil))) pa_nil)))) pa_nil)))
    (pss_cons (ps_mid (ps_if (pt_cmpR op_eq (pe_slice sl_str (pv 2) po_none (po_some pe_int)) pe_str (nomark _)) (pss_one (ps_set (i := 2) nd rfl (Or.inl rfl) (pe_slice sl_str (pv 2) (po_some pe_int) po_none))) pss_nil))
    (pss_cons (ps_mid (ps_if (pt_cmpR op_eq (pv 2) pe_str (nomark _)) (pss_one (ps_set (i := 2) nd rfl (Or.inl rfl) pe_str)) pss_nil))
    (pss_cons (ps_mid (ps_if (pt_cmpR op_eq (pe_op op_mod (pe_op op_fdiv (pv 1) pe_int) pe_int) pe_int (nomark _)) (pss_one (ps_set (i := 2) nd rfl (Or.inl rfl) (pe_cd G_law_some hr (by omega) rfl (pa_cons (pe_op op_fdiv (pv 1) pe_int) pa_nil)))) pss_nil))
    (pss_cons (ps_mid (ps_if (pt_cmpR op_eq (pe_op op_mod (pe_op op_fdiv (pv 1) pe_int) pe_int) pe_int (nomark _)) (pss_one (ps_set (i := 2) nd rfl (Or.inl rfl) pe_str)) pss_nil))
    (pss_cons (ps_mid (ps_if (pt_cmpR op_eq (pe_op op_mod (pe_op op_fdiv (pv 1) pe_int) pe_int) pe_int (nomark _)) (pss_one (ps_for PassesOwn.never rfl (pi_range1 rfl B.range (pa_cons (pe_op op_add pe_int (pe_op op_mod (pe_op op_fdiv (pv 1) pe_int) pe_int)) pa_nil)) (pg_name (i := 3) nd rfl (Or.inl rfl)) (pss_one (ps_set (i := 2) nd rfl (Or.inl rfl) (pe_cd G_law_bent hr (by omega) rfl (pa_cons (pv 0) (pa_cons (pe_op op_add pe_int (pe_op op_mul pe_int (pv 3))) (pa_cons (pv 2) pa_nil)))))))) pss_nil))
    (pss_cons (ps_mid (ps_if (PW.pt (pw_and (pt_cmpR op_eq (pe_op op_mod (pe_op op_fdiv (pv 1) pe_int) pe_int) pe_int (nomark _)) (pw_and1 (pt_cmpR op_in_c pe_str (pv 2) (by with_unfolding_all rfl))))) (pss_cons (ps_set (i := 4) nd rfl (Or.inl rfl) (pe_op op_add (pe_bm PySem.F.plainAttrs_str PySem.F.slot_str_index PySem.F.type_str_index mt_index_s (pv 2) (pa_cons pe_str pa_nil)) pe_int))
    (pss_one (ps_set (i := 2) nd rfl (Or.inl rfl) (pe_op op_add_str (pe_op op_add_str (pe_slice sl_str (pv 2) po_none (po_some (pv 4))) pe_str) (pe_slice sl_str (pv 2) (po_some (pv 4)) po_none))))) pss_nil))
    (pss_cons (ps_set (i := 5) nd rfl (Or.inl rfl) (pe_cd G_law_due hr (by omega) rfl (pa_cons (pv 2) pa_nil)))
    (pss_cons (ps_set (i := 6) nd rfl (Or.inl rfl) (pe_cd G_law_found hr (by omega) rfl (pa_cons (pv 2) pa_nil)))
    (pss_cons (ps_if (pt_cmp (pc_isN (pv 5))) (pss_one (ps_ret (pe_cmpR (op_eq_U hu64) (pv 6) (pe_tup (pa_cons pe_str pa_nil)) (nomark _)))) pss_nil)
    (pss_cons (ps_if (pt_not (pt_val (pe_cd G_law_alike hr (by omega) rfl (pa_cons (pv 6) (pa_cons (pv 5) pa_nil))))) (pss_one (ps_ret pe_bl)) pss_nil)
    (pss_cons (ps_expr (pe_bm PySem.F.plainAttrs_list PySem.F.slot_list_append PySem.F.type_list_append mt_append (pv 6) (pa_cons pe_int pa_nil)))
    (pss_one (ps_ret (pe_cd G_law_alike hr (by omega) rfl (pa_cons (pe_cd G_law_found hr (by omega) rfl (pa_cons (pv 2) pa_nil)) (pa_cons (pv 5) pa_nil)))))))))))))))))), ?_⟩
  rw [show start ["_law_script", "_law_more", "_law_text", "_law_k", "_law_at", "_law_due_here", "_law_found_here"] [.ref a] = [some (.ref a), none, none, none, none, none, none] from rfl]
  walk_at "rd3"
  refine spCell_i hS h63 (by decide) (by decide) fun H1 g1 => ?_
  have c00 := cellF_lo ns 0
  have c01 := cellF_hi ns 0
  generalize cellF ns 0 = m at c00 c01 ⊢
  refine ⟨rfl, m, rfl, by omega, by omega, comp_rng (fun i zs H2 => Same H H2 ∧ ∃ xs : List (List Nat), zs = (xs.map tx).map V.str ∧ xs.length = i ∧ ∀ x ∈ xs, x.length ≤ 20) (by rw [sizeLine_eq]; omega) ⟨g1, [], rfl, rfl, (fun _ h => nomatch h)⟩ ?_ ?_⟩
  · rintro i zs H2 hi _ ⟨g2, xs, rfl, hl, hx⟩
    walk_at "rd3"
    refine spCell_i (g2.seq hS) h63 (by omega) (by omega) fun H3 g3 => ⟨_, rfl, cellF_lo _ _, by have := cellF_hi ns (1 + (0 + (i : Int))); omega, fun y hy H4 g4 => ⟨g2.trans (g3.trans g4), xs ++ [y], by simp, by simp [hl], fun z hz => ?_⟩⟩
    rcases List.mem_append.mp hz with z' | z'
    · exact hx z z'
    · rw [List.mem_singleton.mp z']; exact hy
  rintro zs H2 _ ⟨g2, xs, rfl, hl, hx⟩ p hp
  have hfl := flat20 xs hx
  have s3 := same_new hp (.lst ((xs.map tx).map V.str))
  have hp3 := upd_same (H := H2) (a := p) (o := .lst ((xs.map tx).map V.str))
  have G3 := g2.trans s3
  generalize upd H2 p (.lst ((xs.map tx).map V.str)) = H3 at s3 hp3 G3 ⊢
  refine ⟨p, xs.map tx, rfl, rfl, SqL.of hp3, by omega, ?_⟩
  generalize hx0 : ((xs.map tx).map ts).flatten = x0 at hfl ⊢
  have hx0l : x0.length ≤ 220 := by omega
  have sz : ∀ x : List Nat, x.length ≤ 10000 → (tx x).length ≤ sizeLine := fun x h => by rw [tx_len, sizeLine_eq]; omega
  refine ⟨TxW H a m 220, ?_, ?_⟩
  · walk_at "rd3"
    refine ⟨_, rfl, sz _ (by omega), rfl, ?_⟩
    split
    · refine ⟨_, rfl, sz _ (by omega), (x0.drop 1), none, none, ?_, ?_, G3⟩
      · have := slice_from (tx x0) 1
        rw [ts_tx] at this
        rw [show (some (1 : Int)) = some ((1 : Nat) : Int) from rfl, this]
      · rw [List.length_drop]; omega
    · exact ⟨x0, _, _, rfl, hx0l, G3⟩
  rintro σ4 H4 ⟨x4, o3, o4, rfl, hx4, g4⟩
  refine ⟨TxW H a m 220, ?_, ?_⟩
  · walk_at "rd3"
    split
    · exact ⟨[46], _, _, by rw [of_dot], by decide, g4⟩
    · exact ⟨x4, _, _, rfl, hx4, g4⟩
  rintro σ5 H5 ⟨x5, o3, o4, rfl, hx5, g5⟩
  refine ⟨TxW H a m 6000, ?_, ?_⟩
  · walk_at "rd3"
    split
    · exact ⟨m / 96, rfl, by omega, fun x hx H6 g6 => ⟨x, _, _, rfl, hx, g5.trans g6⟩⟩
    · exact ⟨x5, _, _, rfl, by omega, g5⟩
  rintro σ6 H6 ⟨x6, o3, o4, rfl, hx6, g6⟩
  refine ⟨TxW H a m 6000, ?_, ?_⟩
  · walk_at "rd3"
    split
    · exact ⟨[], _, _, rfl, by decide, g6⟩
    · exact ⟨x6, _, _, rfl, by omega, g6⟩
  rintro σ7 H7 ⟨x7, o3, o4, rfl, hx7, g7⟩
  refine ⟨TxW H a m 6003, ?_, ?_⟩
  · walk_at "rd3"
    split
    · refine ⟨by omega, by omega, forB_rng (fun i σ H' => TxW H a m (6000 + i) σ H') ⟨x7, o3, o4, rfl, by omega, g7⟩ ?_ fun σ H' h => TxW.mono h (by omega)⟩
      rintro i σ H' hi ⟨x, o3', o4', rfl, hx, g⟩
      walk_at "rd3"
      exact ⟨a, ns, 20 + 2 * (0 + (i : Int)), x, rfl, g.seq hS, h63, by omega, by omega, by omega, fun y hy H2 g2 => ⟨y, _, _, rfl, by omega, g.trans g2⟩⟩
    · exact ⟨x7, o3, o4, rfl, by omega, g7⟩
  rintro σ8 H8 ⟨x8, o3, o4, rfl, hx8, g8⟩
  refine ⟨TxW H a m 6004, ?_, ?_⟩
  · walk_at "rd3"
    have stay : TxW H a m 6004 [some (V.ref a), some (V.int m), some (V.str (tx x8)), o3, o4, none, none] H8 := ⟨x8, o3, o4, rfl, by omega, g8⟩
    split
    · refine ⟨91, of_open, ?_⟩
      rw [ts_tx]
      by_cases h91 : 91 ∈ x8
      · refine iP h91 ⟨rfl, x8, 91, rfl, by rw [of_open], h91, fun i hi => ⟨_, rfl, ?_⟩⟩
        have o0 : Str.ofString "0" = tx [48] := by decide +kernel
        have e1 : Txt.slice (tx x8) none (some ((i : Int) + 1)) = tx (x8.take (i + 1)) := by
          have := slice_to (tx x8) (i + 1)
          rw [ts_tx] at this
          exact this
        have e2 : Txt.slice (tx x8) (some ((i : Int) + 1)) none = tx (x8.drop (i + 1)) := by
          have := slice_from (tx x8) (i + 1)
          rw [ts_tx] at this
          exact this
        have l1 : (x8.take (i + 1)).length ≤ x8.length := by rw [List.length_take]; omega
        have l2 : (x8.drop (i + 1)).length = x8.length - (i + 1) := List.length_drop ..
        have l3 : (x8.take (i + 1)).length ≤ i + 1 := by rw [List.length_take]; omega
        refine ⟨_, rfl, sz _ (by omega), _, rfl, ?_, _, rfl, sz _ (by omega), _, rfl, ?_, x8.take (i + 1) ++ [48] ++ x8.drop (i + 1), o3, some (.int ((i : Int) + 1)), ?_, ?_, g8⟩
        · rw [e1, o0, tx_len, tx_len]; simp only [List.length_cons, List.length_nil]; omega
        · rw [e1, e2, o0, app_tx, tx_len, tx_len, List.length_append]; simp only [List.length_cons, List.length_nil]; omega
        · rw [e1, e2, o0, app_tx, app_tx]
        · rw [List.length_append, List.length_append]; simp only [List.length_cons, List.length_nil]; omega
      · exact iN h91 stay
    · exact stay
  rintro σ9 H9 ⟨x9, o3, o4, rfl, hx9, g9⟩
  walk_at "rd3"
  refine ⟨x9, rfl, by omega, fun us hus p1 H10 g10 hp1n hp1 => ?_, fun hn H10 g10 => ⟨x9, rfl, by omega, (fun us h => by rw [hn] at h; cases h), fun _ p2 H11 g11 hp2 => iP rfl fun p3 hp3 => ?_⟩⟩
  · obtain ⟨h8, hok⟩ := dueD_ok hus
    have he := elts_all fun u hu' => step_elt (hok u hu')
    have hsc : ∀ u ∈ us, Sc u := fun u hu' => step_sc (hok u hu')
    have hrep : ∀ {H' : Hp} {p : Addr}, H' p = some (.lst (us.map scv)) → Rep H' (.ref p) (.lst us) := fun {H' p} h => ⟨p, _, rfl, h, Sc.reps hsc⟩
    have al : ∀ {H' : Hp} {p q' : Addr} {Q' : VK}, H' p = some (.lst (us.map scv)) → H' q' = some (.lst (us.map scv)) → (∀ H2, Same H' H2 → Q' (.bl true) H2) → spAlike 3 [.ref p, .ref q'] H' Q' E0 := fun {H' p q' Q'} a1 a2 a3 => ⟨.ref p, .ref q', .lst us, rfl, hrep a1, hrep a2, he.1, (show T.deps us + 1 < 3 by omega), (show T.szs us + 1 ≤ 100000 by omega), a3⟩
    refine ⟨x9, rfl, by omega, fun us' hus' p2 H11 g11 hp2n hp2 => ?_, fun h => by rw [hus] at h; cases h⟩
    rw [hus] at hus'
    cases hus'
    refine iN (fun z => nomatch z) (al hp2 (g11 _ _ hp1) fun H12 g12 => ⟨true, rfl, iN (by decide) ⟨.inl ⟨rfl, _, SqL.of (g12 _ _ hp2)⟩, p2, _, _, rfl, rfl, g12 _ _ hp2, by rw [List.length_map, sizeLine_eq]; omega, x9, rfl, by omega, fun us' hus' p3 H13 g13 hp3n hp3 => ?_, fun h => by rw [hus] at h; cases h⟩⟩)
    rw [hus] at hus'
    cases hus'
    have ne : p1 ≠ p2 := ne_of_none hp1 hp2n
    exact al hp3 (g13 _ _ (by rw [upd_ne ne]; exact g12 _ _ (g11 _ _ hp1))) fun H14 _ => q H14
  · have r1 : Rep (upd H11 p3 (.tup [V.str (Str.ofString "path")])) (.ref p2) (.tup [.str (ts (Str.ofString "path"))]) := ⟨p2, _, rfl, same_new hp3 _ _ _ hp2, _, _, rfl, (show V.str _ = V.str (tx (ts _)) by rw [tx_ts]), rfl⟩
    have r2 : Rep (upd H11 p3 (.tup [V.str (Str.ofString "path")])) (.ref p3) (.tup [.str (ts (Str.ofString "path"))]) := ⟨p3, _, rfl, upd_same, _, _, rfl, (show V.str _ = V.str (tx (ts _)) by rw [tx_ts]), rfl⟩
    refine ⟨_, _, 0, r1, r2, ?_, by decide, ?_⟩
    · simp [tcmp, tcmps, cmpS_self]
    · rw [decide_eq_true rfl]; exact q _
end
end K32
namespace K32
open PySem L2
theorem all_mk {l : PySem.W.OpenLaw} {w : World} {K : PySem.W.Frag} {h : Heap} {mg : Str → Option Value} {fa f0 f1 f2 f3 f4 f5 f6 f7 f8 f9 f10 f11 f12 f13 f14 f15 f16 f17 : Addr} (X : K.In h) (G : h.Ns mainGlobals mg) (hfa : mg "law" = some (.ref fa))
    {od0 an0 : Option Addr} {sl0 : Array (Option Value)} {oc0 kV0 dc0 pm0 cd0 ct0 : Value}
    {od1 an1 : Option Addr} {sl1 : Array (Option Value)} {oc1 kV1 dc1 pm1 cd1 ct1 : Value}
    {od2 an2 : Option Addr} {sl2 : Array (Option Value)} {oc2 kV2 dc2 pm2 cd2 ct2 : Value}
    {od3 an3 : Option Addr} {sl3 : Array (Option Value)} {oc3 kV3 dc3 pm3 cd3 ct3 : Value}
    {od4 an4 : Option Addr} {sl4 : Array (Option Value)} {oc4 kV4 dc4 pm4 cd4 ct4 : Value}
    {od5 an5 : Option Addr} {sl5 : Array (Option Value)} {oc5 kV5 dc5 pm5 cd5 ct5 : Value}
    {od6 an6 : Option Addr} {sl6 : Array (Option Value)} {oc6 kV6 dc6 pm6 cd6 ct6 : Value}
    {od7 an7 : Option Addr} {sl7 : Array (Option Value)} {oc7 kV7 dc7 pm7 cd7 ct7 : Value}
    {od8 an8 : Option Addr} {sl8 : Array (Option Value)} {oc8 kV8 dc8 pm8 cd8 ct8 : Value}
    {od9 an9 : Option Addr} {sl9 : Array (Option Value)} {oc9 kV9 dc9 pm9 cd9 ct9 : Value}
    {od10 an10 : Option Addr} {sl10 : Array (Option Value)} {oc10 kV10 dc10 pm10 cd10 ct10 : Value}
    {od11 an11 : Option Addr} {sl11 : Array (Option Value)} {oc11 kV11 dc11 pm11 cd11 ct11 : Value}
    {od12 an12 : Option Addr} {sl12 : Array (Option Value)} {oc12 kV12 dc12 pm12 cd12 ct12 : Value}
    {od13 an13 : Option Addr} {sl13 : Array (Option Value)} {oc13 kV13 dc13 pm13 cd13 ct13 : Value}
    {od14 an14 : Option Addr} {sl14 : Array (Option Value)} {oc14 kV14 dc14 pm14 cd14 ct14 : Value}
    {od15 an15 : Option Addr} {sl15 : Array (Option Value)} {oc15 kV15 dc15 pm15 cd15 ct15 : Value}
    {od16 an16 : Option Addr} {sl16 : Array (Option Value)} {oc16 kV16 dc16 pm16 cd16 ct16 : Value}
    {od17 an17 : Option Addr} {sl17 : Array (Option Value)} {oc17 kV17 dc17 pm17 cd17 ct17 : Value}
    {u0 : Tok}
    {u1 : Tok}
    {u2 : Tok}
    {v0 : Tok}
    {v1 : Tok}
    {v2 : Tok}
    {x0c x1c x2c x3c x4c x5c x6c x7c x8c x9c x10c x11c x12c x13c x14c x15c x16c x17c xB xN : Addr} {xq : Str} {xbs : List Value} {xsn : List Str} {xsub : List Value} {xab : Bool} {xcol : Option Bool} {xdd : Option Addr} {xk0 xk1 xk2 xk3 xk5 : Option Value}
    (a0 : PySem.W.nsIn K mainGlobals "kind_of" = some (some (.ref f0)))
    (l0 : K.lookup f0 = some ⟨oc0, od0, .func (PySem.W.fnOf "kind_of" "kind_of" (defArgs sKindOf) (defBody sKindOf) (defScope sKindOf) .none kV0 dc0 pm0 an0 cd0 ct0), sl0⟩)
    (c0 : PySem.W.codeIn K cd0 "kind_of" = true)
    (k0 : PySem.W.keepIn K (.ref f0) = true)
    (a1 : PySem.W.nsIn K mainGlobals "is_name" = some (some (.ref f1)))
    (l1 : K.lookup f1 = some ⟨oc1, od1, .func (PySem.W.fnOf "is_name" "is_name" (defArgs sIsName) (defBody sIsName) (defScope sIsName) .none kV1 dc1 pm1 an1 cd1 ct1), sl1⟩)
    (c1 : PySem.W.codeIn K cd1 "is_name" = true)
    (k1 : PySem.W.keepIn K (.ref f1) = true)
    (a2 : PySem.W.nsIn K mainGlobals "is_place" = some (some (.ref f2)))
    (l2 : K.lookup f2 = some ⟨oc2, od2, .func (PySem.W.fnOf "is_place" "is_place" (defArgs sPlace) (defBody sPlace) (defScope sPlace) .none kV2 dc2 pm2 an2 cd2 ct2), sl2⟩)
    (c2 : PySem.W.codeIn K cd2 "is_place" = true)
    (k2 : PySem.W.keepIn K (.ref f2) = true)
    (a3 : PySem.W.nsIn K mainGlobals "read_path" = some (some (.ref f3)))
    (l3 : K.lookup f3 = some ⟨oc3, od3, .func (PySem.W.fnOf "read_path" "read_path" (defArgs sRPath) (defBody sRPath) (defScope sRPath) .none kV3 dc3 pm3 an3 cd3 ct3), sl3⟩)
    (c3 : PySem.W.codeIn K cd3 "read_path" = true)
    (k3 : PySem.W.keepIn K (.ref f3) = true)
    (a4 : PySem.W.nsIn K mainGlobals "read_step" = some (some (.ref f4)))
    (l4 : K.lookup f4 = some ⟨oc4, od4, .func (PySem.W.fnOf "read_step" "read_step" (defArgs sRStep) (defBody sRStep) (defScope sRStep) .none kV4 dc4 pm4 an4 cd4 ct4), sl4⟩)
    (c4 : PySem.W.codeIn K cd4 "read_step" = true)
    (k4 : PySem.W.keepIn K (.ref f4) = true)
    (a5 : PySem.W.nsIn K mainGlobals "writes_place" = some (some (.ref f5)))
    (l5 : K.lookup f5 = some ⟨oc5, od5, .func (PySem.W.fnOf "writes_place" "writes_place" (defArgs sWrites) (defBody sWrites) (defScope sWrites) .none kV5 dc5 pm5 an5 cd5 ct5), sl5⟩)
    (c5 : PySem.W.codeIn K cd5 "writes_place" = true)
    (k5 : PySem.W.keepIn K (.ref f5) = true)
    (a6 : PySem.W.nsIn K mainGlobals "_law_cell" = some (some (.ref f6)))
    (l6 : K.lookup f6 = some ⟨oc6, od6, .func (PySem.W.fnOf "_law_cell" "_law_cell" (defArgs sCell) (defBody sCell) (defScope sCell) .none kV6 dc6 pm6 an6 cd6 ct6), sl6⟩)
    (c6 : PySem.W.codeIn K cd6 "_law_cell" = true)
    (k6 : PySem.W.keepIn K (.ref f6) = true)
    (a7 : PySem.W.nsIn K mainGlobals "_law_name_by" = some (some (.ref f7)))
    (l7 : K.lookup f7 = some ⟨oc7, od7, .func (PySem.W.fnOf "_law_name_by" "_law_name_by" (defArgs sName) (defBody sName) (defScope sName) .none kV7 dc7 pm7 an7 cd7 ct7), sl7⟩)
    (c7 : PySem.W.codeIn K cd7 "_law_name_by" = true)
    (k7 : PySem.W.keepIn K (.ref f7) = true)
    (a8 : PySem.W.nsIn K mainGlobals "_law_signs" = some (some (.ref f8)))
    (l8 : K.lookup f8 = some ⟨oc8, od8, .func (PySem.W.fnOf "_law_signs" "_law_signs" (defArgs sSigns) (defBody sSigns) (defScope sSigns) .none kV8 dc8 pm8 an8 cd8 ct8), sl8⟩)
    (c8 : PySem.W.codeIn K cd8 "_law_signs" = true)
    (k8 : PySem.W.keepIn K (.ref f8) = true)
    (a9 : PySem.W.nsIn K mainGlobals "_law_word" = some (some (.ref f9)))
    (l9 : K.lookup f9 = some ⟨oc9, od9, .func (PySem.W.fnOf "_law_word" "_law_word" (defArgs sWord) (defBody sWord) (defScope sWord) .none kV9 dc9 pm9 an9 cd9 ct9), sl9⟩)
    (c9 : PySem.W.codeIn K cd9 "_law_word" = true)
    (k9 : PySem.W.keepIn K (.ref f9) = true)
    (a10 : PySem.W.nsIn K mainGlobals "_law_alike" = some (some (.ref f10)))
    (l10 : K.lookup f10 = some ⟨oc10, od10, .func (PySem.W.fnOf "_law_alike" "_law_alike" (defArgs sAlike) (defBody sAlike) (defScope sAlike) .none kV10 dc10 pm10 an10 cd10 ct10), sl10⟩)
    (c10 : PySem.W.codeIn K cd10 "_law_alike" = true)
    (k10 : PySem.W.keepIn K (.ref f10) = true)
    (a11 : PySem.W.nsIn K mainGlobals "_law_step" = some (some (.ref f11)))
    (l11 : K.lookup f11 = some ⟨oc11, od11, .func (PySem.W.fnOf "_law_step" "_law_step" (defArgs sLStep) (defBody sLStep) (defScope sLStep) .none kV11 dc11 pm11 an11 cd11 ct11), sl11⟩)
    (c11 : PySem.W.codeIn K cd11 "_law_step" = true)
    (k11 : PySem.W.keepIn K (.ref f11) = true)
    (a12 : PySem.W.nsIn K mainGlobals "_law_bent" = some (some (.ref f12)))
    (l12 : K.lookup f12 = some ⟨oc12, od12, .func (PySem.W.fnOf "_law_bent" "_law_bent" (defArgs sBent) (defBody sBent) (defScope sBent) .none kV12 dc12 pm12 an12 cd12 ct12), sl12⟩)
    (c12 : PySem.W.codeIn K cd12 "_law_bent" = true)
    (k12 : PySem.W.keepIn K (.ref f12) = true)
    (a13 : PySem.W.nsIn K mainGlobals "_law_some" = some (some (.ref f13)))
    (l13 : K.lookup f13 = some ⟨oc13, od13, .func (PySem.W.fnOf "_law_some" "_law_some" (defArgs sSome) (defBody sSome) (defScope sSome) .none kV13 dc13 pm13 an13 cd13 ct13), sl13⟩)
    (c13 : PySem.W.codeIn K cd13 "_law_some" = true)
    (k13 : PySem.W.keepIn K (.ref f13) = true)
    (a14 : PySem.W.nsIn K mainGlobals "_law_is_name" = some (some (.ref f14)))
    (l14 : K.lookup f14 = some ⟨oc14, od14, .func (PySem.W.fnOf "_law_is_name" "_law_is_name" (defArgs sGood) (defBody sGood) (defScope sGood) .none kV14 dc14 pm14 an14 cd14 ct14), sl14⟩)
    (c14 : PySem.W.codeIn K cd14 "_law_is_name" = true)
    (k14 : PySem.W.keepIn K (.ref f14) = true)
    (a15 : PySem.W.nsIn K mainGlobals "_law_due" = some (some (.ref f15)))
    (l15 : K.lookup f15 = some ⟨oc15, od15, .func (PySem.W.fnOf "_law_due" "_law_due" (defArgs sDue) (defBody sDue) (defScope sDue) .none kV15 dc15 pm15 an15 cd15 ct15), sl15⟩)
    (c15 : PySem.W.codeIn K cd15 "_law_due" = true)
    (k15 : PySem.W.keepIn K (.ref f15) = true)
    (a16 : PySem.W.nsIn K mainGlobals "_law_found" = some (some (.ref f16)))
    (l16 : K.lookup f16 = some ⟨oc16, od16, .func (PySem.W.fnOf "_law_found" "_law_found" (defArgs sFound) (defBody sFound) (defScope sFound) .none kV16 dc16 pm16 an16 cd16 ct16), sl16⟩)
    (c16 : PySem.W.codeIn K cd16 "_law_found" = true)
    (k16 : PySem.W.keepIn K (.ref f16) = true)
    (a17 : PySem.W.nsIn K mainGlobals "law" = some (some (.ref f17)))
    (l17 : K.lookup f17 = some ⟨oc17, od17, .func (PySem.W.fnOf "law" "law" (defArgs sLaw) (defBody sLaw) (defScope sLaw) .none kV17 dc17 pm17 an17 cd17 ct17), sl17⟩)
    (c17 : PySem.W.codeIn K cd17 "law" = true)
    (k17 : PySem.W.keepIn K (.ref f17) = true)
    (z0 : PySem.W.nsIn K mainGlobals "len" = some none)
    (z1 : PySem.W.nsIn K mainGlobals "range" = some none)
    (z2 : PySem.W.nsIn K mainGlobals "isinstance" = some none)
    (z3 : PySem.W.nsIn K mainGlobals "all" = some none)
    (z4 : PySem.W.nsIn K mainGlobals "sum" = some none)
    (z5 : PySem.W.nsIn K mainGlobals "int" = some none)
    (z6 : PySem.W.nsIn K mainGlobals "str" = some none)
    (z7 : PySem.W.nsIn K mainGlobals "bool" = some none)
    (z8 : PySem.W.nsIn K mainGlobals "list" = some none)
    (z9 : PySem.W.nsIn K mainGlobals "dict" = some none)
    (z10 : PySem.W.nsIn K mainGlobals "tuple" = some none)
    (y0 : PySem.W.nsIn K mainGlobals "max" = some none)
    (y1 : PySem.W.nsIn K mainGlobals "min" = some none)
    (y2 : PySem.W.nsIn K mainGlobals "sorted" = some none)
    (s0 : PySem.W.nsIn K mainGlobals "LETTERS" = some (some (.str (Str.ofString "abcdefghijklmnopqrstuvwxyz") u0)))
    (s1 : PySem.W.nsIn K mainGlobals "FIGURES" = some (some (.str (Str.ofString "0123456789") u1)))
    (s2 : PySem.W.nsIn K mainGlobals "NAME_SIGNS" = some (some (.str (Str.ofString "abcdefghijklmnopqrstuvwxyz0123456789") u2)))
    (n0 : PySem.W.nsIn K mainGlobals "MOST_IN_NAME" = some (some (.int 12 v0)))
    (n1 : PySem.W.nsIn K mainGlobals "MOST_IN_ROW" = some (some (.int 60 v1)))
    (n2 : PySem.W.nsIn K mainGlobals "MOST_STEPS" = some (some (.int 8 v2)))
    (xa0 : PySem.W.nsIn K mainGlobals "BadPath" = some (some (.ref x0c)))
    (xa1 : PySem.W.nsIn K mainGlobals "NoPlace" = some (some (.ref x1c)))
    (xa2 : PySem.W.nsIn K mainGlobals "TooGreat" = some (some (.ref x2c)))
    (xa3 : PySem.W.nsIn K mainGlobals "NoneFits" = some (some (.ref x3c)))
    (xa4 : PySem.W.nsIn K mainGlobals "BadText" = some (some (.ref x4c)))
    (xa5 : PySem.W.nsIn K mainGlobals "NoDeed" = some (some (.ref x5c)))
    (xa6 : PySem.W.nsIn K mainGlobals "CantMove" = some (some (.ref x6c)))
    (xa7 : PySem.W.nsIn K mainGlobals "NoBack" = some (some (.ref x7c)))
    (xa8 : PySem.W.nsIn K mainGlobals "NoVersion" = some (some (.ref x8c)))
    (xa9 : PySem.W.nsIn K mainGlobals "NoFit" = some (some (.ref x9c)))
    (xa10 : PySem.W.nsIn K mainGlobals "Stuck" = some (some (.ref x10c)))
    (xa11 : PySem.W.nsIn K mainGlobals "BadQuestion" = some (some (.ref x11c)))
    (xa12 : PySem.W.nsIn K mainGlobals "NoKey" = some (some (.ref x12c)))
    (xa13 : PySem.W.nsIn K mainGlobals "IsKept" = some (some (.ref x13c)))
    (xa14 : PySem.W.nsIn K mainGlobals "NotKept" = some (some (.ref x14c)))
    (xa15 : PySem.W.nsIn K mainGlobals "NoWayBack" = some (some (.ref x15c)))
    (xa16 : PySem.W.nsIn K mainGlobals "NoStore" = some (some (.ref x16c)))
    (xa17 : PySem.W.nsIn K mainGlobals "BadRow" = some (some (.ref x17c)))
    (xaB : PySem.W.nsIn K mainGlobals "CabinetError" = some (some (.ref xB)))
    (xb0 : K.lookup x0c = some (excClassObj "BadPath" xq x0c xN xbs (.ref xB :: veMro) true xsn xsub xab xcol xdd xk0 xk1 xk2 xk3 xk5 "ValueError.__new__"))
    (xb1 : PySem.W.tailIn K veMro (.ref xB :: veMro) = true)
    (xb2 : PySem.W.nsOkIn K xN = true)
    (xb3 : PySem.W.nsIn K xN "__init__" = some none)
    (xb6 : PySem.W.keepIn K (.ref x0c) = true)
    (xe0 : PySem.W.findIn K (.ref x0c) "__getattribute__" = some (some (.builtin "BaseException.__getattribute__")))
    (xe1 : PySem.W.findIn K (.ref x0c) "__getattr__" = some none)
    (xe2 : PySem.W.mroIn K x0c (.type "BaseException") = some true)
    (xe3 : PySem.W.mroIn K x0c (.type "object") = some true)
    (xe4 : PySem.W.hasDictIn K x0c = true)
    (xe5 : PySem.W.findIn K (.ref x0c) "__class__" = some (some (.builtin "object.__class__")))
    (xe6 : PySem.W.specialIn K (.builtin "object.__class__") "__get__" = some (some (.builtin "getset_descriptor.__get__")))
    (xe7 : PySem.W.takesIn K (.builtin "object.__class__") = some true)
    (xf0 : PySem.W.exmOne K (.ref x0c) (.ref xB) = some true)
    (xg0 : PySem.W.kitOne K (.ref x0c) (.ref x0c) = some true)
    (xg1 : PySem.W.kitOne K (.ref x0c) (.ref x1c) = some false)
    (xg2 : PySem.W.kitOne K (.ref x0c) (.ref x2c) = some false)
    (xg3 : PySem.W.kitOne K (.ref x0c) (.ref x3c) = some false)
    (xh0 : PySem.W.kitAny K (.ref x0c) ([x4c, x5c, x6c, x7c, x8c, x9c, x10c, x11c, x12c].map Value.ref) = some false)
    (xh1 : PySem.W.kitAny K (.ref x0c) ([x13c, x14c, x15c, x16c, x17c].map Value.ref) = some false) :
    ∃ fd : FuncData, (∀ (s : Shared) (v : Value), BindsTo s fd ⟨[v], []⟩ [("_law_script", v)]) ∧ ∀ base : Heap, K.In base → base.Ns mainGlobals mg → FnOk l.prog w K mg base CX0 7 fa fd ["_law_script"] (spLaw K) := by
  have e := hfa.symm.trans (PySem.W.mg_of X G a17)
  cases e
  have Fkind_of := fun_mk (st := sKindOf) l0 c0 k0
  have bkind_of := Fkind_of.binds (ps := ["thing"]) fun _ _ _ _ _ _ us hl => match us, hl with | [_], _ => rfl
  have mkind_of := PySem.W.mg_of X G a0
  have pkind_of := k0
  have Fis_name := fun_mk (st := sIsName) l1 c1 k1
  have bis_name := Fis_name.binds (ps := ["thing"]) fun _ _ _ _ _ _ us hl => match us, hl with | [_], _ => rfl
  have mis_name := PySem.W.mg_of X G a1
  have pis_name := k1
  have Fis_place := fun_mk (st := sPlace) l2 c2 k2
  have bis_place := Fis_place.binds (ps := ["thing"]) fun _ _ _ _ _ _ us hl => match us, hl with | [_], _ => rfl
  have mis_place := PySem.W.mg_of X G a2
  have pis_place := k2
  have Fread_path := fun_mk (st := sRPath) l3 c3 k3
  have bread_path := Fread_path.binds (ps := ["text"]) fun _ _ _ _ _ _ us hl => match us, hl with | [_], _ => rfl
  have mread_path := PySem.W.mg_of X G a3
  have pread_path := k3
  have Fread_step := fun_mk (st := sRStep) l4 c4 k4
  have bread_step := Fread_step.binds (ps := ["part"]) fun _ _ _ _ _ _ us hl => match us, hl with | [_], _ => rfl
  have mread_step := PySem.W.mg_of X G a4
  have pread_step := k4
  have Fwrites_place := fun_mk (st := sWrites) l5 c5 k5
  have bwrites_place := Fwrites_place.binds (ps := ["figures"]) fun _ _ _ _ _ _ us hl => match us, hl with | [_], _ => rfl
  have mwrites_place := PySem.W.mg_of X G a5
  have pwrites_place := k5
  have F_law_cell := fun_mk (st := sCell) l6 c6 k6
  have b_law_cell := F_law_cell.binds (ps := ["_law_script", "_law_k"]) fun _ _ _ _ _ _ us hl => match us, hl with | [_, _], _ => rfl
  have m_law_cell := PySem.W.mg_of X G a6
  have p_law_cell := k6
  have F_law_name_by := fun_mk (st := sName) l7 c7 k7
  have b_law_name_by := F_law_name_by.binds (ps := ["_law_more"]) fun _ _ _ _ _ _ us hl => match us, hl with | [_], _ => rfl
  have m_law_name_by := PySem.W.mg_of X G a7
  have p_law_name_by := k7
  have F_law_signs := fun_mk (st := sSigns) l8 c8 k8
  have b_law_signs := F_law_signs.binds (ps := []) fun _ _ _ _ _ _ us hl => match us, hl with | [], _ => rfl
  have m_law_signs := PySem.W.mg_of X G a8
  have p_law_signs := k8
  have F_law_word := fun_mk (st := sWord) l9 c9 k9
  have b_law_word := F_law_word.binds (ps := ["_law_e"]) fun _ _ _ _ _ _ us hl => match us, hl with | [_], _ => rfl
  have m_law_word := PySem.W.mg_of X G a9
  have p_law_word := k9
  have F_law_alike := fun_mk (st := sAlike) l10 c10 k10
  have b_law_alike := F_law_alike.binds (ps := ["_law_found_here", "_law_due_here"]) fun _ _ _ _ _ _ us hl => match us, hl with | [_, _], _ => rfl
  have m_law_alike := PySem.W.mg_of X G a10
  have p_law_alike := k10
  have F_law_step := fun_mk (st := sLStep) l11 c11 k11
  have b_law_step := F_law_step.binds (ps := ["_law_more"]) fun _ _ _ _ _ _ us hl => match us, hl with | [_], _ => rfl
  have m_law_step := PySem.W.mg_of X G a11
  have p_law_step := k11
  have F_law_bent := fun_mk (st := sBent) l12 c12 k12
  have b_law_bent := F_law_bent.binds (ps := ["_law_script", "_law_k", "_law_text"]) fun _ _ _ _ _ _ us hl => match us, hl with | [_, _, _], _ => rfl
  have m_law_bent := PySem.W.mg_of X G a12
  have p_law_bent := k12
  have F_law_some := fun_mk (st := sSome) l13 c13 k13
  have b_law_some := F_law_some.binds (ps := ["_law_more"]) fun _ _ _ _ _ _ us hl => match us, hl with | [_], _ => rfl
  have m_law_some := PySem.W.mg_of X G a13
  have p_law_some := k13
  have F_law_is_name := fun_mk (st := sGood) l14 c14 k14
  have b_law_is_name := F_law_is_name.binds (ps := ["_law_part"]) fun _ _ _ _ _ _ us hl => match us, hl with | [_], _ => rfl
  have m_law_is_name := PySem.W.mg_of X G a14
  have p_law_is_name := k14
  have F_law_due := fun_mk (st := sDue) l15 c15 k15
  have b_law_due := F_law_due.binds (ps := ["_law_text"]) fun _ _ _ _ _ _ us hl => match us, hl with | [_], _ => rfl
  have m_law_due := PySem.W.mg_of X G a15
  have p_law_due := k15
  have F_law_found := fun_mk (st := sFound) l16 c16 k16
  have b_law_found := F_law_found.binds (ps := ["_law_text"]) fun _ _ _ _ _ _ us hl => match us, hl with | [_], _ => rfl
  have m_law_found := PySem.W.mg_of X G a16
  have p_law_found := k16
  have Flaw := fun_mk (st := sLaw) l17 c17 k17
  have blaw := Flaw.binds (ps := ["_law_script"]) fun _ _ _ _ _ _ us hl => match us, hl with | [_], _ => rfl
  have mlaw := PySem.W.mg_of X G a17
  have plaw := k17
  have B : Bl mg := ⟨PySem.W.mg_none_of X G z0, PySem.W.mg_none_of X G z1, PySem.W.mg_none_of X G z2, PySem.W.mg_none_of X G z3, PySem.W.mg_none_of X G z4, PySem.W.mg_none_of X G z5, PySem.W.mg_none_of X G z6, PySem.W.mg_none_of X G z7, PySem.W.mg_none_of X G z8, PySem.W.mg_none_of X G z9, PySem.W.mg_none_of X G z10⟩
  have B2 : Bl2 mg := ⟨B, PySem.W.mg_none_of X G y0, PySem.W.mg_none_of X G y1, PySem.W.mg_none_of X G y2⟩
  have M : Ms mg := ⟨⟨_, PySem.W.mg_of X G s0⟩, ⟨_, PySem.W.mg_of X G s1⟩, ⟨_, PySem.W.mg_of X G s2⟩, ⟨_, PySem.W.mg_of X G n0⟩, ⟨_, PySem.W.mg_of X G n1⟩, ⟨_, PySem.W.mg_of X G n2⟩⟩
  refine ⟨PySem.W.fnOf "law" "law" (defArgs sLaw) (defBody sLaw) (defScope sLaw) .none kV17 dc17 pm17 an17 cd17 ct17, fun s v => .of_eq rfl, fun base _ _ => ?_⟩
  have Gcell : Dn l.prog w K mg base 1 "_law_cell" ["_law_script", "_law_k"] (spCell K) := ⟨_, _, ok_cell F_law_cell B, b_law_cell, p_law_cell, m_law_cell⟩
  have Gname : Dn l.prog w K mg base 1 "_law_name_by" ["_law_more"] spName := ⟨_, _, ok_name F_law_name_by B, b_law_name_by, p_law_name_by, m_law_name_by⟩
  have Gln : Dn l.prog w K mg base 1 "_law_is_name" ["_law_part"] spGoodS := ⟨_, _, ok_good F_law_is_name B, b_law_is_name, p_law_is_name, m_law_is_name⟩
  have Gin : Dn l.prog w K mg base 1 "is_name" ["thing"] spGood := ⟨_, _, ok_is_name Fis_name B M, bis_name, pis_name, mis_name⟩
  have Gko : Dn l.prog w K mg base 1 "kind_of" ["thing"] spKind := ⟨_, _, ok_kind_of Fkind_of B, bkind_of, pkind_of, mkind_of⟩
  have Gpl : Dn l.prog w K mg base 2 "is_place" ["thing"] spPlace := ⟨_, _, ok_place Fis_place B M Gko, bis_place, pis_place, mis_place⟩
  have Gwp : Dn l.prog w K mg base 3 "writes_place" ["figures"] spWrites := ⟨_, _, ok_writes Fwrites_place B M Gpl, bwrites_place, pwrites_place, mwrites_place⟩
  have mB := PySem.W.mg_of X G xaB
  have RB : Xr0 K mg "BadPath" x0c := ⟨_, _, ⟨⟨xN, _, xb0, ⟨_, _, _, _, _, _, _, _, _, _, _, _, _, rfl⟩, xb2, xb3⟩, xb1, xb6⟩, PySem.W.mg_of X G xa0⟩
  have XG : XGet K x0c := ⟨xe0, xe1, xe2, xe3, xe4, xe5, xe6, xe7⟩
  have W : Wf mg (fun i => [x0c, x1c, x2c, x3c, x4c, x5c, x6c, x7c, x8c, x9c, x10c, x11c, x12c, x13c, x14c, x15c, x16c, x17c].getD i 0) := ⟨PySem.W.mg_of X G xa0, PySem.W.mg_of X G xa1, PySem.W.mg_of X G xa2, PySem.W.mg_of X G xa3, PySem.W.mg_of X G xa4, PySem.W.mg_of X G xa5, PySem.W.mg_of X G xa6, PySem.W.mg_of X G xa7, PySem.W.mg_of X G xa8, PySem.W.mg_of X G xa9, PySem.W.mg_of X G xa10, PySem.W.mg_of X G xa11, PySem.W.mg_of X G xa12, PySem.W.mg_of X G xa13, PySem.W.mg_of X G xa14, PySem.W.mg_of X G xa15, PySem.W.mg_of X G xa16, PySem.W.mg_of X G xa17⟩
  have Y : Wk K (fun i => [x0c, x1c, x2c, x3c, x4c, x5c, x6c, x7c, x8c, x9c, x10c, x11c, x12c, x13c, x14c, x15c, x16c, x17c].getD i 0) := ⟨XG, xg0, xg1, xg2, xg3, xh0, xh1⟩
  have Grs : Dx l.prog w K mg base 4 "read_step" ["part"] (spRStepX x0c) := ⟨_, _, ok_rstepx Fread_step B Gin Gwp RB, bread_step, pread_step, mread_step⟩
  have Grp : Dx l.prog w K mg base 5 "read_path" ["text"] (spRPathX x0c) := ⟨_, _, ok_rpathx Fread_path B M Grs RB, bread_path, pread_path, mread_path⟩
  have Gw : Dh l.prog w K mg base 1 "_law_word" ["_law_e"] (spWord (fun i => [x0c, x1c, x2c, x3c, x4c, x5c, x6c, x7c, x8c, x9c, x10c, x11c, x12c, x13c, x14c, x15c, x16c, x17c].getD i 0)) := ⟨_, _, ok_word F_law_word B W Y, b_law_word, p_law_word, m_law_word⟩
  have Gfo : Dn l.prog w K mg base 6 "_law_found" ["_law_text"] (spFound (fun i => [x0c, x1c, x2c, x3c, x4c, x5c, x6c, x7c, x8c, x9c, x10c, x11c, x12c, x13c, x14c, x15c, x16c, x17c].getD i 0)) := ⟨_, _, ok_found F_law_found mB xf0 Grp Gw, b_law_found, p_law_found, m_law_found⟩
  have Gdu : Dn l.prog w K mg base 2 "_law_due" ["_law_text"] spDue := ⟨_, _, ok_due F_law_due B Gln, b_law_due, p_law_due, m_law_due⟩
  have Gal : Dn l.prog w K mg base (2 + 3) "_law_alike" ["_law_found_here", "_law_due_here"] (spAlike 3) := ⟨_, _, alike_all F_law_alike B2 b_law_alike p_law_alike m_law_alike 3, b_law_alike, p_law_alike, m_law_alike⟩
  have Gsi : Dn l.prog w K mg base 1 "_law_signs" [] spSigns := ⟨_, _, ok_signs F_law_signs, b_law_signs, p_law_signs, m_law_signs⟩
  have Gls : Dn l.prog w K mg base 2 "_law_step" ["_law_more"] spLStep := ⟨_, _, ok_lstep F_law_step B Gname, b_law_step, p_law_step, m_law_step⟩
  have Gbe : Dn l.prog w K mg base 2 "_law_bent" ["_law_script", "_law_k", "_law_text"] (spBent K) := ⟨_, _, ok_bent F_law_bent B Gcell Gsi, b_law_bent, p_law_bent, m_law_bent⟩
  have Gso : Dn l.prog w K mg base 1 "_law_some" ["_law_more"] spSome := ⟨_, _, ok_some F_law_some B, b_law_some, p_law_some, m_law_some⟩
  exact ok_law Flaw B Gcell Gls Gbe Gso Gdu Gfo Gal
theorem walk {l : PySem.W.OpenLaw} {q : Program} {loose : List Str} {XP : (Str → Option Value) → Heap → Prop} {YP : World → Heap → Prop} {d : DefRec} {K : Params → PySem.W.Frag} (hn : l.most = some 63) (hdf : d.params.defaults = [])
    (hY : ∀ (w : World) (h : Heap), YP w h → (K w.params).In h)
    (F : ∀ (w : World) (mg : Str → Option Value) (fa : Addr) (h : Heap), (K w.params).In h → h.Ns mainGlobals mg → mg d.name = some (.ref fa) →
      ∃ fd : FuncData, (∀ (s : Shared) (u : Value), BindsTo s fd ⟨[u], []⟩ [("_law_script", u)]) ∧ ∀ base : Heap, (K w.params).In base → base.Ns mainGlobals mg → FnOk l.prog w (K w.params) mg base CX0 7 fa fd ["_law_script"] (spLaw (K w.params))) :
    PySem.W.WalkO q loose XP YP l.row.toRowW d [] (fun f vs => PySem.call f vs) :=
  L2.walk_of (n := 63) (k := 7) (x := "_law_script") (CX := fun _ => CX0) (sp := fun w => spLaw (K w.params)) hn (by decide) hdf ⟨rfl, by decide, by decide⟩ hY F (fun _ _ a ns hl _ hS => ⟨a, ns, rfl, hS, hl, fun _ => rfl⟩) fun _ _ _ _ _ z => z
end K32
def PySem.W.Fast.tw11235331151594889766 : Unit := ()
def PySem.W.Fast.tw11616983707270961020 : Unit := ()
def PySem.W.Fast.tw12218290801361317187 : Unit := ()
def PySem.W.Fast.tw12510460722141253256 : Unit := ()
def PySem.W.Fast.tw12564725884284099080 : Unit := ()
def PySem.W.Fast.tw13835637380469290386 : Unit := ()
def PySem.W.Fast.tw14154119250620004053 : Unit := ()
def PySem.W.Fast.tw14199358545019778031 : Unit := ()
def PySem.W.Fast.tw15243206528269615517 : Unit := ()
def PySem.W.Fast.tw15427883257714309124 : Unit := ()
def PySem.W.Fast.tw15637644071707446161 : Unit := ()
def PySem.W.Fast.tw16281178575469947834 : Unit := ()
def PySem.W.Fast.tw17219772114910939233 : Unit := ()
def PySem.W.Fast.tw3750859167656799375 : Unit := ()
def PySem.W.Fast.tw5279911578576933773 : Unit := ()
def PySem.W.Fast.tw591987004738576956 : Unit := ()
def PySem.W.Fast.tw773032017861470711 : Unit := ()
def PySem.W.Fast.tw8939639660172644276 : Unit := ()
def PySem.W.Fast.tw9193490154522287438 : Unit := ()
open PySem PySem.W PyProof.Rows
set_option maxRecDepth 100000 in
set_option maxHeartbeats 0 in
theorem PySem.Challenge.cw_cabinet_k32_paths_read_holds : PySem.Challenge.rw_cabinet_k32_paths_read.Holds := by
  w_on; o_law; k_head; (case hw => w_witness2)
  k_fill
  refine K32.walk (l := PySem.Challenge.rw_cabinet_k32_paths_read) rfl rfl (fun w h Y => PySem.W.kIn_of Y) ?F
  case F =>
    intro w mg fa h KX G hmg
    refine' K32.all_mk KX G hmg ?a0 ?l0 ?c0 ?k0 ?a1 ?l1 ?c1 ?k1 ?a2 ?l2 ?c2 ?k2 ?a3 ?l3 ?c3 ?k3 ?a4 ?l4 ?c4 ?k4 ?a5 ?l5 ?c5 ?k5 ?a6 ?l6 ?c6 ?k6 ?a7 ?l7 ?c7 ?k7 ?a8 ?l8 ?c8 ?k8 ?a9 ?l9 ?c9 ?k9 ?a10 ?l10 ?c10 ?k10 ?a11 ?l11 ?c11 ?k11 ?a12 ?l12 ?c12 ?k12 ?a13 ?l13 ?c13 ?k13 ?a14 ?l14 ?c14 ?k14 ?a15 ?l15 ?c15 ?k15 ?a16 ?l16 ?c16 ?k16 ?a17 ?l17 ?c17 ?k17 ?z0 ?z1 ?z2 ?z3 ?z4 ?z5 ?z6 ?z7 ?z8 ?z9 ?z10 ?y0 ?y1 ?y2 ?s0 ?s1 ?s2 ?n0 ?n1 ?n2 ?xa0 ?xa1 ?xa2 ?xa3 ?xa4 ?xa5 ?xa6 ?xa7 ?xa8 ?xa9 ?xa10 ?xa11 ?xa12 ?xa13 ?xa14 ?xa15 ?xa16 ?xa17 ?xaB ?xb0 ?xb1 ?xb2 ?xb3 ?xb6 ?xe0 ?xe1 ?xe2 ?xe3 ?xe4 ?xe5 ?xe6 ?xe7 ?xf0 ?xg0 ?xg1 ?xg2 ?xg3 ?xh0 ?xh1
    (case a0 => k_is); (case l0 => k_is); (case c0 => k_is); (case k0 => k_is); (case a1 => k_is); (case l1 => k_is); (case c1 => k_is); (case k1 => k_is)
    (case a2 => k_is); (case l2 => k_is); (case c2 => k_is); (case k2 => k_is); (case a3 => k_is); (case l3 => k_is); (case c3 => k_is); (case k3 => k_is)
    (case a4 => k_is); (case l4 => k_is); (case c4 => k_is); (case k4 => k_is); (case a5 => k_is); (case l5 => k_is); (case c5 => k_is); (case k5 => k_is)
    (case a6 => k_is); (case l6 => k_is); (case c6 => k_is); (case k6 => k_is); (case a7 => k_is); (case l7 => k_is); (case c7 => k_is); (case k7 => k_is)
    (case a8 => k_is); (case l8 => k_is); (case c8 => k_is); (case k8 => k_is); (case a9 => k_is); (case l9 => k_is); (case c9 => k_is); (case k9 => k_is)
    (case a10 => k_is); (case l10 => k_is); (case c10 => k_is); (case k10 => k_is); (case a11 => k_is); (case l11 => k_is); (case c11 => k_is); (case k11 => k_is)
    (case a12 => k_is); (case l12 => k_is); (case c12 => k_is); (case k12 => k_is); (case a13 => k_is); (case l13 => k_is); (case c13 => k_is); (case k13 => k_is)
    (case a14 => k_is); (case l14 => k_is); (case c14 => k_is); (case k14 => k_is); (case a15 => k_is); (case l15 => k_is); (case c15 => k_is); (case k15 => k_is)
    (case a16 => k_is); (case l16 => k_is); (case c16 => k_is); (case k16 => k_is); (case a17 => k_is); (case l17 => k_is); (case c17 => k_is); (case k17 => k_is)
    (case z0 => k_is); (case z1 => k_is); (case z2 => k_is); (case z3 => k_is); (case z4 => k_is); (case z5 => k_is); (case z6 => k_is); (case z7 => k_is)
    (case z8 => k_is); (case z9 => k_is); (case z10 => k_is); (case y0 => k_is); (case y1 => k_is); (case y2 => k_is); (case s0 => k_is); (case s1 => k_is)
    (case s2 => k_is); (case n0 => k_is); (case n1 => k_is); (case n2 => k_is); (case xa0 => k_is); (case xa1 => k_is); (case xa2 => k_is); (case xa3 => k_is)
    (case xa4 => k_is); (case xa5 => k_is); (case xa6 => k_is); (case xa7 => k_is); (case xa8 => k_is); (case xa9 => k_is); (case xa10 => k_is); (case xa11 => k_is)
    (case xa12 => k_is); (case xa13 => k_is); (case xa14 => k_is); (case xa15 => k_is); (case xa16 => k_is); (case xa17 => k_is); (case xaB => k_is); (case xb0 => k_is)
    (case xb1 => first | rfl | kernel_rfl); (case xb2 => first | rfl | kernel_rfl); (case xb3 => k_is); (case xb6 => k_is); (case xe0 => k_is); (case xe1 => k_is); (case xe2 => k_is); (case xe3 => k_is)
    (case xe4 => k_is); (case xe5 => k_is); (case xe6 => k_is); (case xe7 => k_is); (case xf0 => first | rfl | kernel_rfl); (case xg0 => first | rfl | kernel_rfl); (case xg1 => first | rfl | kernel_rfl); (case xg2 => first | rfl | kernel_rfl)
    (case xg3 => first | rfl | kernel_rfl); (case xh0 => first | rfl | kernel_rfl); (case xh1 => first | rfl | kernel_rfl)
