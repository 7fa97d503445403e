import PyProof.Rows.All
import Wide.All
import OpenK.AllK
import Wide.FinOn
import Lean
import PyProof.EqAt
import PyProof.EqKinds
import PyProof.TupleCall
import PySem.Challenge.RW_cabinet_k34_spots
set_option Elab.async false
set_option linter.all false
set_option maxRecDepth 100000
set_option maxHeartbeats 4000000
namespace L2
open PySem PySem.Spec PyProof.Rows

/-- a key: an int or a str -/
abbrev Key := Sum Int Str
def keyIs : Key → Value → Bool
  | .inl k, v => Value.isInt k v
  | .inr x, v => Value.isStrOf x v
def keyH (w : World) : Key → Int
  | .inl k => hashInt k
  | .inr x => hashStr w x
theorem keyIs_shape : ∀ {k : Key} {v : Value}, keyIs k v = true → (∃ i t, k = Sum.inl i ∧ v = Value.int i t) ∨ (∃ x t, k = Sum.inr x ∧ v = Value.str x t)
  | .inl i, v, h => by
    obtain ⟨t, e⟩ := Value.isInt_shape (k := i) (v := v) h
    exact .inl ⟨i, t, rfl, e⟩
  | .inr x, v, h => by
    obtain ⟨t, e⟩ := Value.isStrOf_shape (x := x) (v := v) h
    exact .inr ⟨x, t, rfl, e⟩
theorem keyIs_int (i : Int) (t : Tok) : keyIs (.inl i) (.int i t) = true := by simp [keyIs, Value.isInt]
theorem keyIs_str (x : Str) (t : Tok) : keyIs (.inr x) (.str x t) = true := by simp [keyIs, Value.isStrOf]
theorem key_ll (a b : Int) : decide ((Sum.inl a : Key) = Sum.inl b) = (a == b) := by
  by_cases e : a = b
  · subst e; simp
  · have h : ¬ (Sum.inl a : Key) = Sum.inl b := fun q => e (Sum.inl.inj q)
    rw [decide_eq_false h]
    exact (beq_eq_false_iff_ne.mpr e).symm
theorem key_rr (a b : Str) : decide ((Sum.inr a : Key) = Sum.inr b) = decide (a = b) := by
  by_cases e : a = b
  · subst e; simp
  · have h : ¬ (Sum.inr a : Key) = Sum.inr b := fun q => e (Sum.inr.inj q)
    rw [decide_eq_false h, decide_eq_false e]
theorem key_lr (a : Int) (b : Str) : decide ((Sum.inl a : Key) = Sum.inr b) = false := decide_eq_false (fun q => nomatch q)
theorem key_rl (a : Str) (b : Int) : decide ((Sum.inr a : Key) = Sum.inl b) = false := decide_eq_false (fun q => nomatch q)

def mixKind (prog : Program) (w : World) : PySem.KeyKind prog w Key where
  is := keyIs
  hash := keyH w
  inj := fun v a b ha hb => by
    rcases keyIs_shape ha with ⟨i, t, rfl, rfl⟩ | ⟨x, t, rfl, rfl⟩
    · rcases keyIs_shape hb with ⟨j, u, rfl, e⟩ | ⟨y, u, rfl, e⟩
      · injection e with e1 _; rw [e1]
      · exact nomatch e
    · rcases keyIs_shape hb with ⟨j, u, rfl, e⟩ | ⟨y, u, rfl, e⟩
      · exact nomatch e
      · injection e with e1 _; rw [e1]
  byValue := fun k v h => by
    rcases keyIs_shape h with ⟨i, t, rfl, rfl⟩ | ⟨x, t, rfl, rfl⟩ <;> rfl
  pyHash := fun hv h => by
    rcases keyIs_shape hv with ⟨i, t, rfl, rfl⟩ | ⟨x, t, rfl, rfl⟩
    · exact wpAny_pyHash_int h
    · exact wpAny_pyHash_str h
  eqBool := fun hu hv h => by
    rcases keyIs_shape hu with ⟨i, t, rfl, rfl⟩ | ⟨x, t, rfl, rfl⟩
    · rcases keyIs_shape hv with ⟨j, u, rfl, rfl⟩ | ⟨y, u, rfl, rfl⟩
      · rw [key_ll] at h; exact wpAny_eqBool_int h
      · rw [key_lr] at h; exact SeqAt.EqAt.int_str i t y u _ _ _ _ h
    · rcases keyIs_shape hv with ⟨j, u, rfl, rfl⟩ | ⟨y, u, rfl, rfl⟩
      · rw [key_rl] at h; exact SeqAt.EqAt.str_int x t j u _ _ _ _ h
      · rw [key_rr] at h; exact wpAny_eqBool_str h
  «strs» := fun k x t v h => by
    rcases keyIs_shape h with ⟨i, u, rfl, e⟩ | ⟨y, u, rfl, e⟩
    · exact nomatch e
    · injection e with e1 _
      subst e1
      cases v <;> rfl

theorem mixKind_is (prog : Program) (w : World) (k : Key) (v : Value) : (mixKind prog w).is k v = keyIs k v := rfl
theorem mixKind_int (prog : Program) (w : World) (i : Int) (t : Tok) : (mixKind prog w).is (.inl i) (.int i t) = true := keyIs_int i t
theorem mixKind_str (prog : Program) (w : World) (x : Str) (t : Tok) : (mixKind prog w).is (.inr x) (.str x t) = true := keyIs_str x t
end L2

namespace L2
open PySem PySem.Spec PyProof.Rows

/-- a value, without the heap -/
inductive V where
  | non | bl (b : Bool) | int (i : Int) | str (x : Str) | byt (b : Array UInt8) | flt (b : UInt64) | ref (a : Addr) | ty (n : String)
  deriving DecidableEq

def RelV : V → Value → Prop
  | .non, u => u = Value.none
  | .bl b, u => u = Value.bool b
  | .int i, u => ∃ t, u = Value.int i t
  | .str x, u => ∃ t, u = Value.str x t
  | .byt b, u => ∃ t, u = Value.bytes b t
  | .flt b, u => ∃ t, u = Value.float b t
  | .ref a, u => u = Value.ref a
  | .ty n, u => u = Value.type n

abbrev Vals : List V → List Value → Prop := Paired RelV
theorem Vals.length {xs : List V} {us : List Value} (r : Vals xs us) : xs.length = us.length := Paired.length r
theorem Vals.get : ∀ {xs : List V} {us : List Value} {i : Nat} {x : V}, Vals xs us → xs[i]? = some x → ∃ u, us[i]? = some u ∧ RelV x u
  | _, _, _, _, .nil, e => by simp at e
  | _, _, 0, _, .cons r _, e => by simp at e; subst e; exact ⟨_, rfl, r⟩
  | _, _, i + 1, x, .cons _ t, e => by
    obtain ⟨u, h1, h2⟩ := Vals.get (i := i) (x := x) t (by simpa using e)
    exact ⟨u, by simpa using h1, h2⟩
theorem Vals.set {x : V} {u : Value} (r : RelV x u) : ∀ {xs : List V} {us : List Value} (i : Nat), Vals xs us → Vals (xs.set i x) (us.set i u)
  | _, _, _, .nil => .nil
  | _, _, 0, .cons _ t => .cons r t
  | _, _, i + 1, .cons q t => .cons q (Vals.set r i t)
theorem Vals.append : ∀ {xs ys : List V} {us ws : List Value}, Vals xs us → Vals ys ws → Vals (xs ++ ys) (us ++ ws)
  | _, _, _, _, .nil, s => s
  | _, _, _, _, .cons r t, s => .cons r (Vals.append t s)
theorem Vals.take : ∀ {xs : List V} {us : List Value} (n : Nat), Vals xs us → Vals (xs.take n) (us.take n)
  | _, _, 0, _ => .nil
  | _, _, _ + 1, .nil => .nil
  | _, _, n + 1, .cons r t => .cons r (Vals.take n t)
theorem Vals.drop : ∀ {xs : List V} {us : List Value} (n : Nat), Vals xs us → Vals (xs.drop n) (us.drop n)
  | _, _, 0, r => r
  | _, _, _ + 1, .nil => .nil
  | _, _, n + 1, .cons _ t => Vals.drop n t
theorem Vals.none_of : ∀ {xs : List V} {us : List Value} {i : Nat}, Vals xs us → xs[i]? = none → us[i]? = none := fun {xs us i} r e => by
  have h1 := r.length
  have h2 : xs.length ≤ i := List.getElem?_eq_none_iff.mp e
  exact List.getElem?_eq_none_iff.mpr (by omega)

def RelO : Option V → Option Value → Prop
  | some v, some u => RelV v u
  | none, none => True
  | _, _ => False
def KV {κ : Type} : List (κ × V) → List (κ × Value) → Prop := Paired fun (p : κ × V) (q : κ × Value) => p.1 = q.1 ∧ RelV p.2 q.2

/-- a key of a dict (00_mix): an int or a text -/
def kV : Key → V
  | .inl i => .int i
  | .inr x => .str x

/-- what stands at a tracked address -/
inductive HO where
  /-- a list -/
  | lst (xs : List V)
  /-- a tuple (never changes) -/
  | tup (xs : List V)
  /-- a dict whose keys are ints and texts; one whose keys are tuples of ints and texts (the empty one is both) -/
  | dK (kvs : List (Key × V)) | dT (kvs : List (List Key × V))
  /-- a set of ints: its members, its size -/
  | set (S : Int → Bool) (n : Nat)
  /-- an instance of the class at C, its dict at dx, its attributes -/
  | ins (C dx : Addr) (fs : List (Str × V))
  /-- the dict of the instance at x -/
  | own (x : Addr)
  /-- the dict of an exception -/
  | xd (fs : List (Str × V))
  /-- a bound method, f of x -/
  | met (f x : Addr)
  /-- a range object lo, lo + 1, .. below hi -/
  | rng (lo hi : Int)
  /-- a thing that is known to the object (the script; a dict while a loop walks it): read, never written while it is so -/
  | frz (o : Obj) (u : HO)
  /-- a code object's table -/
  | tbl (ps : Array Value)
  /-- any other thing, by what is true of its one object (a def of one's own: SetO a S n := HO.ext fun h => ..) -/
  | ext (φ : Heap → Prop)

abbrev Hp := Addr → Option HO
def upd (H : Hp) (a : Addr) (o : HO) : Hp := fun b => if b = a then some o else H b
theorem upd_same {H : Hp} {a : Addr} {o : HO} : upd H a o a = some o := by unfold upd; rw [if_pos rfl]
theorem upd_ne {H : Hp} {a b : Addr} {o : HO} (h : b ≠ a) : upd H a o b = H b := by unfold upd; rw [if_neg h]
theorem upd_upd {H : Hp} {a : Addr} {o u : HO} : upd (upd H a o) a u = upd H a u := by
  funext b; unfold upd; split <;> rfl
/-- two objects of different content stand apart -/
theorem ne_of {H : Hp} {a b : Addr} {o u : HO} (h : H a = some o) (h' : H b = some u) (d : o ≠ u) : a ≠ b := by
  intro e; subst e; rw [h] at h'; exact d (Option.some.inj h')
theorem ne_of_none {H : Hp} {a b : Addr} {o : HO} (h : H a = some o) (h' : H b = none) : a ≠ b := by
  intro e; subst e; rw [h] at h'; cases h'

section
variable (P : Program) (w : World)
def ObjOk (H : Hp) (h : Heap) (a : Addr) : HO → Prop
  | .lst xs => xs.length ≤ sizeLine ∧ ∃ (its : List Value) (n : Nat), Vals xs its ∧ h.get? a = some { cls := .type "list", data := .seq its.toArray n }
  | .tup xs => xs.length ≤ sizeLine ∧ ∃ its : List Value, Vals xs its ∧ IsTup h a its.toArray
  | .dK kvs => kvs.length ≤ sizeLine ∧ (a == sysModules) = false ∧ ∃ vs, KV kvs vs ∧ h.DictOf (mixKind P w) a vs
  | .dT kvs => kvs.length ≤ sizeLine ∧ (a == sysModules) = false ∧ ∃ xs : List (List Key × Addr × Value),
      Paired (fun (p : List Key × V) (q : List Key × Addr × Value) => p.1 = q.1 ∧ H q.2.1 = some (.tup (p.1.map kV)) ∧ RelV p.2 q.2.2) kvs xs ∧
      ∃ o es ep, h.get? a = some o ∧ o.ExactDict ∧ o.data = .dict es ep ∧ es.toList = xs.map (entryOfKey (tupleKind (mixKind P w))) ∧ (xs.map (·.1)).Nodup
  | .set S n => h.SetOf (intKind P w) a S n
  | .ins C dx fs => H dx = some (.own a) ∧ fs.length ≤ 1000 ∧ dx ≠ a ∧ h.get? a = some (PySem.W.instObj C dx) ∧
      ∃ mA, h.Ns1 dx mA ∧ (∀ f, RelO (fs.lookup f) (mA f)) ∧ PySem.Within mA (fs.map (·.1))
  | .own _ => ∃ o, h.get? a = some o
  | .xd fs => ∃ mA, h.Ns1 a mA ∧ ∀ f, RelO (fs.lookup f) (mA f)
  | .rng lo hi => ∃ t u v, h.get? a = some { cls := .type "range", data := .fields #[.int lo t, .int hi u, .int 1 v] }
  | .frz o u => h.get? a = some o ∧ ObjOk H h a u
  | .tbl ps => h.get? a = some { cls := .none, data := .fields ps }
  | .met f x => h.get? a = some (PySem.W.methodObj (.ref f) (.ref x))
  | .ext φ => φ h ∧ (∃ o, h.get? a = some o) ∧ ∀ h1 h2 : Heap, φ h1 → (∀ o, h1.get? a = some o → h2.get? a = some o) → φ h2
/-- the abstract heap is held -/
def HOk (H : Hp) (h : Heap) : Prop := ∀ a o, H a = some o → ObjOk P w H h a o
end

section
variable {P : Program} {w : World} {H H' : Hp} {h h' : Heap} {a : Addr} {o : HO}
theorem ObjOk.lt (x : ObjOk P w H h a o) : a < h.objs.size := by
  cases o with
  | lst xs => obtain ⟨_, _, _, _, e⟩ := x; exact Heap.lt_size e
  | tup xs => obtain ⟨_, _, _, p⟩ := x; exact p.lt
  | dK kvs => obtain ⟨_, _, _, _, o, _, _, e, _⟩ := x; exact Heap.lt_size e
  | dT kvs => obtain ⟨_, _, _, _, o, _, _, e, _⟩ := x; exact Heap.lt_size e
  | set S n => obtain ⟨o, _, _, _, e, _⟩ := x; exact Heap.lt_size e
  | ins C dx fs => obtain ⟨_, _, _, e, _⟩ := x; exact Heap.lt_size e
  | own y => obtain ⟨_, e⟩ := x; exact Heap.lt_size e
  | xd fs => obtain ⟨_, ⟨_, _, _, e, _⟩, _⟩ := x; exact Heap.lt_size e
  | rng lo hi => obtain ⟨_, _, _, e⟩ := x; exact Heap.lt_size e
  | frz ob u => obtain ⟨e, _⟩ := x; exact Heap.lt_size e
  | tbl ps => exact Heap.lt_size (show h.get? a = some _ from x)
  | met f y => exact Heap.lt_size (show h.get? a = some _ from x)
  | ext φ => obtain ⟨_, ⟨_, e⟩, _⟩ := x; exact Heap.lt_size e
theorem Paired.mapP {α β : Type} {F G : α → β → Prop} : ∀ {l₁ : List α} {l₂ : List β}, Paired F l₁ l₂ → (∀ a b, F a b → G a b) → Paired G l₁ l₂
  | _, _, .nil, _ => .nil
  | _, _, .cons r t, f => .cons (f _ _ r) (Paired.mapP t f)
theorem Paired.imp' {α β : Type} {F G : α → β → Prop} (f : ∀ a b, F a b → G a b) {l₁ : List α} {l₂ : List β} (r : Paired F l₁ l₂) : Paired G l₁ l₂ := Paired.mapP r f
/-- what an object's description leans on: its own object, its own dict, the tuples -/
theorem ObjOk.stay (x : ObjOk P w H h a o) (k : ∀ b u, (b = a ∨ H b = some (.own a)) → h.get? b = some u → h'.get? b = some u)
    (ho : ∀ b, H b = some (.own a) → H' b = some (.own a)) (ht : ∀ b xs, H b = some (.tup xs) → H' b = some (.tup xs)) : ObjOk P w H' h' a o := by
  induction o with
  | lst xs => obtain ⟨z, its, n, r, e⟩ := x; exact ⟨z, its, n, r, k _ _ (.inl rfl) e⟩
  | tup xs => obtain ⟨z, its, r, ob, e, c⟩ := x; exact ⟨z, its, r, ob, k _ _ (.inl rfl) e, c⟩
  | dK kvs => obtain ⟨z, y, vs, r, ob, es, ep, e, c⟩ := x; exact ⟨z, y, vs, r, ob, es, ep, k _ _ (.inl rfl) e, c⟩
  | dT kvs =>
    obtain ⟨z, y, xs, r, ob, es, ep, e, c⟩ := x
    exact ⟨z, y, xs, Paired.mapP r fun p q z => ⟨z.1, ht _ _ z.2.1, z.2.2⟩, ob, es, ep, k _ _ (.inl rfl) e, c⟩
  | set S n => obtain ⟨ob, es, ep, t, e, c⟩ := x; exact ⟨ob, es, ep, t, k _ _ (.inl rfl) e, c⟩
  | ins C dx fs =>
    obtain ⟨d, z, ne, e, mA, ⟨od, es, ep, e2, c⟩, r⟩ := x
    exact ⟨ho _ d, z, ne, k _ _ (.inl rfl) e, mA, ⟨od, es, ep, k _ _ (.inr d) e2, c⟩, r⟩
  | own y => obtain ⟨ob, e⟩ := x; exact ⟨ob, k _ _ (.inl rfl) e⟩
  | xd fs => obtain ⟨mA, ⟨od, es, ep, e, c⟩, r⟩ := x; exact ⟨mA, ⟨od, es, ep, k _ _ (.inl rfl) e, c⟩, r⟩
  | rng lo hi => obtain ⟨t, u, v, e⟩ := x; exact ⟨t, u, v, k _ _ (.inl rfl) e⟩
  | frz ob u ih => obtain ⟨e, q⟩ := x; exact ⟨k _ _ (.inl rfl) e, ih q⟩
  | tbl ps =>
    have e : h.get? a = some { cls := .none, data := .fields ps } := x
    show h'.get? a = some { cls := .none, data := .fields ps }
    exact k a _ (.inl rfl) e
  | met f y =>
    have e : h.get? a = some (PySem.W.methodObj (.ref f) (.ref y)) := x
    show h'.get? a = some (PySem.W.methodObj (.ref f) (.ref y))
    exact k a _ (.inl rfl) e
  | ext φ => obtain ⟨p, ⟨o, e⟩, st⟩ := x; exact ⟨st _ _ p fun o q => k _ _ (.inl rfl) q, ⟨o, k _ _ (.inl rfl) e⟩, st⟩
theorem HOk.lt (x : HOk P w H h) (e : H a = some o) : a < h.objs.size := (x a o e).lt
theorem HOk.fresh (x : HOk P w H h) (e : h.objs.size ≤ a) : H a = none := by
  cases q : H a with
  | none => rfl
  | some u => exact absurd (Nat.lt_of_lt_of_le (x.lt q) e) (Nat.lt_irrefl _)
/-- every object of the heap is kept -/
theorem HOk.kept (x : HOk P w H h) (k : ∀ b u, h.get? b = some u → h'.get? b = some u) : HOk P w H h' := fun a o e =>
  (x a o e).stay (fun b u _ q => k b u q) (fun _ q => q) fun _ _ q => q
/-- a new object is laid and tracked -/
theorem HOk.laid (x : HOk P w H h) (k : ∀ b u, h.get? b = some u → h'.get? b = some u) (hp : h.objs.size ≤ a) (new : ObjOk P w (upd H a o) h' a o) : HOk P w (upd H a o) h' := fun b u e => by
  have hn := x.fresh hp
  by_cases hb : b = a
  · subst hb; rw [upd_same] at e; cases e; exact new
  · rw [upd_ne hb] at e
    exact (x b u e).stay (fun c v _ q => k c v q) (fun c q => by rw [upd_ne (ne_of_none q hn)]; exact q) fun c xs q => by rw [upd_ne (ne_of_none q hn)]; exact q
end

/-- what may be read as u: it is u, or a known u -/
def Rd (H : Hp) (a : Addr) (u : HO) : Prop := H a = some u ∨ ∃ o, H a = some (.frz o u)
theorem Rd.of {H : Hp} {a : Addr} {u : HO} (h : H a = some u) : Rd H a u := .inl h
theorem Rd.ok {P : Program} {w : World} {H : Hp} {h : Heap} {a : Addr} {u : HO} (r : Rd H a u) (x : HOk P w H h) : ObjOk P w H h a u := by
  rcases r with r | ⟨o, r⟩
  · exact x a u r
  · obtain ⟨_, q⟩ := x a _ r
    exact q
/-- what may be written -/
def Mut : Option HO → Prop
  | some (.lst _) => True
  | some (.dK _) => True
  | some (.dT _) => True
  | some (.set _ _) => True
  | some (.ins _ _ _) => True
  | some (.ext _) => True
  | _ => False
section
variable {P : Program} {w : World} {H : Hp} {h h' : Heap} {x e : Addr} {o' : HO}
/-- the object at e is changed: x itself, or the dict of the instance x -/
theorem HOk.write (ok : HOk P w H h) (mu : Mut (H x)) (he : e = x ∨ H e = some (.own x)) (k : ∀ b u, b ≠ e → h.get? b = some u → h'.get? b = some u) (heo : ∃ u, h'.get? e = some u)
    (new : ObjOk P w (upd H x o') h' x o') : HOk P w (upd H x o') h' := fun b u q => by
  have nown : ∀ c y, H c = some (.own y) → c ≠ x := fun c y r z => by subst z; rw [r] at mu; exact mu
  have ntup : ∀ c xs, H c = some (.tup xs) → c ≠ x := fun c xs r z => by subst z; rw [r] at mu; exact mu
  by_cases hb : b = x
  · subst hb; rw [upd_same] at q; cases q; exact new
  · rw [upd_ne hb] at q
    by_cases hbe : b = e
    · have q' : H b = some (.own x) := by
        rcases he with z | z
        · exact absurd (hbe.trans z) hb
        · rw [hbe]; exact z
      rw [q] at q'; cases q'
      obtain ⟨v, hv⟩ := heo
      exact ⟨v, by rw [hbe]; exact hv⟩
    · refine (ok b u q).stay (fun c v hc r => k c v ?_ r) (fun c r => by rw [upd_ne (nown c b r)]; exact r) fun c xs r => by rw [upd_ne (ntup c xs r)]; exact r
      rcases hc with rfl | hc
      · exact hbe
      · rintro rfl
        rcases he with z | z
        · exact nown c b hc z
        · rw [hc] at z; cases z; exact hb rfl
end

/-! ### kept unless tracked; of the frames at fs (the callers') the slots may change (an exception that passes writes there); of the records at ex (iterators) nothing is said -/
structure Un (fs ex : List Addr) (H H' : Hp) (h h' : Heap) : Prop where
  keep : ∀ b o, h.get? b = some o → H b = none → b ∉ fs → b ∉ ex → h'.get? b = some o
  slot : ∀ b o, h.get? b = some o → H b = none → b ∈ fs → b ∉ ex → ∃ sl, h'.get? b = some { o with slots := sl }
  free : ∀ b o, h.get? b = some o → H b = none → b ∉ ex → H' b = none
  there : ∀ b o, h.get? b = some o → b ∉ ex → ∃ o', h'.get? b = some o'
  tups : ∀ b xs, H b = some (.tup xs) → H' b = some (.tup xs)
  frzs : ∀ b o u, H b = some (.frz o u) → H' b = some (.frz o u)
  tbls : ∀ b ps, H b = some (.tbl ps) → ∃ more, H' b = some (.tbl (ps ++ more))
section
variable {fs fs' ex ex' : List Addr} {H H1 H2 : Hp} {h h1 h2 h' : Heap} {a x e : Addr} {o : HO}
theorem Un.any (u : Un fs ex H H1 h h1) {b : Addr} {ob : Obj} (q : h.get? b = some ob) (n : H b = none) (hx : b ∉ ex) : ∃ sl, h1.get? b = some { ob with slots := sl } := by
  by_cases hb : b ∈ fs
  · exact u.slot b ob q n hb hx
  · exact ⟨ob.slots, u.keep b ob q n hb hx⟩
theorem Un.trans (a : Un fs ex H H1 h h1) (b : Un fs ex H1 H2 h1 h2) : Un fs ex H H2 h h2 where
  keep := fun c ob q n hc hx => b.keep c ob (a.keep c ob q n hc hx) (a.free c ob q n hx) hc hx
  slot := fun c ob q n hc hx => by
    obtain ⟨sl, e1⟩ := a.slot c ob q n hc hx
    obtain ⟨sl', e2⟩ := b.slot c _ e1 (a.free c ob q n hx) hc hx
    exact ⟨sl', e2⟩
  free := fun c ob q n hx => by
    obtain ⟨o', e1⟩ := a.there c ob q hx
    exact b.free c o' e1 (a.free c ob q n hx) hx
  there := fun c ob q hx => by
    obtain ⟨o', e1⟩ := a.there c ob q hx
    exact b.there c o' e1 hx
  tups := fun c xs q => b.tups c xs (a.tups c xs q)
  frzs := fun c ob xs q => b.frzs c ob xs (a.frzs c ob xs q)
  tbls := fun c ps q => by
    obtain ⟨m1, e1⟩ := a.tbls c ps q
    obtain ⟨m2, e2⟩ := b.tbls c _ e1
    exact ⟨m1 ++ m2, by rw [e2, Array.append_assoc]⟩
theorem Un.kept (k : ∀ b u, h.get? b = some u → h'.get? b = some u) : Un fs ex H H h h' :=
  ⟨fun b ob q _ _ _ => k b ob q, fun b ob q _ _ _ => ⟨ob.slots, k b ob q⟩, fun _ _ _ n _ => n, fun b ob q _ => ⟨ob, k b ob q⟩, fun _ _ q => q, fun _ _ _ q => q, fun _ ps q => ⟨#[], by rw [q]; simp⟩⟩
theorem Un.refl : Un fs ex H H h h := Un.kept fun _ _ q => q
theorem Un.laid (k : ∀ b u, h.get? b = some u → h'.get? b = some u) (hp : h.objs.size ≤ a) (hn : H a = none) : Un fs ex H (upd H a o) h h' where
  keep := fun b u q _ _ _ => k b u q
  slot := fun b u q _ _ _ => ⟨u.slots, k b u q⟩
  free := fun b u q n _ => by rw [upd_ne (Nat.ne_of_lt (Nat.lt_of_lt_of_le (Heap.lt_size q) hp))]; exact n
  there := fun b u q _ => ⟨u, k b u q⟩
  tups := fun b xs q => by rw [upd_ne (ne_of_none q hn)]; exact q
  frzs := fun b u xs q => by rw [upd_ne (ne_of_none q hn)]; exact q
  tbls := fun b ps q => ⟨#[], by rw [upd_ne (ne_of_none q hn), q]; simp⟩
theorem Un.write (mu : Mut (H x)) (he : e = x ∨ H e = some (.own x)) (k : ∀ b u, b ≠ e → h.get? b = some u → h'.get? b = some u) (heo : ∃ u, h'.get? e = some u) : Un fs ex H (upd H x o) h h' := by
  have hx : ∀ b, H b = none → b ≠ x := fun b n z => by subst z; rw [n] at mu; exact mu
  have hb : ∀ b, H b = none → b ≠ e := fun b n z => by
    subst z
    rcases he with r | r
    · exact hx b n r
    · rw [n] at r; cases r
  have hm : ∀ b u, H b = some u → ¬ Mut (some u) → b ≠ x := fun b u q nm z => by subst z; rw [q] at mu; exact nm mu
  refine ⟨fun b u q n _ _ => k b u (hb b n) q, fun b u q n _ _ => ⟨u.slots, k b u (hb b n) q⟩, fun b u q n _ => by rw [upd_ne (hx b n)]; exact n, fun b u q _ => ?_,
    fun b xs q => by rw [upd_ne (hm b _ q fun z => z)]; exact q, fun b u xs q => by rw [upd_ne (hm b _ q fun z => z)]; exact q, fun b ps q => ⟨#[], by rw [upd_ne (hm b _ q fun z => z), q]; simp⟩⟩
  by_cases hbe : b = e
  · subst hbe; exact heo
  · exact ⟨u, k b u hbe q⟩
theorem Un.mono (u : Un fs ex H H1 h h1) (hs : ∀ b ∈ fs, b ∈ fs') (hx : ∀ b ∈ ex, b ∈ ex') : Un fs' ex' H H1 h h1 :=
  ⟨fun b ob q n hb he => u.keep b ob q n (fun z => hb (hs b z)) fun z => he (hx b z), fun _ _ q n _ he => u.any q n fun z => he (hx _ z), fun b ob q n he => u.free b ob q n fun z => he (hx b z), fun b ob q he => u.there b ob q fun z => he (hx b z), u.tups, u.frzs, u.tbls⟩
end

/-! ### the heap without what is tracked -/
def trk (h : Heap) (H : Hp) : List Addr := (List.range h.objs.size).filter fun a => (H a).isSome
def hidT (h : Heap) (H : Hp) : Heap := PySem.W.hideAll h (trk h H)
theorem hidT_size (h : Heap) (H : Hp) : (hidT h H).objs.size = h.objs.size := PySem.W.hideAll_size _ _
theorem hidT_get {h : Heap} {H : Hp} {b : Addr} {o : Obj} (e : h.get? b = some o) (n : H b = none) : (hidT h H).get? b = some o :=
  PySem.W.hideAll_get _ e fun hm => by
    have q : (H b).isSome = true := (List.mem_filter.mp hm).2
    rw [n] at q; simp at q
theorem of_hidT {h : Heap} {H : Hp} {b : Addr} {o : Obj} (e : (hidT h H).get? b = some o) : h.get? b = some o ∧ H b = none := by
  have e' : h.get? b = some o := PySem.W.of_hideAll (trk h H) e
  refine ⟨e', ?_⟩
  cases q : H b with
  | none => rfl
  | some x =>
    have hm : b ∈ trk h H := List.mem_filter.mpr ⟨List.mem_range.mpr (Heap.lt_size e'), by simp [q]⟩
    have z : (hidT h H).get? b = none := PySem.W.hideAll_none (trk h H) hm
    rw [z] at e; cases e

/-! ### OpenK's ledger, filled with every new object but one -/
def allNews (g h : Heap) (L : Addr) : List (Addr × Obj) := (List.range h.objs.size).filterMap fun a => if a = L ∨ (g.get? a).isSome = true then none else (h.get? a).map fun o => (a, o)
theorem mem_allNews {g h : Heap} {L a : Addr} {o : Obj} (h1 : a ≠ L) (h2 : g.get? a = none) (h3 : h.get? a = some o) : (a, o) ∈ allNews g h L :=
  List.mem_filterMap.mpr ⟨a, List.mem_range.mpr (Heap.lt_size h3), by simp [h1, h2, h3]⟩
theorem of_mem_allNews {g h : Heap} {L : Addr} {p : Addr × Obj} (hp : p ∈ allNews g h L) : p.1 ≠ L ∧ g.get? p.1 = none ∧ h.get? p.1 = some p.2 := by
  obtain ⟨b, _, e⟩ := List.mem_filterMap.mp hp
  split at e
  · cases e
  · rename_i hn
    cases q : h.get? b with
    | none => rw [q] at e; simp at e
    | some u =>
      rw [q] at e
      simp only [Option.map_some, Option.some.injEq] at e
      subst e
      refine ⟨fun z => hn (.inl z), ?_, q⟩
      show g.get? b = none
      cases r : g.get? b with
      | none => rfl
      | some v => exact (hn (.inr (by simp [r]))).elim
def rest (g h : Heap) (L d : Addr) : List (Addr × Obj) := (allNews g h L).filter fun p => decide (p.1 ≠ d)
theorem rest_ne {g h : Heap} {L d : Addr} : ∀ p ∈ rest g h L d, p.1 ≠ d := fun p hp => of_decide_eq_true (List.mem_filter.mp hp).2
theorem mem_rest {g h : Heap} {L d a : Addr} {o : Obj} (h1 : a ≠ L) (h2 : g.get? a = none) (h3 : h.get? a = some o) (h4 : a ≠ d) : (a, o) ∈ rest g h L d :=
  List.mem_filter.mpr ⟨mem_allNews h1 h2 h3, decide_eq_true h4⟩
theorem news_all {g h : Heap} {L : Addr} : News g L h (allNews g h L) := fun p hp => let ⟨a, b, c⟩ := of_mem_allNews hp; ⟨c, a, b⟩
theorem news_at {g h : Heap} {L d : Addr} {o : Obj} (h1 : d ≠ L) (h2 : g.get? d = none) (h3 : h.get? d = some o) : News g L h ((d, o) :: rest g h L d) := fun p hp => by
  rcases List.mem_cons.mp hp with rfl | hp
  · exact ⟨h3, h1, h2⟩
  · exact news_all p (List.mem_filter.mp hp).1
/-- behind a rule that changed d alone: all else but the frame is kept -/
theorem kept_of_news {g h h' : Heap} {L d : Addr} {m : Str → Option Value} (k : ∀ b o, g.get? b = some o → h.get? b = some o) (F : Fr g L h' m) (N : News g L h' (rest g h L d)) :
    ∀ b o, b ≠ L → b ≠ d → h.get? b = some o → h'.get? b = some o := fun b o h1 h2 e => by
  cases q : g.get? b with
  | some u =>
    have := k b u q
    rw [e] at this; cases this
    exact F.keep b _ q
  | none => exact (N (b, o) (mem_rest h1 q e h2)).1
end L2

namespace L2
open PySem PySem.Spec PyProof.Rows

/-- the module's facts, over the base: the heap at the law's entry without what is tracked there -/
structure Mod (K : PySem.W.Frag) (mg : Str → Option Value) (base : Heap) : Prop where
  kin : K.In base
  glob : base.Ns mainGlobals mg
  blt : ∃ mb, base.Ns builtinsNs mb ∧ ∀ x : Str, x ≠ "__name__" → mb x = bootBuiltins x
  nolimit : base.NoLimit

/-- the context: a def's body (or a comprehension's block) running. base: fixed through the whole law; s₀, H₀: the entry; outer: the frames whose slots others may change (a def's callers); stack: all frames that run;
   ex: iterators that were made ahead of the entry and are walked here (a comprehension's); fn: the names whose cells were made at the entry (a def: all; a comprehension's block: its own); calm: not within an except suite; pn: pins that every state bears; xe: what is wanted of an exception that leaves the code -/
structure Cx where
  prog : Program
  w : World
  K : PySem.W.Frag
  mg : Str → Option Value
  base : Heap
  A : Around
  N : List Str
  s₀ : Shared
  H₀ : Hp
  env : Env
  outer : List Env
  stack : List Env
  ex : List Addr
  fn : Str → Bool
  calm : Bool
  pn : List (Addr × Obj)
  xe : Value → Shared → Prop
/-- the callers' frames -/
def frs (l : List Env) : List Addr := l.filterMap (·.frame)
abbrev Cx.fs (X : Cx) : List Addr := frs X.outer

def Vis (sc : Scope) (x : Str) : Prop := sc.names.lookup x = some .local ∨ sc.names.lookup x = some .cell ∨ sc.names.lookup x = some .free
def Loc (sc : Scope) (x : Str) : Prop := sc.names.lookup x = some .local ∨ sc.names.lookup x = some .cell
def Look (env : Env) (h : Heap) (m : Str → Option Value) (x : Str) (u : Value) : Prop :=
  (env.kindOf x = some .local ∧ m x = some u) ∨ ((env.kindOf x = some .cell ∨ env.kindOf x = some .free) ∧ ∃ c, env.cells.lookup x = some c ∧ h.IsCell c (some u))

structure Cx.Ok (X : Cx) : Prop where
  mod : Mod X.K X.mg X.base
  kind : X.env.scope.kind = .function
  glob : X.env.globals = mainGlobals
  blt : X.env.builtins = builtinsNs
  above : X.s₀.heap.objs.size ≤ X.env.locals
  inj : ∀ x y c, X.env.cells.lookup x = some c → X.env.cells.lookup y = some c → x = y
  has : ∀ x, (X.env.kindOf x = some .cell ∨ X.env.kindOf x = some .free) → ∃ c, X.env.cells.lookup x = some c
  cab : ∀ x c, X.fn x = true → X.env.cells.lookup x = some c → X.s₀.heap.objs.size ≤ c
  hd : X.calm = true → X.A.handled = none
  frames : X.A.frames = some X.stack
  stk : X.stack = X.outer ∨ (X.stack = X.env :: X.outer ∧ X.env.frame = some X.env.locals)
  exf : ∀ b ∈ X.ex, b ≠ X.env.locals ∧ ∀ x c, X.env.cells.lookup x = some c → c ≠ b
  bs : ∀ b o, X.base.get? b = some o → X.s₀.heap.get? b = some o ∧ X.H₀ b = none
  bsz : X.base.objs.size ≤ X.s₀.heap.objs.size
  noex : ∀ b o, X.base.get? b = some o → b ∉ X.ex
  exfs : ∀ b ∈ X.ex, b ∉ X.fs
  funs : X.s₀.heap.FunFrames X.base X.outer
  frf : ∀ b ∈ X.fs, X.H₀ b = none

structure Inv (X : Cx) (pins : List (Addr × Obj)) (σ : List (Option V)) (H : Hp) (s : Shared) : Prop where
  ok : X.Ok
  os : s.os = X.s₀.os
  bare : AllBare s.gens
  base : Un X.fs X.ex X.H₀ H X.s₀.heap s.heap
  loc : ∃ m, s.heap.Ns X.env.locals m ∧ ∀ (i : Nat) (x : Str) (v : V), X.N[i]? = some x → σ[i]? = some (some v) → Vis X.env.scope x → ∃ u, RelV v u ∧ Look X.env s.heap m x u
  cell : ∀ x c, X.env.cells.lookup x = some c → ∃ v, s.heap.IsCell c v
  free : H X.env.locals = none
  freeC : ∀ x c, X.env.cells.lookup x = some c → H c = none
  pin : ∀ p ∈ X.pn ++ pins, s.heap.get? p.1 = some p.2 ∧ H p.1 = none ∧ p.1 ≠ X.env.locals ∧ p.1 ∉ X.fs ∧ ∀ v, p.2.data ≠ .cell v
  hok : HOk X.prog X.w H s.heap
  len : σ.length = X.N.length

section
variable {X : Cx} {pins : List (Addr × Obj)} {σ : List (Option V)} {H H' : Hp} {s : Shared} {h' : Heap}

theorem Cx.Ok.nofr (ok : X.Ok) {b : Addr} {o : Obj} (e : X.base.get? b = some o) : b ∉ X.fs := fun hb => by
  have := (ok.funs.mem hb).1
  rw [e] at this; cases this
theorem Inv.bs (I : Inv X pins σ H s) : ∀ b o, X.base.get? b = some o → s.heap.get? b = some o ∧ H b = none := fun b o e =>
  ⟨I.base.keep b o (I.ok.bs b o e).1 (I.ok.bs b o e).2 (I.ok.nofr e) (I.ok.noex b o e), I.base.free b o (I.ok.bs b o e).1 (I.ok.bs b o e).2 (I.ok.noex b o e)⟩
theorem Inv.bk (I : Inv X pins σ H s) : ∀ b o, X.base.get? b = some o → s.heap.get? b = some o := fun b o e => (I.bs b o e).1
theorem Inv.mod (I : Inv X pins σ H s) : Mod X.K X.mg X.base := I.ok.mod
theorem Inv.kIn (I : Inv X pins σ H s) : X.K.In s.heap := I.ok.mod.kin.keeps I.bk
theorem Inv.nolimit (I : Inv X pins σ H s) : s.heap.NoLimit := I.ok.mod.nolimit.keeps I.bk
/-- the frame over the base: for OpenK's rules (K.In X.base is I.mod.kin) -/
theorem Inv.fr (I : Inv X pins σ H s) : ∃ m, Fr X.base X.env.locals s.heap m :=
  let ⟨m, hn, _⟩ := I.loc
  ⟨m, hn, I.bk, Nat.le_trans I.ok.bsz I.ok.above⟩
theorem Inv.lt (I : Inv X pins σ H s) : X.env.locals < s.heap.objs.size := let ⟨_, hn, _⟩ := I.loc; hn.lt
theorem Inv.sz (I : Inv X pins σ H s) : X.s₀.heap.objs.size ≤ s.heap.objs.size := Nat.le_trans I.ok.above (Nat.le_of_lt I.lt)
theorem Inv.nofs (I : Inv X pins σ H s) {a : Addr} (h : s.heap.objs.size ≤ a) : a ∉ X.fs := fun hb => by
  obtain ⟨_, o, ho, _⟩ := I.ok.funs.mem hb
  exact absurd (Nat.lt_of_lt_of_le (Heap.lt_size ho) (Nat.le_trans I.sz h)) (Nat.lt_irrefl _)
theorem Inv.cne (I : Inv X pins σ H s) : ∀ x c, X.env.cells.lookup x = some c → c ≠ X.env.locals := fun x c e z => by
  obtain ⟨v, o, ho, hd⟩ := I.cell x c e
  obtain ⟨m, ⟨o', es, ep, ho', hd', _⟩, _⟩ := I.loc
  rw [z, ho'] at ho; cases ho; rw [hd'] at hd; cases hd
theorem Inv.funs (I : Inv X pins σ H s) : s.heap.FunFrames X.base X.outer := by
  have all : ∀ (l : List Env), (∀ b ∈ frs l, b ∈ X.fs) → X.s₀.heap.FunFrames X.base l → s.heap.FunFrames X.base l := by
    intro l
    induction l with
    | nil => intro _ _; trivial
    | cons env r ih =>
      intro hs hl
      obtain ⟨hk, ⟨L, o, hf, hn, ho, hd⟩, hr⟩ := hl
      have hL : L ∈ X.fs := hs L (by unfold frs; rw [List.filterMap_cons, hf]; exact List.mem_cons_self)
      obtain ⟨sl, e⟩ := I.base.slot L o ho (I.ok.frf L hL) hL fun z => I.ok.exfs L z hL
      exact ⟨hk, ⟨L, _, hf, hn, e, hd⟩, ih (fun b hb => hs b (by unfold frs; rw [List.filterMap_cons, hf]; exact List.mem_cons_of_mem _ hb)) hr⟩
  exact all X.outer (fun _ hb => hb) I.ok.funs

/-- the frames that run, for a call -/
theorem Inv.stack (I : Inv X pins σ H s) : s.heap.FunFrames X.base X.stack := by
  rcases I.ok.stk with e | ⟨e, hf⟩
  · rw [e]; exact I.funs
  · rw [e]
    obtain ⟨m, hn, _⟩ := I.loc
    refine .cons (by rw [I.ok.kind]; decide) hf hn ?_ I.funs
    exact Heap.get?_none_of_le (Nat.le_trans I.ok.bsz I.ok.above)
theorem Inv.stkSub (I : Inv X pins σ H s) : ∀ b ∈ frs X.stack, b ∈ X.env.locals :: X.fs := fun b hb => by
  rcases I.ok.stk with e | ⟨e, hf⟩
  · rw [e] at hb; exact List.mem_cons_of_mem _ hb
  · rw [e] at hb
    unfold frs at hb
    rw [List.filterMap_cons, hf] at hb
    exact hb
theorem Inv.stkFree (I : Inv X pins σ H s) : ∀ b ∈ frs X.stack, H b = none := fun b hb => by
  rcases List.mem_cons.mp (I.stkSub b hb) with e | hb
  · rw [e]; exact I.free
  · obtain ⟨_, o, ho, _⟩ := I.ok.funs.mem hb
    exact I.base.free b o ho (I.ok.frf b hb) fun z => I.ok.exfs b z hb

/-- THE STEP: the untracked objects but the frame and the records at ch are kept (the callers' frames up to slots), the frame's map is kept, the new abstract heap is held -/
theorem Inv.step {g' : Array GenState} {t' : Nat} {d' : Drawn} {ch : List Addr} (I : Inv X pins σ H s)
    (hch : ∀ b ∈ ch, (b ∈ X.ex ∨ X.s₀.heap.objs.size ≤ b) ∧ b ≠ X.env.locals ∧ (∀ x c, X.env.cells.lookup x = some c → c ≠ b) ∧ ∀ p ∈ X.pn ++ pins, p.1 ≠ b)
    (keep : ∀ b o, b ≠ X.env.locals → b ∉ X.fs → b ∉ ch → s.heap.get? b = some o → H b = none → h'.get? b = some o)
    (slot : ∀ b o, b ≠ X.env.locals → b ∈ X.fs → b ∉ ch → s.heap.get? b = some o → H b = none → ∃ sl, h'.get? b = some { o with slots := sl }) (free : ∀ b o, b ∉ ch → s.heap.get? b = some o → H b = none → H' b = none)
    (there : ∀ b o, b ∉ ch → s.heap.get? b = some o → ∃ o', h'.get? b = some o')
    (tups : ∀ b xs, H b = some (.tup xs) → H' b = some (.tup xs)) (frzs : ∀ b o u, H b = some (.frz o u) → H' b = some (.frz o u)) (tbls : ∀ b ps, H b = some (.tbl ps) → ∃ more, H' b = some (.tbl (ps ++ more)))
    (ns : ∀ m, s.heap.Ns X.env.locals m → h'.Ns X.env.locals m) (hok : HOk X.prog X.w H' h') (hg : AllBare g') :
    Inv X pins σ H' { s with heap := h', gens := g', drawn := d', toks := t' } := by
  have neL : ∀ b o, X.s₀.heap.get? b = some o → b ≠ X.env.locals := fun b o e => Nat.ne_of_lt (Nat.lt_of_lt_of_le (Heap.lt_size e) I.ok.above)
  have neC : ∀ b o, X.s₀.heap.get? b = some o → b ∉ X.ex → b ∉ ch := fun b o e hx hb => by
    rcases (hch b hb).1 with z | z
    · exact hx z
    · exact absurd (Nat.lt_of_lt_of_le (Heap.lt_size e) z) (Nat.lt_irrefl _)
  have cellK : ∀ x c, X.env.cells.lookup x = some c → ∀ v, s.heap.IsCell c v → h'.IsCell c v := fun x c e v ⟨o, ho, hd⟩ => by
    have nch : c ∉ ch := fun z => (hch c z).2.2.1 x c e rfl
    by_cases hc : c ∈ X.fs
    · obtain ⟨sl, q⟩ := slot c o (I.cne x c e) hc nch ho (I.freeC x c e)
      exact ⟨_, q, hd⟩
    · exact ⟨o, keep c o (I.cne x c e) hc nch ho (I.freeC x c e), hd⟩
  refine ⟨I.ok, I.os, hg, ⟨fun b o e n hb hx => ?_, fun b o e n hb hx => ?_, fun b o e n hx => ?_, fun b o e hx => ?_, fun b xs e => tups b xs (I.base.tups b xs e), fun b o xs e => frzs b o xs (I.base.frzs b o xs e), fun b ps e => ?_⟩, ?_, fun x c e => ?_, ?_, fun x c e => ?_, fun p hp => ?_, hok, I.len⟩
  · exact keep b o (neL b o e) hb (neC b o e hx) (I.base.keep b o e n hb hx) (I.base.free b o e n hx)
  · obtain ⟨sl, e1⟩ := I.base.slot b o e n hb hx
    obtain ⟨sl', e2⟩ := slot b _ (neL b o e) hb (neC b o e hx) e1 (I.base.free b o e n hx)
    exact ⟨sl', e2⟩
  · obtain ⟨o', e1⟩ := I.base.there b o e hx
    exact free b o' (neC b o e hx) e1 (I.base.free b o e n hx)
  · obtain ⟨o', e1⟩ := I.base.there b o e hx
    exact there b o' (neC b o e hx) e1
  · obtain ⟨m1, e1⟩ := I.base.tbls b ps e
    obtain ⟨m2, e2⟩ := tbls b _ e1
    exact ⟨m1 ++ m2, by rw [e2, Array.append_assoc]⟩
  · obtain ⟨m, hn, hl⟩ := I.loc
    refine ⟨m, ns m hn, fun i x v e1 e2 e3 => ?_⟩
    obtain ⟨u, r, l⟩ := hl i x v e1 e2 e3
    refine ⟨u, r, ?_⟩
    rcases l with l | ⟨k, c, e, z⟩
    · exact .inl l
    · exact .inr ⟨k, c, e, cellK x c e _ z⟩
  · obtain ⟨v, z⟩ := I.cell x c e
    exact ⟨v, cellK x c e v z⟩
  · obtain ⟨m, ⟨o, _, _, ho, _⟩, _⟩ := I.loc
    exact free _ o (fun z => (hch _ z).2.1 rfl) ho I.free
  · obtain ⟨v, o, ho, hd⟩ := I.cell x c e
    exact free c o (fun z => (hch c z).2.2.1 x c e rfl) ho (I.freeC x c e)
  · obtain ⟨e, n, ne, nf, d⟩ := I.pin p hp
    have nch : p.1 ∉ ch := fun z => (hch p.1 z).2.2.2 p hp rfl
    exact ⟨keep p.1 p.2 ne nf nch e n, free p.1 p.2 nch e n, ne, nf, d⟩
/-- .. where the frame's own object is kept too -/
theorem Inv.un {t' : Nat} (I : Inv X pins σ H s) (u : Un X.fs [] H H' s.heap h') (hok : HOk X.prog X.w H' h') : Inv X pins σ H' { s with heap := h', toks := t' } := by
  obtain ⟨m, ⟨o, es, ep, ho, r⟩, _⟩ := id I.loc
  obtain ⟨sl, hL⟩ := u.any ho I.free (by simp)
  exact I.step (g' := s.gens) (d' := s.drawn) (ch := []) (fun _ z => nomatch z) (fun b o _ hb _ e n => u.keep b o e n hb (by simp)) (fun b o _ hb _ e n => u.slot b o e n hb (by simp)) (fun b o _ e n => u.free b o e n (by simp)) (fun b o _ e => u.there b o e (by simp)) u.tups u.frzs u.tbls (fun m' hm => by
    obtain ⟨o', es', ep', ho', r'⟩ := hm
    rw [ho] at ho'; cases ho'
    exact ⟨_, es', ep', hL, r'⟩) hok I.bare
/-- behind a call (or a comprehension's block): the slots of this frame may have changed too, the records at ch may have turned -/
theorem Inv.call {g' : Array GenState} {t' : Nat} {d' : Drawn} {ch : List Addr} (I : Inv X pins σ H s) (u : Un (frs X.stack) ch H H' s.heap h') (hok : HOk X.prog X.w H' h') (hg : AllBare g')
    (hch : ∀ b ∈ ch, (b ∈ X.ex ∨ X.s₀.heap.objs.size ≤ b) ∧ b ≠ X.env.locals ∧ (∀ x c, X.env.cells.lookup x = some c → c ≠ b) ∧ ∀ p ∈ X.pn ++ pins, p.1 ≠ b) :
    Inv X pins σ H' { s with heap := h', gens := g', drawn := d', toks := t' } := by
  obtain ⟨m, ⟨o, es, ep, ho, r⟩, _⟩ := id I.loc
  obtain ⟨sl, hL⟩ := u.any ho I.free fun z => (hch _ z).2.1 rfl
  exact I.step (ch := ch) hch (fun b o hL hb hc e n => u.keep b o e n (fun z => (List.mem_cons.mp (I.stkSub b z)).elim hL hb) hc) (fun b o _ _ hc e n => u.any e n hc) (fun b o hc e n => u.free b o e n hc) (fun b o hc e => u.there b o e hc) u.tups u.frzs u.tbls (fun m' hm => by
    obtain ⟨o', es', ep', ho', r'⟩ := hm
    rw [ho] at ho'; cases ho'
    exact ⟨_, es', ep', hL, r'⟩) hok hg
/-- an untracked record of ours (an iterator) has turned -/
theorem Inv.turned {t' : Nat} {it : Addr} (I : Inv X pins σ H s) (k : ∀ b o, b ≠ it → s.heap.get? b = some o → h'.get? b = some o) (hn : H it = none) (hL : it ≠ X.env.locals)
    (h1 : it ∈ X.ex ∨ X.s₀.heap.objs.size ≤ it) (h2 : ∀ x c, X.env.cells.lookup x = some c → c ≠ it) (h3 : ∀ p ∈ X.pn ++ pins, p.1 ≠ it) : Inv X pins σ H { s with heap := h', toks := t' } := by
  have nit : ∀ b u, H b = some u → b ≠ it := fun b u e z => by rw [z, hn] at e; cases e
  refine I.step (g' := s.gens) (d' := s.drawn) (ch := [it]) (fun b hb => ?_) (fun b o _ _ hc e _ => k b o (fun z => hc (by simp [z])) e) (fun b o _ _ hc e _ => ⟨o.slots, k b o (fun z => hc (by simp [z])) e⟩) (fun _ _ _ _ n => n)
    (fun b o hc e => ⟨o, k b o (fun z => hc (by simp [z])) e⟩) (fun _ _ e => e) (fun _ _ _ e => e) (fun b ps e => ⟨#[], by rw [e]; simp⟩) (fun m hm => ?_) (fun b u e => ?_) I.bare
  · have e : b = it := by simpa using hb
    subst e
    exact ⟨h1, hL, h2, h3⟩
  · obtain ⟨o, es, ep, ho, r⟩ := hm
    exact ⟨o, es, ep, k _ o (Ne.symm hL) ho, r⟩
  · refine (I.hok b u e).stay (fun c v hc q => k c v ?_ q) (fun _ q => q) fun _ _ q => q
    rcases hc with z | z
    · rw [z]; exact nit b u e
    · exact nit c _ z
theorem Inv.tok (I : Inv X pins σ H s) (t : Nat) : Inv X pins σ H { s with toks := t } := I.un (h' := s.heap) (t' := t) Un.refl I.hok
/-- all objects kept -/
theorem Inv.kept {t' : Nat} (I : Inv X pins σ H s) (k : ∀ b u, s.heap.get? b = some u → h'.get? b = some u) : Inv X pins σ H { s with heap := h', toks := t' } := I.un (Un.kept k) (I.hok.kept k)
/-- a new object laid and tracked -/
theorem Inv.laid {a : Addr} {o : HO} {t' : Nat} (I : Inv X pins σ H s) (k : ∀ b u, s.heap.get? b = some u → h'.get? b = some u) (hp : s.heap.objs.size ≤ a) (new : ObjOk X.prog X.w (upd H a o) h' a o) :
    Inv X pins σ (upd H a o) { s with heap := h', toks := t' } := I.un (Un.laid k hp (I.hok.fresh hp)) (I.hok.laid k hp new)
/-- an object written -/
theorem Inv.write {x e : Addr} {o : HO} {t' : Nat} (I : Inv X pins σ H s) (mu : Mut (H x)) (he : e = x ∨ H e = some (.own x)) (k : ∀ b u, b ≠ e → s.heap.get? b = some u → h'.get? b = some u) (heo : ∃ u, h'.get? e = some u)
    (new : ObjOk X.prog X.w (upd H x o) h' x o) : Inv X pins σ (upd H x o) { s with heap := h', toks := t' } := I.un (Un.write mu he k heo) (I.hok.write mu he k heo new)
/-- forgetting slots, pins -/
theorem Inv.weak {σ' : List (Option V)} (I : Inv X pins σ H s) (hl : σ'.length = σ.length) (w : ∀ (i : Nat) v, σ'[i]? = some (some v) → σ[i]? = some (some v)) : Inv X pins σ' H s :=
  ⟨I.ok, I.os, I.bare, I.base, let ⟨m, hn, hl'⟩ := I.loc; ⟨m, hn, fun i x v e1 e2 e3 => hl' i x v e1 (w i v e2) e3⟩, I.cell, I.free, I.freeC, I.pin, I.hok, hl.trans I.len⟩
theorem Inv.pins_of {pins' : List (Addr × Obj)} (I : Inv X pins σ H s) (h : ∀ p ∈ pins', s.heap.get? p.1 = some p.2 ∧ H p.1 = none ∧ p.1 ≠ X.env.locals ∧ p.1 ∉ X.fs ∧ ∀ v, p.2.data ≠ .cell v) : Inv X pins' σ H s :=
  ⟨I.ok, I.os, I.bare, I.base, I.loc, I.cell, I.free, I.freeC, fun p hp => (List.mem_append.mp hp).elim (fun z => I.pin p (List.mem_append_left _ z)) (h p), I.hok, I.len⟩

theorem nodup_ix {N : List Str} (hN : N.Nodup) {i j : Nat} {x : Str} (a : N[i]? = some x) (b : N[j]? = some x) : i = j := by
  obtain ⟨h1, e1⟩ := List.getElem?_eq_some_iff.mp a
  obtain ⟨h2, e2⟩ := List.getElem?_eq_some_iff.mp b
  exact (List.getElem_inj hN).mp (e1.trans e2.symm)

/-- a name is stored; what changed -/
theorem store_ok2 {M : Model} {A : Around} {E : Value → Shared → Prop} {i : Nat} {x : Str} {v : V} {u : Value} {Q : Unit → Shared → Prop} (I : Inv X pins σ H s) (hN : X.N.Nodup) (hi : X.N[i]? = some x) (hx : Loc X.env.scope x) (r : RelV v u)
    (h : ∀ s', Inv X pins (σ.set i (some v)) H s' → (∃ a, Heap.SameBut a s.heap s'.heap ∧ (a = X.env.locals ∨ X.env.cells.lookup x = some a)) → Q () s') (hf : X.fn x = true ∨ X.env.scope.names.lookup x = some .local := by first | exact .inl rfl | exact .inr rfl | assumption) : wpAny M A (storeName X.env x u) Q E s := by
  obtain ⟨m, hn, hl⟩ := id I.loc
  have hcls : (X.env.scope.kind == .class || (X.env.scope.kind == .module && X.env.locals != X.env.globals)) = false := by rw [I.ok.kind]; rfl
  have hiσ : i < σ.length := by rw [I.len]; exact (List.getElem?_eq_some_iff.mp hi).1
  have cne := I.cne
  have tracked : ∀ {a : Addr} {h' : Heap}, (∃ o, s.heap.get? a = some o ∧ H a = none) → Heap.SameBut a s.heap h' → HOk X.prog X.w H h' := fun {a h'} ha hs b ob e => by
    obtain ⟨_, _, hfree⟩ := ha
    refine (I.hok b ob e).stay (fun c w' hc q => (hs.2 c ?_).trans q) (fun _ q => q) fun _ _ q => q
    rintro rfl
    rcases hc with rfl | hc
    · rw [hfree] at e; cases e
    · rw [hfree] at hc; cases hc
  rcases hx with hk | hk
  · refine wpAny_storeName_local hk hn (fun h' hn' hs => ?_) hcls
    obtain ⟨oL, _, _, hoL, _⟩ := id hn
    refine h _ ⟨I.ok, I.os, I.bare, ⟨fun b o e n hb hx => ?_, fun b o e n hb hx => ?_, I.base.free, fun b o e hx => ?_, I.base.tups, I.base.frzs, I.base.tbls⟩, ⟨_, hn', fun j y v' e1 e2 e3 => ?_⟩, fun y c e => ?_, I.free, I.freeC, fun p hp => ?_, tracked ⟨oL, hoL, I.free⟩ hs, by simpa using I.len⟩ ⟨_, hs, .inl rfl⟩
    · exact (hs.2 b (Nat.ne_of_lt (Nat.lt_of_lt_of_le (Heap.lt_size e) I.ok.above))).trans (I.base.keep b o e n hb hx)
    · obtain ⟨sl, e1⟩ := I.base.slot b o e n hb hx
      exact ⟨sl, (hs.2 b (Nat.ne_of_lt (Nat.lt_of_lt_of_le (Heap.lt_size e) I.ok.above))).trans e1⟩
    · obtain ⟨o', e1⟩ := I.base.there b o e hx
      exact ⟨o', (hs.2 b (Nat.ne_of_lt (Nat.lt_of_lt_of_le (Heap.lt_size e) I.ok.above))).trans e1⟩
    · by_cases hj : j = i
      · subst hj
        rw [hi] at e1; cases e1
        rw [List.getElem?_set_self hiσ] at e2
        cases e2
        exact ⟨u, r, .inl ⟨hk, by simp⟩⟩
      · rw [List.getElem?_set_ne (Ne.symm hj)] at e2
        obtain ⟨u', r', q⟩ := hl j y v' e1 e2 e3
        refine ⟨u', r', ?_⟩
        rcases q with ⟨k, e⟩ | ⟨k, c, e, z⟩
        · refine .inl ⟨k, ?_⟩
          have : y ≠ x := fun e => hj (nodup_ix hN e1 (e ▸ hi))
          simp [this, e]
        · exact .inr ⟨k, c, e, z.sameBut hs (cne y c e)⟩
    · obtain ⟨w', z⟩ := I.cell y c e
      exact ⟨w', z.sameBut hs (cne y c e)⟩
    · obtain ⟨e, n, ne, nf, d⟩ := I.pin p hp
      exact ⟨(hs.2 p.1 ne).trans e, n, ne, nf, d⟩
  · have hfn : X.fn x = true := by
      rcases hf with z | z
      · exact z
      · rw [z] at hk; cases hk
    obtain ⟨c, hc⟩ := I.ok.has x (.inl hk)
    obtain ⟨w', z⟩ := I.cell x c hc
    refine wpAny_storeName_cell I.ok.kind hk hc z (fun h' hc' hs => ?_)
    obtain ⟨oc, hoc, hocd⟩ := id z
    refine h { s with heap := h' } ⟨I.ok, I.os, I.bare, ⟨fun b o e n hb hx => ?_, fun b o e n hb hx => ?_, I.base.free, fun b o e hx => ?_, I.base.tups, I.base.frzs, I.base.tbls⟩, ⟨m, hn.sameBut hs (Ne.symm (cne x c hc)), fun j y v' e1 e2 e3 => ?_⟩, fun y c' e => ?_, I.free, I.freeC, fun p hp => ?_, tracked ⟨oc, hoc, I.freeC x c hc⟩ hs, by simpa using I.len⟩ ⟨c, hs, .inr hc⟩
    · exact (hs.2 b (Nat.ne_of_lt (Nat.lt_of_lt_of_le (Heap.lt_size e) (I.ok.cab x c hfn hc)))).trans (I.base.keep b o e n hb hx)
    · obtain ⟨sl, e1⟩ := I.base.slot b o e n hb hx
      exact ⟨sl, (hs.2 b (Nat.ne_of_lt (Nat.lt_of_lt_of_le (Heap.lt_size e) (I.ok.cab x c hfn hc)))).trans e1⟩
    · obtain ⟨o', e1⟩ := I.base.there b o e hx
      exact ⟨o', (hs.2 b (Nat.ne_of_lt (Nat.lt_of_lt_of_le (Heap.lt_size e) (I.ok.cab x c hfn hc)))).trans e1⟩
    · by_cases hj : j = i
      · subst hj
        rw [hi] at e1; cases e1
        rw [List.getElem?_set_self hiσ] at e2
        cases e2
        exact ⟨u, r, .inr ⟨.inl hk, c, hc, hc'⟩⟩
      · rw [List.getElem?_set_ne (Ne.symm hj)] at e2
        obtain ⟨u', r', q⟩ := hl j y v' e1 e2 e3
        refine ⟨u', r', ?_⟩
        rcases q with q | ⟨k, c', e, z'⟩
        · exact .inl q
        · refine .inr ⟨k, c', e, z'.sameBut hs ?_⟩
          rintro rfl
          exact hj (nodup_ix hN e1 (I.ok.inj _ _ _ e hc ▸ hi))
    · by_cases hcc : c' = c
      · subst hcc; exact ⟨_, hc'⟩
      · obtain ⟨w2, z2⟩ := I.cell y c' e
        exact ⟨w2, z2.sameBut hs hcc⟩
    · obtain ⟨e, n, ne, nf, d⟩ := I.pin p hp
      refine ⟨(hs.2 p.1 ?_).trans e, n, ne, nf, d⟩
      intro q
      rw [q, hoc] at e
      have q' : oc = p.2 := Option.some.inj e
      exact d w' (by rw [← q']; exact hocd)
theorem store_ok {M : Model} {A : Around} {E : Value → Shared → Prop} {i : Nat} {x : Str} {v : V} {u : Value} {Q : Unit → Shared → Prop} (I : Inv X pins σ H s) (hN : X.N.Nodup) (hi : X.N[i]? = some x) (hx : Loc X.env.scope x) (r : RelV v u)
    (h : ∀ s', Inv X pins (σ.set i (some v)) H s' → Q () s') (hf : X.fn x = true ∨ X.env.scope.names.lookup x = some .local := by first | exact .inl rfl | exact .inr rfl | assumption) : wpAny M A (storeName X.env x u) Q E s :=
  store_ok2 I hN hi hx r (fun s' I' _ => h s' I') hf
/-- behind a call or a block, the state as it is -/
theorem Inv.call' {s' : Shared} {ch : List Addr} (I : Inv X pins σ H s) (ho : s'.os = s.os) (u : Un (frs X.stack) ch H H' s.heap s'.heap) (hok : HOk X.prog X.w H' s'.heap) (hg : AllBare s'.gens)
    (hch : ∀ b ∈ ch, (b ∈ X.ex ∨ X.s₀.heap.objs.size ≤ b) ∧ b ≠ X.env.locals ∧ (∀ x c, X.env.cells.lookup x = some c → c ≠ b) ∧ ∀ p ∈ X.pn ++ pins, p.1 ≠ b) : Inv X pins σ H' s' := by
  obtain ⟨h', g', d', t', o'⟩ := s'
  have e : o' = s.os := ho
  subst e
  exact I.call (g' := g') (t' := t') (d' := d') u hok hg hch
end

/-! ### the judgements -/
/-- an exception: its class, its own dict's address (where it has one), the abstract heap behind it -/
abbrev XK := Value → Option Addr → Hp → Prop
abbrev St := List (Option V)
abbrev VK := V → Hp → Prop
/-- an expression's reading; a test's; an argument list's -/
abbrev TE := St → Hp → VK → Prop
abbrev TT := St → Hp → (Bool → Hp → Prop) → Prop
abbrev TA := St → Hp → (List V → Hp → Prop) → Prop
/-- what is wanted behind a statement -/
structure Ends where
  nx : St → Hp → Prop
  rt : VK
  bk : St → Hp → Prop := fun _ _ => False
  ct : St → Hp → Prop := fun _ _ => False
abbrev TS := Ends → St → Hp → Prop

def EP (X : Cx) (pins : List (Addr × Obj)) (σ : St) (Q : VK) (u : Value) (s' : Shared) : Prop := ∃ v H', Inv X pins σ H' s' ∧ RelV v u ∧ Q v H'
def TP (X : Cx) (pins : List (Addr × Obj)) (σ : St) (Q : Bool → Hp → Prop) (b : Bool) (s' : Shared) : Prop := ∃ H', Inv X pins σ H' s' ∧ Q b H'
def AP (X : Cx) (pins : List (Addr × Obj)) (σ : St) (Q : List V → Hp → Prop) (us : List Value) (s' : Shared) : Prop := ∃ vs H', Inv X pins σ H' s' ∧ Vals vs us ∧ Q vs H'
def SP (X : Cx) (pins : List (Addr × Obj)) (D : Ends) (f : Flow) (s' : Shared) : Prop :=
  match f with
  | .next => ∃ σ' H', Inv X pins σ' H' s' ∧ D.nx σ' H'
  | .brk => ∃ σ' H', Inv X pins σ' H' s' ∧ D.bk σ' H'
  | .cont => ∃ σ' H', Inv X pins σ' H' s' ∧ D.ct σ' H'
  | .ret u => ∃ v σ' H', Inv X pins σ' H' s' ∧ RelV v u ∧ D.rt v H'

def PE (X : Cx) (e : Expr) (t : TE) : Prop :=
  ∀ (pins : List (Addr × Obj)) (s : Shared) (σ : St) (H : Hp) (Q : VK), Inv X pins σ H s → t σ H Q → wpAny (model X.prog X.w) X.A (eval e X.env) (EP X pins σ Q) X.xe s
def PT (X : Cx) (e : Expr) (t : TT) : Prop :=
  ∀ (pins : List (Addr × Obj)) (s : Shared) (σ : St) (H : Hp) (Q : Bool → Hp → Prop), Inv X pins σ H s → t σ H Q → wpAny (model X.prog X.w) X.A (isTrue e X.env (eval e X.env)) (TP X pins σ Q) X.xe s
/-- a test whatever its 'whole' is (and, or) -/
def PW (X : Cx) (e : Expr) (t : TT) : Prop :=
  ∀ (whole : Sem Value) (pins : List (Addr × Obj)) (s : Shared) (σ : St) (H : Hp) (Q : Bool → Hp → Prop), Inv X pins σ H s → t σ H Q → wpAny (model X.prog X.w) X.A (isTrue e X.env whole) (TP X pins σ Q) X.xe s
theorem PW.pt {X : Cx} {e : Expr} {t : TT} (h : PW X e t) : PT X e t := h _
/-- an argument list (no star), from the left -/
def PA (X : Cx) (es : List Expr) (t : TA) : Prop :=
  ∀ (pos : Pos) (pins : List (Addr × Obj)) (s : Shared) (σ : St) (H : Hp) (Q : List V → Hp → Prop), Inv X pins σ H s → t σ H Q → wpAny (model X.prog X.w) X.A (spliced (backTo pos (starEach es X.env))) (AP X pins σ Q) X.xe s
def PS (X : Cx) (st : Stmt) (t : TS) : Prop :=
  ∀ (pins : List (Addr × Obj)) (s : Shared) (σ : St) (H : Hp) (D : Ends), Inv X pins σ H s → t D σ H → wpAny (model X.prog X.w) X.A (exec st X.env) (SP X pins D) X.xe s
def PSs (X : Cx) (st : List Stmt) (t : TS) : Prop :=
  ∀ (pins : List (Addr × Obj)) (s : Shared) (σ : St) (H : Hp) (D : Ends), Inv X pins σ H s → t D σ H → wpAny (model X.prog X.w) X.A (execs st X.env) (SP X pins D) X.xe s
/-- weaken the end -/
theorem thn {α : Type} {t : Sem α} {Q Q' : α → Shared → Prop} {M : Model} {A : Around} {E : Value → Shared → Prop} {s : Shared} (h : wpAny M A t Q E s) (hQ : ∀ a s, Q a s → Q' a s) : wpAny M A t Q' E s := wpAny_mono h hQ fun _ _ x => x
end L2

namespace L2
open PySem PySem.Spec PyProof.Rows
section
variable {X : Cx}

/-- two expressions in a row -/
theorem bin {a b : Expr} {ta tb : TE} (ha : PE X a ta) (hb : PE X b tb) {pins : List (Addr × Obj)} {s : Shared} {σ : St} {H : Hp} {R : V → V → Hp → Prop} (I : Inv X pins σ H s) (h : ta σ H fun x H1 => tb σ H1 fun y H2 => R x y H2)
    {α : Type} {Q : α → Shared → Prop} {f : Value → Value → Sem α}
    (hf : ∀ v u s2 x y H2, Inv X pins σ H2 s2 → RelV x v → RelV y u → R x y H2 → wpAny (model X.prog X.w) X.A (f v u) Q X.xe s2) :
    wpAny (model X.prog X.w) X.A (eval a X.env) (fun v s₁ => wpAny (model X.prog X.w) X.A (eval b X.env) (fun u s₂ => wpAny (model X.prog X.w) X.A (f v u) Q X.xe s₂) X.xe s₁) X.xe s := by
  refine thn (ha pins s σ H _ I h) fun v s1 ⟨x, H1, I1, r1, q1⟩ => ?_
  refine thn (hb pins s1 σ H1 _ I1 q1) fun u s2 ⟨y, H2, I2, r2, q2⟩ => ?_
  exact hf v u s2 x y H2 I2 r1 r2 q2

/-! ### names and constants -/
def tVar (i : Nat) : TE := fun σ H Q => ∃ v, σ[i]? = some (some v) ∧ Q v H
def tC (v : V) : TE := fun _ H Q => Q v H
theorem pe_var {i : Nat} {x : Str} {pos : Pos} (hN : X.N[i]? = some x) (hv : Vis X.env.scope x) (hd : (x == ("__debug__" : Str)) = false := by decide) (hcd : (x == ("__classdict__" : Str)) = false := by decide) : PE X (.Name x pos) (tVar i) := by
  intro pins s σ H Q I h
  obtain ⟨v, e, h⟩ := h
  obtain ⟨m, hn, hl⟩ := I.loc
  obtain ⟨u, r, l⟩ := hl i x v hN e hv
  have fin : EP X pins σ Q u s := ⟨v, H, I, r, h⟩
  rcases l with ⟨hk, hm⟩ | ⟨hk, c, hc, hcell⟩
  · exact wpAny_Name (wpAny_loadName_local I.ok.kind hk hn hm fin) hd
  · rcases hk with hk | hk
    · exact wpAny_Name (wpAny_loadName_cell I.ok.kind hk hc hcell fin) hd
    · exact wpAny_Name (wpAny_loadName_free I.ok.kind hk hc hcell fin hcd) hd
theorem pe_int {i j pos} : PE X (.Constant (.int i) j pos) (tC (.int i)) := fun _ _ _ H _ I h => wpAny_Constant_int ⟨.int i, H, I.tok _, ⟨_, rfl⟩, h⟩
theorem pe_bl {b j pos} : PE X (.Constant (.bool b) j pos) (tC (.bl b)) := fun _ _ _ H _ I h => Constant_bool ⟨.bl b, H, I, rfl, h⟩
theorem pe_non {j pos} : PE X (.Constant .none j pos) (tC .non) := fun _ _ _ H _ I h => Constant_none ⟨.non, H, I, rfl, h⟩
theorem pe_str {x j pos} : PE X (.Constant (.str x) j pos) (tC (.str x)) := fun _ _ _ H _ I h => Calls.Constant_str ⟨.str x, H, I.tok _, ⟨_, rfl⟩, h⟩

/-- a global name of the def -/
def Gl (X : Cx) (x : Str) : Prop := X.env.kindOf x = some .globalImplicit
theorem ld_glob {E : Value → Shared → Prop} {pins : List (Addr × Obj)} {s : Shared} {σ : St} {H : Hp} {x : Str} {u : Value} {pos : Pos} {Q : Value → Shared → Prop} (I : Inv X pins σ H s) (hg : Gl X x) (hm : X.mg x = some u) (h : Q u s)
    (hd : (x == ("__debug__" : Str)) = false := by decide) : wpAny (model X.prog X.w) X.A (eval (.Name x pos) X.env) Q E s :=
  Calls.Name_function_global I.ok.kind hg (Calls.loadGlobal_global (by rw [I.ok.glob]; exact I.mod.glob.keeps I.bk) hm h) hd
theorem ld_blt {E : Value → Shared → Prop} {pins : List (Addr × Obj)} {s : Shared} {σ : St} {H : Hp} {x : Str} {u : Value} {pos : Pos} {Q : Value → Shared → Prop} (I : Inv X pins σ H s) (hg : Gl X x) (hm : X.mg x = none) (hv : bootBuiltins x = some u) (h : Q u s)
    (hn : x ≠ "__name__" := by decide) (hd : (x == ("__debug__" : Str)) = false := by decide) : wpAny (model X.prog X.w) X.A (eval (.Name x pos) X.env) Q E s := by
  obtain ⟨mb, h1, h2⟩ := I.mod.blt
  exact Calls.Name_function_global I.ok.kind hg (Calls.loadGlobal_builtin (by rw [I.ok.glob]; exact I.mod.glob.keeps I.bk) hm (by rw [I.ok.blt]; exact h1.keeps I.bk) ((h2 x hn).trans hv) h) hd
/-- a module's constant, a class, a function, as a value -/
theorem pe_glob {x : Str} {v : V} {u : Value} {pos : Pos} (hg : Gl X x) (hm : X.mg x = some u) (r : RelV v u) (hd : (x == ("__debug__" : Str)) = false := by decide) : PE X (.Name x pos) (tC v) :=
  fun _ _ _ H _ I h => ld_glob I hg hm ⟨v, H, I, r, h⟩ hd
theorem pe_bltn {x : Str} {v : V} {u : Value} {pos : Pos} (hg : Gl X x) (hm : X.mg x = none) (hv : bootBuiltins x = some u) (r : RelV v u) (hn : x ≠ "__name__" := by decide) (hd : (x == ("__debug__" : Str)) = false := by decide) : PE X (.Name x pos) (tC v) :=
  fun _ _ _ H _ I h => ld_blt I hg hm hv ⟨v, H, I, r, h⟩ hn hd

/-! ### arithmetic -/
/-- two ints -/
def t2I (ta tb : TE) (k : Int → Int → Hp → Prop) : St → Hp → Prop := fun σ H => ta σ H fun x H1 => tb σ H1 fun y H2 => ∃ i j, x = .int i ∧ y = .int j ∧ k i j H2
def tAdd (ta tb : TE) : TE := fun σ H Q => t2I ta tb (fun i j H2 => Q (.int (i + j)) H2) σ H
def tSub (ta tb : TE) : TE := fun σ H Q => t2I ta tb (fun i j H2 => Q (.int (i - j)) H2) σ H
/-- the left factor below 2^64 -/
def tMul (ta tb : TE) : TE := fun σ H Q => t2I ta tb (fun i j H2 => (-(2 ^ 64) < i ∧ i < 2 ^ 64) ∧ Q (.int (i * j)) H2) σ H
variable {a b : Expr} {ta tb : TE} {pos : Pos}
theorem pe_add (ha : PE X a ta) (hb : PE X b tb) : PE X (.BinOp a .Add b pos) (tAdd ta tb) := by
  intro pins s σ H Q I h
  refine wpAny_BinOp (bin ha hb I h fun v u s2 x y H2 I2 rx ry q => ?_)
  obtain ⟨i, j, rfl, rfl, q⟩ := q
  obtain ⟨t, rfl⟩ := rx
  obtain ⟨t', rfl⟩ := ry
  exact add_int ⟨.int _, H2, I2.tok _, ⟨_, rfl⟩, q⟩
theorem pe_sub (ha : PE X a ta) (hb : PE X b tb) : PE X (.BinOp a .Sub b pos) (tSub ta tb) := by
  intro pins s σ H Q I h
  refine wpAny_BinOp (bin ha hb I h fun v u s2 x y H2 I2 rx ry q => ?_)
  obtain ⟨i, j, rfl, rfl, q⟩ := q
  obtain ⟨t, rfl⟩ := rx
  obtain ⟨t', rfl⟩ := ry
  exact sub_int ⟨.int _, H2, I2.tok _, ⟨_, rfl⟩, q⟩
theorem pe_mul (ha : PE X a ta) (hb : PE X b tb) : PE X (.BinOp a .Mult b pos) (tMul ta tb) := by
  intro pins s σ H Q I h
  refine wpAny_BinOp (bin ha hb I h fun v u s2 x y H2 I2 rx ry q => ?_)
  obtain ⟨i, j, rfl, rfl, ⟨q1, q2⟩, q⟩ := q
  obtain ⟨t, rfl⟩ := rx
  obtain ⟨t', rfl⟩ := ry
  exact mul_int ⟨.int _, H2, I2.tok _, ⟨_, rfl⟩, q⟩ (.of_left (intBits_le_64 q1 q2))

/-! ### comparisons -/
def PC (X : Cx) (op : CmpOp) (a b : Expr) (t : TE) : Prop :=
  ∀ (pins : List (Addr × Obj)) (s : Shared) (σ : St) (H : Hp) (Q : VK), Inv X pins σ H s → t σ H Q →
    wpAny (model X.prog X.w) X.A (eval a X.env) (fun v s₁ => wpAny (model X.prog X.w) X.A (eval b X.env) (fun u s₂ => wpAny (model X.prog X.w) X.A (compareOp op v u) (EP X pins σ Q) X.xe s₂) X.xe s₁) X.xe s
theorem nobehind (b : Expr) {op : CmpOp} (h : op ≠ .In) (h2 : op ≠ .NotIn) : behindInMarks op b = false := by
  have e1 : (op == CmpOp.In) = false := by cases op <;> first | rfl | exact absurd rfl h
  have e2 : (op == CmpOp.NotIn) = false := by cases op <;> first | rfl | exact absurd rfl h2
  cases b <;> simp [behindInMarks, e1, e2]
def tCmp (p : Int → Int → Bool) (ta tb : TE) : TE := fun σ H Q => t2I ta tb (fun i j H2 => Q (.bl (p i j)) H2) σ H
abbrev tLt : TE → TE → TE := tCmp fun i j => decide (i < j)
abbrev tLe : TE → TE → TE := tCmp fun i j => decide (i ≤ j)
abbrev tGt : TE → TE → TE := tCmp fun i j => decide (j < i)
abbrev tGe : TE → TE → TE := tCmp fun i j => decide (j ≤ i)
abbrev tEqI : TE → TE → TE := tCmp fun i j => decide (i = j)
abbrev tNeI : TE → TE → TE := tCmp fun i j => !decide (i = j)
/-- a comparison of two ints, by its rule -/
theorem pc_int {op : CmpOp} {p : Int → Int → Bool} (ha : PE X a ta) (hb : PE X b tb)
    (rule : ∀ (i j : Int) (t u : Tok) (Q : Value → Shared → Prop) (s : Shared), Q (.bool (p i j)) s → wpAny (model X.prog X.w) X.A (compareOp op (.int i t) (.int j u)) Q X.xe s) : PC X op a b (tCmp p ta tb) := by
  intro pins s σ H Q I h
  refine bin ha hb I h fun v u s2 x y H2 I2 rx ry q => ?_
  obtain ⟨i, j, rfl, rfl, q⟩ := q
  obtain ⟨t, rfl⟩ := rx
  obtain ⟨t', rfl⟩ := ry
  exact rule i j t t' _ s2 ⟨.bl _, H2, I2, rfl, q⟩
theorem pc_lt (ha : PE X a ta) (hb : PE X b tb) : PC X .Lt a b (tLt ta tb) := pc_int ha hb fun _ _ _ _ _ _ h => lt_int h
theorem pc_le (ha : PE X a ta) (hb : PE X b tb) : PC X .LtE a b (tLe ta tb) := pc_int ha hb fun _ _ _ _ _ _ h => le_int h
theorem pc_gt (ha : PE X a ta) (hb : PE X b tb) : PC X .Gt a b (tGt ta tb) := pc_int ha hb fun _ _ _ _ _ _ h => gt_int h
theorem pc_ge (ha : PE X a ta) (hb : PE X b tb) : PC X .GtE a b (tGe ta tb) := pc_int ha hb fun _ _ _ _ _ _ h => ge_int h
theorem pc_eqI (ha : PE X a ta) (hb : PE X b tb) : PC X .Eq a b (tEqI ta tb) := pc_int ha hb fun _ _ _ _ _ _ h => eq_int (by rw [Bool.beq_eq_decide_eq]; exact h)
theorem pc_neI (ha : PE X a ta) (hb : PE X b tb) : PC X .NotEq a b (tNeI ta tb) := pc_int ha hb fun _ _ _ _ _ _ h => ne_int (by rw [bne, Bool.beq_eq_decide_eq]; exact h)
/-- is None -/
def tIsN (ta : TE) : TE := fun σ H Q => ta σ H fun x H1 => Q (.bl (decide (x = .non))) H1
def tNotN (ta : TE) : TE := fun σ H Q => ta σ H fun x H1 => Q (.bl (!decide (x = .non))) H1
theorem RelV.none_iff {x : V} {v : Value} (r : RelV x v) : (v == Value.none) = decide (x = .non) := by
  cases x with
  | non => cases r; rfl
  | bl _ => cases r; rfl
  | int _ => obtain ⟨t, rfl⟩ := r; rfl
  | str _ => obtain ⟨t, rfl⟩ := r; rfl
  | byt _ => obtain ⟨t, rfl⟩ := r; rfl
  | flt _ => obtain ⟨t, rfl⟩ := r; rfl
  | ref _ => cases r; rfl
  | ty _ => cases r; rfl
theorem pc_isN {j pos'} (ha : PE X a ta) : PC X .Is a (.Constant .none j pos') (tIsN ta) := by
  intro pins s σ H Q I h
  refine thn (ha pins s σ H _ I h) fun v s1 ⟨x, H1, I1, r1, q1⟩ => ?_
  exact Constant_none (is_none_gen ⟨.bl _, H1, I1, by rw [r1.none_iff]; rfl, q1⟩)
theorem pc_notN {j pos'} (ha : PE X a ta) : PC X .IsNot a (.Constant .none j pos') (tNotN ta) := by
  intro pins s σ H Q I h
  refine thn (ha pins s σ H _ I h) fun v s1 ⟨x, H1, I1, r1, q1⟩ => ?_
  exact Constant_none (isnot_none_gen ⟨.bl _, H1, I1, by rw [r1.none_iff]; rfl, q1⟩)
/-- a comparison as a value, as a test -/
def tB (t : TE) : TT := fun σ H Q => t σ H fun x H1 => ∃ c, x = .bl c ∧ Q c H1
theorem pe_cmp {op : CmpOp} {t : TE} (h : PC X op a b t) (h1 : behindInMarks op b = false := by first | exact nobehind _ (by decide) (by decide) | rfl) : PE X (.Compare a [op] [b] pos) t := fun pins s σ H Q I hw => wpAny_Compare1 (h pins s σ H Q I hw) h1
theorem pt_cmp {op : CmpOp} {t : TE} (h : PC X op a b t) (h1 : behindInMarks op b = false := by first | exact nobehind _ (by decide) (by decide) | rfl) : PT X (.Compare a [op] [b] pos) (tB t) := by
  intro pins s σ H Q I hw
  refine wpAny_isTrue_Compare1 (thn (h pins s σ H _ I hw) fun v s1 h1 => thn h1 fun u s2 h2 => thn h2 fun c s3 ⟨x, H1, I1, r1, q1⟩ => ?_) h1
  obtain ⟨d, rfl, q⟩ := q1
  cases r1
  exact wpAny_truthy_bool ⟨H1, I1, q⟩
/-- an expression whose value is a bool, as a test -/
theorem pt_val {e : Expr} {t : TE} (h : PE X e t) (he : ∀ whole, isTrue e X.env whole = (do let v ← whole; standAt e.pos; holding [v] (truthy v)) := by intro _; rfl) : PT X e (tB t) := by
  intro pins s σ H Q I hw
  refine isTrue_plain (thn (h pins s σ H _ I hw) fun v s1 ⟨x, H1, I1, r1, q1⟩ => ?_) (he _)
  obtain ⟨d, rfl, q⟩ := q1
  cases r1
  exact wpAny_truthy_bool ⟨H1, I1, q⟩

/-! ### and, or, not -/
variable {tA tB' : TT} {rest : List Expr}
def tAnd (t u : TT) : TT := fun σ H Q => t σ H fun c H1 => if c = true then u σ H1 Q else Q false H1
def tOr (t u : TT) : TT := fun σ H Q => t σ H fun c H1 => if c = true then Q true H1 else u σ H1 Q
def tNot (t : TT) : TT := fun σ H Q => t σ H fun c H1 => Q (!c) H1
theorem pw_and1 (ha : PT X a tA) : PW X (.BoolOp .And [a] pos) tA := by
  intro wh pins s σ H Q I h
  refine isTrue_and (thn (ha pins s σ H Q I h) fun c s1 e => ?_)
  cases c with
  | true => exact isTrue_and_nil e
  | false => exact e
theorem pw_or1 (ha : PT X a tA) : PW X (.BoolOp .Or [a] pos) tA := by
  intro wh pins s σ H Q I h
  refine isTrue_or (thn (ha pins s σ H Q I h) fun c s1 e => ?_)
  cases c with
  | false => exact isTrue_or_nil e
  | true => exact e
theorem pw_and (ha : PT X a tA) (hb : PW X (.BoolOp .And (b :: rest) pos) tB') : PW X (.BoolOp .And (a :: b :: rest) pos) (tAnd tA tB') := by
  intro wh pins s σ H Q I h
  refine isTrue_and (thn (ha pins s σ H _ I h) fun c s1 ⟨H1, I1, q1⟩ => ?_)
  cases c with
  | true => exact hb wh pins s1 σ H1 Q I1 q1
  | false => exact ⟨H1, I1, q1⟩
theorem pw_or (ha : PT X a tA) (hb : PW X (.BoolOp .Or (b :: rest) pos) tB') : PW X (.BoolOp .Or (a :: b :: rest) pos) (tOr tA tB') := by
  intro wh pins s σ H Q I h
  refine isTrue_or (thn (ha pins s σ H _ I h) fun c s1 ⟨H1, I1, q1⟩ => ?_)
  cases c with
  | true => exact ⟨H1, I1, q1⟩
  | false => exact hb wh pins s1 σ H1 Q I1 q1
theorem pt_not (ha : PT X a tA) : PT X (.UnaryOp .Not a pos) (tNot tA) := by
  intro pins s σ H Q I h
  exact isTrue_not (ha pins s σ H (fun c H1 => Q (!c) H1) I h)
/-- .. as values (bools) -/
def tAndV (ta tb : TE) : TE := fun σ H Q => ta σ H fun x H1 => ∃ c, x = .bl c ∧ if c = true then tb σ H1 Q else Q (.bl false) H1
def tOrV (ta tb : TE) : TE := fun σ H Q => ta σ H fun x H1 => ∃ c, x = .bl c ∧ if c = true then Q (.bl true) H1 else tb σ H1 Q
def tNotV (ta : TE) : TE := fun σ H Q => ta σ H fun x H1 => ∃ c, x = .bl c ∧ Q (.bl (!c)) H1
theorem pe_one {op} {t : TE} (h : PE X a t) : PE X (.BoolOp op [a] pos) t := fun pins s σ H Q I hw => BoolOp_one (h pins s σ H Q I hw)
theorem pe_and (ha : PE X a ta) (hb : PE X (.BoolOp .And (b :: rest) pos) tb) : PE X (.BoolOp .And (a :: b :: rest) pos) (tAndV ta tb) := by
  intro pins s σ H Q I h
  refine BoolOp_and (thn (ha pins s σ H _ I h) fun v s1 ⟨x, H1, I1, r1, q1⟩ => ?_)
  obtain ⟨c, rfl, q1⟩ := q1
  cases r1
  refine wpAny_truthy_bool ?_
  cases c with
  | true => exact hb pins s1 σ H1 Q I1 q1
  | false => exact ⟨.bl false, H1, I1, rfl, q1⟩
theorem pe_or (ha : PE X a ta) (hb : PE X (.BoolOp .Or (b :: rest) pos) tb) : PE X (.BoolOp .Or (a :: b :: rest) pos) (tOrV ta tb) := by
  intro pins s σ H Q I h
  refine BoolOp_or (thn (ha pins s σ H _ I h) fun v s1 ⟨x, H1, I1, r1, q1⟩ => ?_)
  obtain ⟨c, rfl, q1⟩ := q1
  cases r1
  refine wpAny_truthy_bool ?_
  cases c with
  | false => exact hb pins s1 σ H1 Q I1 q1
  | true => exact ⟨.bl true, H1, I1, rfl, q1⟩
theorem pe_not (ha : PE X a ta) : PE X (.UnaryOp .Not a pos) (tNotV ta) := by
  intro pins s σ H Q I h
  refine UnaryOp_ (thn (ha pins s σ H _ I h) fun v s1 ⟨x, H1, I1, r1, q1⟩ => ?_)
  obtain ⟨c, rfl, q1⟩ := q1
  cases r1
  exact not_of (wpAny_truthy_bool ⟨.bl (!c), H1, I1, rfl, q1⟩)
/-- a if t else b -/
def tIf (t : TT) (ta tb : TE) : TE := fun σ H Q => t σ H fun c H1 => if c = true then ta σ H1 Q else tb σ H1 Q
theorem pe_ifExp {c : Expr} (hc : PT X c tA) (ha : PE X a ta) (hb : PE X b tb) : PE X (.IfExp c a b pos) (tIf tA ta tb) := by
  intro pins s σ H Q I h
  refine wpAny_IfExp (thn (hc pins s σ H _ I h) fun d s1 ⟨H1, I1, q1⟩ => ?_)
  cases d with
  | true => exact ha pins s1 σ H1 Q I1 q1
  | false => exact hb pins s1 σ H1 Q I1 q1
end
end L2

namespace L2
open PySem PySem.Spec PyProof.Rows

/-! ### a list, a tuple that is read: tracked, frozen, or an object of the module -/
def SqL (K : PySem.W.Frag) (H : Hp) (a : Addr) (xs : List V) : Prop :=
  Rd H a (.lst xs) ∨
    ∃ (o : Obj) (its : Array Value) (n : Nat), K.lookup a = some o ∧ o.cls = .type "list" ∧ o.dict = none ∧ o.data = .seq its n ∧ its.size ≤ sizeLine ∧ Vals xs its.toList
def SqT (K : PySem.W.Frag) (H : Hp) (a : Addr) (xs : List V) : Prop :=
  Rd H a (.tup xs) ∨
    ∃ (o : Obj) (its : Array Value) (n : Nat), K.lookup a = some o ∧ o.cls = .type "tuple" ∧ o.data = .seq its n ∧ its.size ≤ sizeLine ∧ Vals xs its.toList
def absV : Value → Option V
  | .none => some .non
  | .bool b => some (.bl b)
  | .int i _ => some (.int i)
  | .str x _ => some (.str x)
  | .bytes b _ => some (.byt b)
  | .float b _ => some (.flt b)
  | .ref a => some (.ref a)
  | .type n => some (.ty n)
  | _ => none
theorem RelV.abs {x : V} {u : Value} (r : RelV x u) : absV u = some x := by
  cases x with
  | non => cases r; rfl
  | bl _ => cases r; rfl
  | int _ => obtain ⟨t, rfl⟩ := r; rfl
  | str _ => obtain ⟨t, rfl⟩ := r; rfl
  | byt _ => obtain ⟨t, rfl⟩ := r; rfl
  | flt _ => obtain ⟨t, rfl⟩ := r; rfl
  | ref _ => cases r; rfl
  | ty _ => cases r; rfl
theorem RelV.inj {x y : V} {u : Value} (r : RelV x u) (q : RelV y u) : x = y := Option.some.inj (r.abs.symm.trans q.abs)
theorem Vals.inj : ∀ {xs ys : List V} {us : List Value}, Vals xs us → Vals ys us → xs = ys
  | _, _, _, .nil, .nil => rfl
  | _, _, _, .cons r t, .cons r' t' => by rw [r.inj r', Vals.inj t t']
section
variable {X : Cx} {pins : List (Addr × Obj)} {σ : St} {H : Hp} {s : Shared} {a : Addr} {xs ys : List V}
theorem SqL.of {K : PySem.W.Frag} (h : H a = some (.lst xs)) : SqL K H a xs := .inl (.inl h)
theorem SqT.of {K : PySem.W.Frag} (h : H a = some (.tup xs)) : SqT K H a xs := .inl (.inl h)
theorem Inv.list (I : Inv X pins σ H s) (h : SqL X.K H a xs) : ∃ its : List Value, Vals xs its ∧ PlainL s.heap a its.toArray ∧ xs.length ≤ sizeLine := by
  rcases h with h | ⟨o, its, n, hk, hc, hd, hs, hz, r⟩
  · obtain ⟨z, its, n, r, e⟩ := h.ok I.hok
    exact ⟨its, r, ⟨_, n, e, rfl, rfl, rfl⟩, z⟩
  · refine ⟨its.toList, r, ⟨o, n, I.kIn a o hk, hc, hd, by simpa using hs⟩, ?_⟩
    have e := r.length
    simp only [Array.length_toList] at e
    omega
theorem Inv.tuple (I : Inv X pins σ H s) (h : SqT X.K H a xs) : ∃ its : List Value, Vals xs its ∧ IsTup s.heap a its.toArray ∧ xs.length ≤ sizeLine := by
  rcases h with h | ⟨o, its, n, hk, hc, hs, hz, r⟩
  · obtain ⟨z, its, r, p⟩ := h.ok I.hok
    exact ⟨its, r, p, z⟩
  · refine ⟨its.toList, r, ⟨o, I.kIn a o hk, hc, n, by simpa using hs⟩, ?_⟩
    have e := r.length
    simp only [Array.length_toList] at e
    omega
theorem Inv.list_inj (I : Inv X pins σ H s) (h : SqL X.K H a xs) (h' : SqL X.K H a ys) : xs = ys := by
  obtain ⟨its, r, ⟨o, n, e, _, _, d⟩, _⟩ := I.list h
  obtain ⟨its', r', ⟨o', n', e', _, _, d'⟩, _⟩ := I.list h'
  rw [e] at e'; cases e'
  rw [d] at d'
  injection d' with d1 _
  have : its = its' := by simpa using congrArg Array.toList d1
  subst this
  exact r.inj r'
theorem Inv.tuple_inj (I : Inv X pins σ H s) (h : SqT X.K H a xs) (h' : SqT X.K H a ys) : xs = ys := by
  obtain ⟨its, r, ⟨o, e, _, n, d⟩, _⟩ := I.tuple h
  obtain ⟨its', r', ⟨o', e', _, n', d'⟩, _⟩ := I.tuple h'
  rw [e] at e'; cases e'
  rw [d] at d'
  injection d' with d1 _
  have : its = its' := by simpa using congrArg Array.toList d1
  subst this
  exact r.inj r'
end

/-! ### another wish about exceptions -/
abbrev Cx.wish (X : Cx) (E : Value → Shared → Prop) : Cx := { X with xe := E }
/-- no exception leaves -/
abbrev Cx.nox (X : Cx) : Cx := X.wish fun _ _ => False
theorem Cx.Ok.wish {X : Cx} (ok : X.Ok) (E : Value → Shared → Prop) : (X.wish E).Ok :=
  ⟨ok.mod, ok.kind, ok.glob, ok.blt, ok.above, ok.inj, ok.has, ok.cab, ok.hd, ok.frames, ok.stk, ok.exf, ok.bs, ok.bsz, ok.noex, ok.exfs, ok.funs, ok.frf⟩
theorem Cx.Ok.unwish {X : Cx} {E : Value → Shared → Prop} (ok : (X.wish E).Ok) : X.Ok :=
  ⟨ok.mod, ok.kind, ok.glob, ok.blt, ok.above, ok.inj, ok.has, ok.cab, ok.hd, ok.frames, ok.stk, ok.exf, ok.bs, ok.bsz, ok.noex, ok.exfs, ok.funs, ok.frf⟩
section
variable {X : Cx} {pins : List (Addr × Obj)} {σ : St} {H : Hp} {s : Shared} {E : Value → Shared → Prop}
theorem Inv.wish (I : Inv X pins σ H s) (E : Value → Shared → Prop) : Inv (X.wish E) pins σ H s := ⟨I.ok.wish E, I.os, I.bare, I.base, I.loc, I.cell, I.free, I.freeC, I.pin, I.hok, I.len⟩
theorem Inv.unwish (I : Inv (X.wish E) pins σ H s) : Inv X pins σ H s := ⟨I.ok.unwish, I.os, I.bare, I.base, I.loc, I.cell, I.free, I.freeC, I.pin, I.hok, I.len⟩
theorem SP.unwish {D : Ends} {f : Flow} {s' : Shared} (h : SP (X.wish E) pins D f s') : SP X pins D f s' := by
  cases f with
  | next => obtain ⟨σ', H', I, q⟩ := h; exact ⟨σ', H', I.unwish, q⟩
  | brk => obtain ⟨σ', H', I, q⟩ := h; exact ⟨σ', H', I.unwish, q⟩
  | cont => obtain ⟨σ', H', I, q⟩ := h; exact ⟨σ', H', I.unwish, q⟩
  | ret u => obtain ⟨v, σ', H', I, r, q⟩ := h; exact ⟨v, σ', H', I.unwish, r, q⟩
theorem PE.nox {e : Expr} {t : TE} (h : PE X.nox e t) : PE X e t := fun pins s σ H Q I hw =>
  wpAny_mono (h pins s σ H Q (I.wish _) hw) (fun _ _ ⟨v, H', I', r, q⟩ => ⟨v, H', I'.unwish, r, q⟩) fun _ _ z => False.elim z
theorem PT.nox {e : Expr} {t : TT} (h : PT X.nox e t) : PT X e t := fun pins s σ H Q I hw =>
  wpAny_mono (h pins s σ H Q (I.wish _) hw) (fun _ _ ⟨H', I', q⟩ => ⟨H', I'.unwish, q⟩) fun _ _ z => False.elim z
theorem PSs.nox {st : List Stmt} {t : TS} (h : PSs X.nox st t) : PSs X st t := fun pins s σ H D I hw =>
  wpAny_mono (h pins s σ H D (I.wish _) hw) (fun _ _ q => q.unwish) fun _ _ z => False.elim z
end

/-! ### blocks and small statements -/
section
variable {X : Cx} {st : Stmt} {rest : List Stmt} {t u : TS} {e : Expr} {te : TE} {pos : Pos}
def tNext : TS := fun D σ H => D.nx σ H
def tSeq (t u : TS) : TS := fun D σ H => t { D with nx := u D } σ H
theorem pss_nil : PSs X [] tNext := fun _ _ σ H _ I h => wpAny_execs_nil ⟨σ, H, I, h⟩
theorem pss_cons (h1 : PS X st t) (h2 : PSs X rest u) : PSs X (st :: rest) (tSeq t u) := by
  intro pins s σ H D I h
  refine wpAny_execs_cons (thn (h1 pins s σ H { D with nx := u D } I h) fun f s1 q => ?_)
  cases f with
  | next =>
    obtain ⟨σ', H', I', q⟩ := q
    exact h2 pins s1 σ' H' D I' q
  | ret v => exact q
  | brk => exact q
  | cont => exact q
theorem pss_one (h1 : PS X st t) : PSs X [st] t := by
  intro pins s σ H D I h
  refine wpAny_execs_cons (thn (h1 pins s σ H D I h) fun f s1 q => ?_)
  cases f with
  | next => exact wpAny_execs_nil q
  | ret v => exact q
  | brk => exact q
  | cont => exact q
def tBreak : TS := fun D σ H => D.bk σ H
def tCont : TS := fun D σ H => D.ct σ H
theorem ps_pass : PS X (.Pass pos) tNext := fun _ _ σ H _ I h => wpAny_Pass ⟨σ, H, I, h⟩
theorem ps_break : PS X (.Break pos) tBreak := fun _ _ σ H _ I h => wpAny_Break ⟨σ, H, I, h⟩
theorem ps_continue : PS X (.Continue pos) tCont := fun _ _ σ H _ I h => wpAny_Continue ⟨σ, H, I, h⟩
/-- in a def's body nothing is shown -/
theorem Inv.quiet {pins : List (Addr × Obj)} {σ : St} {H : Hp} {s : Shared} (I : Inv X pins σ H s) : interactive X.env = false := by simp [interactive, I.ok.kind]
/-- a docstring -/
theorem ps_doc {x j pos pos'} : PS X (.Expr (.Constant (.str x) j pos) pos') tNext := fun _ s σ H _ I h => wpAny_Expr (Calls.Constant_str (show SP X _ _ .next { s with toks := s.toks + 1 } from ⟨σ, H, I.tok _, h⟩)) I.quiet
/-- an expression whose value is dropped -/
def tDrop (te : TE) : TS := fun D σ H => te σ H fun _ H1 => D.nx σ H1
theorem ps_expr (he : PE X e te) (hs : swapsWith e none pos.line X.env = pure false := by rfl) : PS X (.Expr e pos) (tDrop te) := by
  intro pins s σ H D I h
  exact wpAny_Expr_any (thn (he pins s σ H _ I h) fun v s1 ⟨x, H1, I1, r1, q1⟩ => ⟨σ, H1, I1, q1⟩) I.quiet hs
def tRet (te : TE) : TS := fun D σ H => te σ H D.rt
theorem ps_ret (he : PE X e te) : PS X (.Return (some e) pos) (tRet te) := by
  intro pins s σ H D I h
  exact wpAny_Return_some (thn (he pins s σ H _ I h) fun v s1 ⟨x, H1, I1, r1, q1⟩ => ⟨x, σ, H1, I1, r1, q1⟩)
def tRetN : TS := fun D _ H => D.rt .non H
theorem ps_retN : PS X (.Return none pos) tRetN := fun _ _ σ H _ I h => wpAny_Return_none ⟨.non, σ, H, I, rfl, h⟩
def tIfS (c : TT) (t u : TS) : TS := fun D σ H => c σ H fun b H1 => if b = true then t D σ H1 else u D σ H1
theorem ps_if {c : Expr} {a b : List Stmt} {tc : TT} (hc : PT X c tc) (ha : PSs X a t) (hb : PSs X b u) : PS X (.If c a b pos) (tIfS tc t u) := by
  intro pins s σ H D I h
  refine wpAny_If (thn (hc pins s σ H _ I h) fun d s1 ⟨H1, I1, q1⟩ => ?_)
  cases d with
  | true => exact ha pins s1 σ H1 D I1 q1
  | false => exact hb pins s1 σ H1 D I1 q1
/-- code that the proof never comes to -/
def tNever : TS := fun _ _ _ => False
theorem ps_never : PS X st tNever := fun _ _ _ _ _ _ h => h.elim
theorem pss_never {sts : List Stmt} : PSs X sts tNever := fun _ _ _ _ _ _ h => h.elim
end

/-! ### targets -/
abbrev TG := V → St → Hp → (St → Hp → Prop) → Prop
abbrev TGs := List V → St → Hp → (St → Hp → Prop) → Prop
def PG (X : Cx) (target : Expr) (t : TG) : Prop :=
  ∀ (pins : List (Addr × Obj)) (s : Shared) (σ : St) (H : Hp) (v : V) (u : Value) (Q : St → Hp → Prop), Inv X pins σ H s → RelV v u → t v σ H Q →
    wpAny (model X.prog X.w) X.A (assign target X.env u) (fun _ s' => ∃ σ' H', Inv X pins σ' H' s' ∧ Q σ' H') X.xe s
/-- several targets, one after another -/
def PGs (X : Cx) (ts : List Expr) (t : TGs) : Prop :=
  ∀ (pins : List (Addr × Obj)) (s : Shared) (σ : St) (H : Hp) (vs : List V) (us : List Value) (Q : St → Hp → Prop), Inv X pins σ H s → Vals vs us → t vs σ H Q →
    wpAny (model X.prog X.w) X.A (assignInOrder ((assignEach ts X.env).map (·.2)) us) (fun _ s' => ∃ σ' H', Inv X pins σ' H' s' ∧ Q σ' H') X.xe s
/-- o[i] = v, by values -/
abbrev TSet := V → V → V → Hp → (Hp → Prop) → Prop
def PSet (X : Cx) (t : TSet) : Prop :=
  ∀ (pins : List (Addr × Obj)) (s : Shared) (σ : St) (H : Hp) (o i v : V) (ov iv u : Value) (Q : Hp → Prop), Inv X pins σ H s → RelV o ov → RelV i iv → RelV v u → t o i v H Q →
    wpAny (model X.prog X.w) X.A (setItem ov iv u) (fun _ s' => ∃ H', Inv X pins σ H' s' ∧ Q H') X.xe s
/-- a op= b, by values -/
abbrev TIp := V → V → Hp → VK → Prop
def PIp (X : Cx) (op : Operator) (t : TIp) : Prop :=
  ∀ (pins : List (Addr × Obj)) (s : Shared) (σ : St) (H : Hp) (x y : V) (v u : Value) (Q : VK), Inv X pins σ H s → RelV x v → RelV y u → t x y H Q →
    wpAny (model X.prog X.w) X.A (inplaceOp op v u) (EP X pins σ Q) X.xe s
section
variable {X : Cx} {pos : Pos}
def gName (i : Nat) : TG := fun v σ H Q => Q (σ.set i (some v)) H
theorem pg_name {i : Nat} {x : Str} (hN : X.N.Nodup) (hi : X.N[i]? = some x) (hx : Loc X.env.scope x) (hf : X.fn x = true ∨ X.env.scope.names.lookup x = some .local := by first | exact .inl rfl | exact .inr rfl | assumption) : PG X (.Name x pos) (gName i) := by
  intro pins s σ H v u Q I r h
  exact wpAny_assign_Name (store_ok I hN hi hx r (fun s' I' => ⟨_, H, I', h⟩) hf)
def gNil : TGs := fun vs σ H Q => vs = [] ∧ Q σ H
def gCons (t : TG) (u : TGs) : TGs := fun vs σ H Q => ∃ v r, vs = v :: r ∧ t v σ H fun σ' H' => u r σ' H' Q
theorem pgs_nil : PGs X [] gNil := by
  intro pins s σ H vs us Q I r h
  obtain ⟨e, h⟩ := h
  subst e
  cases r
  exact assignInOrder_nil ⟨σ, H, I, h⟩
theorem pgs_cons {e : Expr} {es : List Expr} {t : TG} {u : TGs} (h1 : PG X e t) (h2 : PGs X es u)
    (hs : (assignEach (e :: es) X.env).map (·.2) = assign e X.env :: (assignEach es X.env).map (·.2) := by rfl) : PGs X (e :: es) (gCons t u) := by
  intro pins s σ H vs us Q I r h
  obtain ⟨v, vr, e1, h⟩ := h
  subst e1
  cases r with
  | cons r rr =>
    rw [hs]
    refine assignInOrder_cons (thn (h1 pins s σ H _ _ _ I r h) fun _ s1 ⟨σ1, H1, I1, q1⟩ => ?_)
    exact h2 pins s1 σ1 H1 _ _ Q I1 rr q1
/-- (a, b, ..) = a tuple of that length -/
def gTup (K : PySem.W.Frag) (n : Nat) (t : TGs) : TG := fun v σ H Q => ∃ a xs, v = .ref a ∧ SqT K H a xs ∧ xs.length = n ∧ t xs σ H Q
theorem pg_tup {es : List Expr} {k : Nat} {t : TGs} {n : Nat} (hc : X.calm = true) (h : PGs X es t)
    (hn : (assignEach es X.env).length = n := by rfl) (hst : (assignEach es X.env).findIdx? (·.1) = none := by rfl) : PG X (.Tuple es k pos) (gTup X.K n t) := by
  intro pins s σ H v u Q I r hw
  obtain ⟨a, xs, e1, hq, hl, hw⟩ := hw
  subst e1
  cases r
  obtain ⟨its, rv, ht, hz⟩ := I.tuple hq
  refine assign_Tuple_tuple (I.ok.hd hc) ht (by simp [hn, ← hl, rv.length]) hst fun h' hx => ?_
  have I1 : Inv X pins σ H { s with heap := h' } := I.kept (t' := s.toks) fun b o e => hx b o (Nat.ne_of_lt (Heap.lt_size e)) e
  exact h pins _ σ H xs _ Q I1 (by simpa using rv) hw
/-- o[i] = .. -/
def gSub (to ti : TE) (t : TSet) : TG := fun v σ H Q => to σ H fun o H1 => ti σ H1 fun i H2 => t o i v H2 fun H3 => Q σ H3
theorem pg_sub {o i : Expr} {to ti : TE} {t : TSet} (ho : PE X o to) (hi : PE X i ti) (hs : PSet X t)
    (ha : ∀ v, assign (.Subscript o i pos) X.env v = (do
      let ov ← holding [v] (eval o X.env)
      let iv ← holding [v, ov] (eval i X.env)
      standAt pos
      holding [v, ov, iv] (setItem ov iv v)
      release [v, ov, iv] []) := by intro _; rfl) : PG X (.Subscript o i pos) (gSub to ti t) := by
  intro pins s σ H v u Q I r h
  rw [ha]
  refine wpAny_bind (wpAny_holding (thn (ho pins s σ H _ I h) fun ov s1 ⟨x, H1, I1, r1, q1⟩ => ?_))
  refine wpAny_bind (wpAny_holding (thn (hi pins s1 σ H1 _ I1 q1) fun iv s2 ⟨y, H2, I2, r2, q2⟩ => ?_))
  refine wpAny_bind (wpAny_standAt (wpAny_bind (wpAny_holding (thn (hs pins s2 σ H2 x y v ov iv u _ I2 r1 r2 r q2) fun _ s3 ⟨H3, I3, q3⟩ => ?_))))
  exact wpAny_release ⟨σ, H3, I3, q3⟩
/-- target = value -/
def tAsg (te : TE) (g : TG) : TS := fun D σ H => te σ H fun x H1 => g x σ H1 D.nx
theorem ps_asg {tg e : Expr} {te : TE} {g : TG} (he : PE X e te) (hg : PG X tg g) (hs : swapsWithSole [tg] e pos.line X.env = pure false := by rfl) (hw : swappedStores [tg] e X.env = pure none := by rfl)
    (h1 : (assignEach [tg] X.env).map (·.2) = [assign tg X.env] := by rfl) : PS X (.Assign [tg] e pos) (tAsg te g) := by
  intro pins s σ H D I h
  refine wpAny_Assign_stores (thn (he pins s σ H _ I h) fun v s1 ⟨x, H1, I1, r1, q1⟩ => ?_) hs hw
  rw [h1]
  exact thn (hg pins s1 σ H1 x v _ I1 r1 q1) fun _ s2 q => q
/-- name = value -/
theorem ps_set {i : Nat} {x : Str} {e : Expr} {te : TE} {pos' : Pos} (hN : X.N.Nodup) (hi : X.N[i]? = some x) (hx : Loc X.env.scope x) (he : PE X e te) (hs : swapsWith e (some (.Name x pos')) pos.line X.env = pure false := by rfl) (hf : X.fn x = true ∨ X.env.scope.names.lookup x = some .local := by first | exact .inl rfl | exact .inr rfl | assumption) :
    PS X (.Assign [.Name x pos'] e pos) (tAsg te (gName i)) := by
  intro pins s σ H D I h
  refine wpAny_Assign_Name (thn (he pins s σ H _ I h) fun v s1 ⟨y, H1, I1, r1, q1⟩ => ?_) hs
  exact store_ok I1 hN hi hx r1 (fun s2 I2 => ⟨_, H1, I2, q1⟩) hf
/-- a, b = x, y with plain local names: stored from the right; the pair itself is not tracked (the opening rows as in PyProof/Rows/TupAssign.lean:23) -/
def tPar (i j : Nat) (ta : TA) : TS := fun D σ H => ta σ H fun vs H1 => ∃ v w, vs = [v, w] ∧ D.nx ((σ.set i (some v)).set j (some w)) H1
theorem ps_par {i j : Nat} {x y : Str} {a b : Expr} {ta : TA} {px py pt : Pos} {kt k2 pt2} (hc : X.calm = true) (hN : X.N.Nodup) (hi : X.N[i]? = some x) (hj : X.N[j]? = some y) (hij : i ≠ j)
    (hx : X.env.scope.names.lookup x = some .local) (hy : X.env.scope.names.lookup y = some .local) (ha : PA X [a, b] ta)
    (hw : swappedStores [.Tuple [.Name x px, .Name y py] kt pt] (.Tuple [a, b] k2 pt2) X.env = pure (some [x, y]))
    (hs : swapsWithSole [.Tuple [.Name x px, .Name y py] kt pt] (.Tuple [a, b] k2 pt2) pos.line X.env = pure false := by rfl) :
    PS X (.Assign [.Tuple [.Name x px, .Name y py] kt pt] (.Tuple [a, b] k2 pt2) pos) (tPar i j ta) := by
  intro pins s σ H D I h
  rw [exec_Assign_arm]
  refine wpAny_bind (wpAny_standAt ?_)
  rw [hs]
  refine wpAny_bind (wpAny_pure ?_)
  rw [if_neg (by decide)]
  refine wpAny_bind (Tuple_ (thn (ha _ pins s σ H _ I h) fun us s1 ⟨vs, H1, I1, r1, q1⟩ => ?_))
  obtain ⟨v, w, e1, q1⟩ := q1
  subst e1
  obtain ⟨u1, u2, rfl, rv, rw'⟩ : ∃ u1 u2, us = [u1, u2] ∧ RelV v u1 ∧ RelV w u2 := by
    cases r1 with
    | cons p q =>
      cases q with
      | cons p' q' =>
        cases q'
        exact ⟨_, _, rfl, p, p'⟩
  refine wpAny_newObj_type ?_ (by show 2 ≤ sizeLine; decide)
  have I2 : Inv X pins σ H1 { s1 with heap := s1.heap.push { cls := .type "tuple", data := .seq [u1, u2].toArray } } := I1.kept (t' := s1.toks) fun b o e => Heap.get?_push_of_some _ e
  rw [hw]
  refine wpAny_bind (wpAny_pure ?_)
  show wpAny (model X.prog X.w) X.A (do rule "assign.swapped-stores"; let items ← unpackItems (.ref s1.heap.objs.size) 2 none; assignInOrder [fun v => bindName X.env y v, fun v => bindName X.env x v] items.reverse; pure Flow.next) _ _ _
  refine wpAny_bind (wpAny_rule (wpAny_bind (unpackItems_tuple (items := #[u1, u2]) (I.ok.hd hc) (IsTup.new s1.heap _) fun h' hx' => ?_)))
  have I3 := I2.kept (h' := h') (t' := s1.toks) fun b o e => hx' b o (Nat.ne_of_lt (Heap.lt_size e)) e
  show wpAny _ _ (assignInOrder [fun v => bindName X.env y v, fun v => bindName X.env x v] [u2, u1] >>= fun _ => pure Flow.next) _ _ _
  refine wpAny_bind (assignInOrder_cons (wpAny_bindName (store_ok I3 hN hj (.inl hy) rw' (fun s2 I4 => ?_) (.inr hy))))
  refine assignInOrder_cons (wpAny_bindName (store_ok I4 hN hi (.inl hx) rv (fun s3 I5 => assignInOrder_nil (wpAny_pure ?_)) (.inr hx)))
  rw [List.set_comm _ _ (Ne.symm hij)] at I5
  exact ⟨_, H1, I5, q1⟩
/-- name op= e -/
def tAug (i : Nat) (te : TE) (ti : TIp) : TS := fun D σ H => ∃ x, σ[i]? = some (some x) ∧ te σ H fun y H1 => ti x y H1 fun z H2 => D.nx (σ.set i (some z)) H2
theorem ps_aug {i : Nat} {x : Str} {e : Expr} {te : TE} {op : Operator} {ti : TIp} {pos' : Pos} (hN : X.N.Nodup) (hi : X.N[i]? = some x) (hx : Loc X.env.scope x) (he : PE X e te) (ho : PIp X op ti) (hf : X.fn x = true ∨ X.env.scope.names.lookup x = some .local := by first | exact .inl rfl | exact .inr rfl | assumption) :
    PS X (.AugAssign (.Name x pos') op e pos) (tAug i te ti) := by
  intro pins s σ H D I h
  obtain ⟨v, e1, h⟩ := h
  obtain ⟨m, hn, hl⟩ := I.loc
  have vis : Vis X.env.scope x := by rcases hx with k | k; exact .inl k; exact .inr (.inl k)
  obtain ⟨u, r, l⟩ := hl i x v hi e1 vis
  refine wpAny_AugAssign_Name ?_
  have go : wpAny (model X.prog X.w) X.A (eval e X.env) (fun w s₂ => wpAny (model X.prog X.w) X.A (inplaceOp op u w) (fun r s₃ => wpAny (model X.prog X.w) X.A (storeName X.env x r) (fun _ => SP X pins D .next) X.xe s₃) X.xe s₂) X.xe s := by
    refine thn (he pins s σ H _ I h) fun w s1 ⟨y, H1, I1, r1, q1⟩ => ?_
    refine thn (ho pins s1 σ H1 v y u w _ I1 r r1 q1) fun z s2 ⟨zv, H2, I2, r2, q2⟩ => ?_
    exact store_ok I2 hN hi hx r2 (fun s3 I3 => ⟨_, H2, I3, q2⟩) hf
  rcases l with ⟨hk, hm⟩ | ⟨hk, c, hc, hcell⟩
  · exact wpAny_loadName_local I.ok.kind hk hn hm go
  · rcases hk with hk | hk
    · exact wpAny_loadName_cell I.ok.kind hk hc hcell go
    · rcases hx with k | k
      · have : X.env.scope.names.lookup x = some .free := hk
        rw [k] at this; cases this
      · have : X.env.scope.names.lookup x = some .free := hk
        rw [k] at this; cases this
/-- o[i] op= e -/
def tAugS (to ti te : TE) (tget : V → V → Hp → VK → Prop) (tip : TIp) (tset : TSet) : TS := fun D σ H => to σ H fun o H1 => ti σ H1 fun i H2 => tget o i H2 fun x H3 => te σ H3 fun y H4 => tip x y H4 fun z H5 => tset o i z H5 fun H6 => D.nx σ H6
/-- o[i], by values -/
def PGet (X : Cx) (t : V → V → Hp → VK → Prop) : Prop :=
  ∀ (pins : List (Addr × Obj)) (s : Shared) (σ : St) (H : Hp) (o i : V) (ov iv : Value) (Q : VK), Inv X pins σ H s → RelV o ov → RelV i iv → t o i H Q →
    wpAny (model X.prog X.w) X.A (getItem ov iv) (EP X pins σ Q) X.xe s
theorem ps_augS {o i e : Expr} {to ti te : TE} {tget : V → V → Hp → VK → Prop} {tip : TIp} {tset : TSet} {op : Operator} {tpos : Pos} (ho : PE X o to) (hi : PE X i ti) (hg : PGet X tget) (he : PE X e te) (hp : PIp X op tip) (hs : PSet X tset)
    (ha : ∀ ov iv new, augStore i ov iv new = (do holding [new, ov, iv] (setItem ov iv new); release [new, ov, iv] []; pure .next) := by intros; rfl) : PS X (.AugAssign (.Subscript o i tpos) op e pos) (tAugS to ti te tget tip tset) := by
  intro pins s σ H D I h
  refine wpAny_AugAssign_SubscriptAny (thn (ho pins s σ H _ I h) fun ov s1 ⟨x1, H1, I1, r1, q1⟩ => ?_) ha
  refine thn (hi pins s1 σ H1 _ I1 q1) fun iv s2 ⟨x2, H2, I2, r2, q2⟩ => ?_
  refine thn (hg pins s2 σ H2 x1 x2 ov iv _ I2 r1 r2 q2) fun old s3 ⟨x3, H3, I3, r3, q3⟩ => ?_
  refine thn (he pins s3 σ H3 _ I3 q3) fun v s4 ⟨x4, H4, I4, r4, q4⟩ => ?_
  refine thn (hp pins s4 σ H4 x3 x4 old v _ I4 r3 r4 q4) fun new s5 ⟨x5, H5, I5, r5, q5⟩ => ?_
  exact thn (hs pins s5 σ H5 x1 x2 x5 ov iv new _ I5 r1 r2 r5 q5) fun _ s6 ⟨H6, I6, q6⟩ => ⟨σ, H6, I6, q6⟩
/-- ints -/
def ipI (f : Int → Int → Int) : TIp := fun x y H Q => ∃ i j, x = .int i ∧ y = .int j ∧ Q (.int (f i j)) H
theorem ip_add : PIp X .Add (ipI fun i j => i + j) := by
  intro pins s σ H x y v u Q I r1 r2 h
  obtain ⟨i, j, e1, e2, q⟩ := h
  subst e1; subst e2
  obtain ⟨t, rfl⟩ := r1
  obtain ⟨t', rfl⟩ := r2
  exact iadd_int ⟨.int _, H, I.tok _, ⟨_, rfl⟩, q⟩
theorem ip_sub : PIp X .Sub (ipI fun i j => i - j) := by
  intro pins s σ H x y v u Q I r1 r2 h
  obtain ⟨i, j, e1, e2, q⟩ := h
  subst e1; subst e2
  obtain ⟨t, rfl⟩ := r1
  obtain ⟨t', rfl⟩ := r2
  exact isub_int ⟨.int _, H, I.tok _, ⟨_, rfl⟩, q⟩
end

/-! ### while -/
section
variable {X : Cx} {pos : Pos}
/-- the invariant W with its measure -/
def tWhile (c : TT) (tb : TS) : TS := fun D σ H => ∃ W : Nat → St → Hp → Prop, (∃ m, W m σ H) ∧ ∀ m σ H, W m σ H →
  c σ H fun b H1 => if b = true then ∃ N : St → Hp → Prop, (∀ σ' H', N σ' H' → ∃ m', m' < m ∧ W m' σ' H') ∧ tb { D with nx := N, ct := N, bk := D.nx } σ H1 else D.nx σ H1
theorem ps_while {c : Expr} {body : List Stmt} {tc : TT} {tb : TS} (hp : PassesOwn (model X.prog X.w) X.A X.env X.xe) (hc : PT X c tc) (hb : PSs X body tb) : PS X (.While c body [] pos) (tWhile tc tb) := by
  intro pins s σ H D I h
  obtain ⟨W, ⟨m0, w0⟩, turn⟩ := h
  refine wpAny_While (codeAny_whileLoop (fun n s' => ∃ σ' H', Inv X pins σ' H' s' ∧ W n σ' H') ?_ m0 ⟨σ, H, I, w0⟩)
  rintro n s1 ⟨σ1, H1, I1, w1⟩
  refine wpAny_passesOwn hp (thn (hc pins s1 σ1 H1 _ I1 (turn n σ1 H1 w1)) fun b s2 ⟨H2, I2, q2⟩ => ?_)
  cases b with
  | true =>
    obtain ⟨N, hN, q2⟩ := q2
    rw [if_pos rfl]
    refine wpAny_passesOwn hp (thn (hb pins s2 σ1 H2 _ I2 q2) fun f s3 q3 => ?_)
    cases f with
    | next =>
      obtain ⟨σ3, H3, I3, n3⟩ := q3
      obtain ⟨m', hm, w3⟩ := hN σ3 H3 n3
      exact ⟨m', hm, σ3, H3, I3, w3⟩
    | cont =>
      obtain ⟨σ3, H3, I3, n3⟩ := q3
      obtain ⟨m', hm, w3⟩ := hN σ3 H3 n3
      exact ⟨m', hm, σ3, H3, I3, w3⟩
    | brk => exact q3
    | ret v => exact q3
  | false =>
    rw [if_neg Bool.false_ne_true]
    exact wpAny_execs_nil ⟨σ1, H2, I2, q2⟩
end

/-! ### what a loop or a comprehension walks -/
/-- at turn i: it yields x (the heap may grow), or it stops -/
structure It where
  go : Nat → Hp → Prop
  yld : Nat → Hp → V → Hp → Prop
  stop : Nat → Hp → Prop
/-- the iterator's own objects may turn: they are not the frame's, not pinned, younger than the entry (or a comprehension's own) -/
def FpOk (X : Cx) (pins : List (Addr × Obj)) (H : Hp) (b : Addr) : Prop :=
  H b = none ∧ b ≠ X.env.locals ∧ b ∉ X.fs ∧ (b ∈ X.ex ∨ X.s₀.heap.objs.size ≤ b) ∧ (∀ x c, X.env.cells.lookup x = some c → c ≠ b) ∧ ∀ p ∈ X.pn ++ pins, p.1 ≠ b
theorem Inv.fpOk {X : Cx} {pins : List (Addr × Obj)} {σ : St} {H H' : Hp} {s : Shared} {b : Addr} (I : Inv X pins σ H s) (hb : s.heap.objs.size ≤ b) (hn : H' b = none) : FpOk X pins H' b := by
  refine ⟨hn, Nat.ne_of_gt (Nat.lt_of_lt_of_le I.lt hb), I.nofs hb, .inr (Nat.le_trans I.sz hb), fun x c e z => ?_, fun p hp z => ?_⟩
  · obtain ⟨v, q⟩ := I.cell x c e
    exact absurd (Nat.lt_of_lt_of_le q.lt (by rw [z]; exact hb)) (Nat.lt_irrefl _)
  · exact absurd (Nat.lt_of_lt_of_le (Heap.lt_size (I.pin p hp).1) (by rw [z]; exact hb)) (Nat.lt_irrefl _)
structure Turn (P : Program) (w : World) (K : PySem.W.Frag) (tg : Expr) (J : It) (fp : List Addr) (it : Addr) (tn : Nat → Heap → Prop) : Prop where
  mem : it ∈ fp
  obj : ∀ i h, tn i h → ∀ b ∈ fp, ∃ o, h.get? b = some o ∧ ∀ v, o.data ≠ .cell v
  keep : ∀ i h h', tn i h → (∀ b ∈ fp, ∀ o, h.get? b = some o → h'.get? b = some o) → tn i h'
  item : ∀ (X : Cx), X.prog = P → X.w = w → X.K = K → X.calm = true → ∀ (i : Nat) (pins : List (Addr × Obj)) (s : Shared) (σ : St) (H : Hp) (E : Value → Shared → Prop), Inv X pins σ H s → (∀ b ∈ fp, FpOk X pins H b) → tn i s.heap → J.go i H →
    wpAny (model P w) X.A (pyNext (.ref it)) (fun r s1 => ∃ u, r = some u ∧
      wpAny (model P w) X.A (letOwnedTupleGo tg (.ref it) u) (fun _ s2 => ∃ x H', Inv X pins σ H' s2 ∧ RelV x u ∧ J.yld i H x H' ∧ tn (i + 1) s2.heap ∧ ∀ b ∈ fp, H' b = none) E s1) E s
  done : ∀ (X : Cx), X.prog = P → X.w = w → X.K = K → X.calm = true → ∀ (i : Nat) (pins : List (Addr × Obj)) (s : Shared) (σ : St) (H : Hp) (E : Value → Shared → Prop), Inv X pins σ H s → (∀ b ∈ fp, FpOk X pins H b) → tn i s.heap → J.stop i H →
    wpAny (model P w) X.A (pyNext (.ref it)) (fun r s1 => r = none ∧ Inv X pins σ H s1) E s
  self : ∀ (A : Around) (i : Nat) (s : Shared) (Q : Value → Shared → Prop) (E : Value → Shared → Prop), tn i s.heap → Q (.ref it) s → wpAny (model P w) A (pyIter (.ref it)) Q E s
abbrev TI := St → Hp → (It → Hp → Prop) → Prop
/-- an iterator has come -/
def PIE (X : Cx) (pins : List (Addr × Obj)) (σ : St) (tg : Expr) (R : It → Hp → Prop) (itv : Value) (s2 : Shared) : Prop :=
  ∃ (it : Addr) (fp : List Addr) (tn : Nat → Heap → Prop) (J : It) (H' : Hp), itv = .ref it ∧ Inv X pins σ H' s2 ∧ Turn X.prog X.w X.K tg J fp it tn ∧ tn 0 s2.heap ∧ (∀ b ∈ fp, FpOk X pins H' b) ∧ R J H'
def PI (X : Cx) (tg iter : Expr) (wi : TI) : Prop :=
  ∀ (pins : List (Addr × Obj)) (s : Shared) (σ : St) (H : Hp) (R : It → Hp → Prop), Inv X pins σ H s → wi σ H R →
    wpAny (model X.prog X.w) X.A (eval iter X.env) (fun v s1 => wpAny (model X.prog X.w) X.A (pyIter v) (PIE X pins σ tg R) X.xe s1) X.xe s

/-- the step ahead of the store is nothing for an iterator that keeps no tuple -/
theorem go_of {M : Model} {A : Around} {E : Value → Shared → Prop} {s : Shared} {tg : Expr} {it : Addr} {u : Value} {o : Obj} {n : String} {vs : Array Value} {Q : Unit → Shared → Prop} (ho : s.heap.get? it = some o) (hc : o.cls = .type n) (hd : o.data = .fields vs)
    (hn : ["enumerate", "zip", "dict_itemiterator", "dict_reverseitemiterator", "odict_iterator", "itertools.zip_longest", "itertools.pairwise"].contains n = false) (hQ : Q () s) : wpAny M A (letOwnedTupleGo tg (.ref it) u) Q E s := by
  unfold letOwnedTupleGo
  cases tg <;> first
    | exact wpAny_pure hQ
    | (cases u <;> first
        | exact wpAny_pure hQ
        | (refine wpAny_bind (wpAny_load ho ?_)
           rw [hc, hd]
           show wpAny M A (if (["enumerate", "zip", "dict_itemiterator", "dict_reverseitemiterator", "odict_iterator", "itertools.zip_longest", "itertools.pairwise"].contains n && vs[0]? == some (rawInt _)) = true then _ else _) Q E s
           rw [if_neg (by intro h; rw [hn, Bool.false_and] at h; cases h)]
           exact wpAny_pure hQ))

/-- the list at a, as it stands at each turn (a loop may append to it) -/
def Itl (K : PySem.W.Frag) (a : Addr) : It :=
  ⟨fun i H => ∃ xs x, SqL K H a xs ∧ xs[i]? = some x, fun i H x H' => H' = H ∧ ∀ xs, SqL K H a xs → xs[i]? = some x, fun i H => ∃ xs, SqL K H a xs ∧ xs.length ≤ i⟩
def Itt (K : PySem.W.Frag) (a : Addr) : It :=
  ⟨fun i H => ∃ xs x, SqT K H a xs ∧ xs[i]? = some x, fun i H x H' => H' = H ∧ ∀ xs, SqT K H a xs → xs[i]? = some x, fun i H => ∃ xs, SqT K H a xs ∧ xs.length ≤ i⟩
/-- lo, lo + 1, .. (n of them) -/
def Itr (lo : Int) (n : Nat) : It := ⟨fun i _ => i < n, fun i H x H' => H' = H ∧ x = .int (lo + i), fun i _ => n ≤ i⟩
theorem turn_list {P : Program} {w : World} {K : PySem.W.Frag} {tg : Expr} (a it : Addr) : Turn P w K tg (Itl K a) [it] it (fun i h => h.IsListIter it a i) where
  mem := by simp
  obj := fun i h st b hb => by
    have e : b = it := by simpa using hb
    subst e
    obtain ⟨o, e, c, d⟩ := st
    exact ⟨o, e, fun v z => by rw [d] at z; cases z⟩
  keep := fun i h h' st k => st.at fun o e => k it (by simp) o e
  item := by
    intro X hP hw hK hc i pins s σ H E I hf st hg
    subst hP hw hK
    obtain ⟨xs, x, hq, hx⟩ := hg
    obtain ⟨its, rv, p, hz⟩ := I.list hq
    obtain ⟨u, hu, ru⟩ := rv.get hx
    obtain ⟨f0, f1, f2, f3, f4, f5⟩ := hf it (by simp)
    refine wpAny_pyNext_list_item st p.isList (x := u) (by simpa using hu) fun h' st' sb => ?_
    have I1 : Inv X pins σ H { s with heap := h' } := I.turned (t' := s.toks) (fun b o hb e => (sb.2 b hb).trans e) f0 f1 f3 f4 f5
    obtain ⟨o, e, c, d⟩ := id st'
    exact ⟨u, rfl, go_of (s := { s with heap := h' }) e c d (by decide) ⟨x, H, I1, ru, ⟨rfl, fun ys hy => by rw [I.list_inj hy hq]; exact hx⟩, st', fun b hb => (hf b hb).1⟩⟩
  done := by
    intro X hP hw hK hc i pins s σ H E I hf st hg
    subst hP hw hK
    obtain ⟨xs, hq, hx⟩ := hg
    obtain ⟨its, rv, p, hz⟩ := I.list hq
    obtain ⟨f0, f1, f2, f3, f4, f5⟩ := hf it (by simp)
    have hl := rv.length
    exact wpAny_pyNext_list_end (I.ok.hd hc) st p.isList (by simp; omega) fun h' eb => ⟨rfl, I.turned (t' := s.toks) (fun b o hb e => eb b o hb e) f0 f1 f3 f4 f5⟩
  self := fun _ _ _ _ _ st h => wpAny_pyIter_listiter st h
theorem turn_tuple {P : Program} {w : World} {K : PySem.W.Frag} {tg : Expr} (a it : Addr) : Turn P w K tg (Itt K a) [it] it (fun i h => h.IsTupleIter it a i) where
  mem := by simp
  obj := fun i h st b hb => by
    have e : b = it := by simpa using hb
    subst e
    obtain ⟨o, e, c, d⟩ := st
    exact ⟨o, e, fun v z => by rw [d] at z; cases z⟩
  keep := fun i h h' st k => st.at fun o e => k it (by simp) o e
  item := by
    intro X hP hw hK hc i pins s σ H E I hf st hg
    subst hP hw hK
    obtain ⟨xs, x, hq, hx⟩ := hg
    obtain ⟨its, rv, p, hz⟩ := I.tuple hq
    obtain ⟨u, hu, ru⟩ := rv.get hx
    obtain ⟨f0, f1, f2, f3, f4, f5⟩ := hf it (by simp)
    refine wpAny_pyNext_tuple_item st (show s.heap.IsTuple a its.toArray from p) (x := u) (by simpa using hu) fun h' st' sb => ?_
    have I1 : Inv X pins σ H { s with heap := h' } := I.turned (t' := s.toks) (fun b o hb e => (sb.2 b hb).trans e) f0 f1 f3 f4 f5
    obtain ⟨o, e, c, d⟩ := id st'
    exact ⟨u, rfl, go_of (s := { s with heap := h' }) e c d (by decide) ⟨x, H, I1, ru, ⟨rfl, fun ys hy => by rw [I.tuple_inj hy hq]; exact hx⟩, st', fun b hb => (hf b hb).1⟩⟩
  done := by
    intro X hP hw hK hc i pins s σ H E I hf st hg
    subst hP hw hK
    obtain ⟨xs, hq, hx⟩ := hg
    obtain ⟨its, rv, p, hz⟩ := I.tuple hq
    obtain ⟨f0, f1, f2, f3, f4, f5⟩ := hf it (by simp)
    have hl := rv.length
    exact wpAny_pyNext_tuple_end (I.ok.hd hc) st (show s.heap.IsTuple a its.toArray from p) (by simp; omega) fun h' eb => ⟨rfl, I.turned (t' := s.toks) (fun b o hb e => eb b o hb e) f0 f1 f3 f4 f5⟩
  self := fun _ _ _ _ _ st h => wpAny_pyIter_tupleiter st h
theorem turn_range {P : Program} {w : World} {K : PySem.W.Frag} {tg : Expr} (it : Addr) (lo : Int) (n : Nat) : Turn P w K tg (Itr lo n) [it] it (fun i h => IsRangeIter h it (lo + (i : Nat) * 1) ((n : Int) - (i : Nat)) 1) where
  mem := by simp
  obj := fun i h st b hb => by
    have e : b = it := by simpa using hb
    subst e
    exact ⟨_, st, fun v z => by
      have z' : Data.fields _ = Data.cell v := z
      cases z'⟩
  keep := fun i h h' st k => k it (by simp) _ st
  item := by
    intro X hP hw hK hc i pins s σ H E I hf st hg
    subst hP hw hK
    obtain ⟨f0, f1, f2, f3, f4, f5⟩ := hf it (by simp)
    have W := Walks.range (prog := X.prog) (w := X.w) (I.ok.hd hc) it lo 1 n
    refine W.item i s _ _ hg st fun v h' tk hv st' kk => ?_
    obtain ⟨t, rfl⟩ := hv
    have I1 : Inv X pins σ H { s with heap := h', toks := tk } := I.turned (fun b o hb e => kk b o (by simpa using hb) e) f0 f1 f3 f4 f5
    refine ⟨_, rfl, go_of (s := { s with heap := h', toks := tk }) (n := "range_iterator") st' rfl rfl (by decide) ⟨.int (lo + i), H, I1, ⟨t, ?_⟩, ⟨rfl, rfl⟩, st', fun b hb => (hf b hb).1⟩⟩
    rw [Int.mul_one]
  done := by
    intro X hP hw hK hc i pins s σ H E I hf st hg
    subst hP hw hK
    obtain ⟨f0, f1, f2, f3, f4, f5⟩ := hf it (by simp)
    exact wpAny_pyNext_range_end (I.ok.hd hc) st (by have : n ≤ i := hg; omega) fun h' eb => ⟨rfl, I.turned (t' := s.toks) (fun b o hb e => eb b o hb e) f0 f1 f3 f4 f5⟩
  self := fun _ _ _ _ _ st h => wpAny_pyIter_rangeiter st h
end L2

namespace L2
open PySem PySem.Spec PyProof.Rows
section
variable {X : Cx} {tg : Expr}
def iList (K : PySem.W.Frag) (tl : TE) : TI := fun σ H R => tl σ H fun x H1 => ∃ a, x = .ref a ∧ (∃ xs, SqL K H1 a xs) ∧ R (Itl K a) H1
def iTup (K : PySem.W.Frag) (tl : TE) : TI := fun σ H R => tl σ H fun x H1 => ∃ a, x = .ref a ∧ (∃ xs, SqT K H1 a xs) ∧ R (Itt K a) H1
theorem pi_list {l : Expr} {tl : TE} (hl : PE X l tl) : PI X tg l (iList X.K tl) := by
  intro pins s σ H R I h
  refine thn (hl pins s σ H _ I h) fun v s1 ⟨x, H1, I1, r1, q1⟩ => ?_
  obtain ⟨a, e, ⟨xs, hq⟩, q⟩ := q1
  subst e
  cases r1
  obtain ⟨its, rv, p, hz⟩ := I1.list hq
  refine wpAny_pyIter_list p.isList ?_
  refine ⟨s1.heap.objs.size, [s1.heap.objs.size], _, _, H1, rfl, I1.kept (t' := s1.toks) fun b o e => Heap.get?_push_of_some _ e, turn_list a _, ⟨_, Heap.get?_push_size _ rfl, rfl, rfl⟩, fun b hb => ?_, q⟩
  have e : b = s1.heap.objs.size := by simpa using hb
  subst e
  exact I1.fpOk (Nat.le_refl _) (I1.hok.fresh (Nat.le_refl _))
theorem pi_tup {l : Expr} {tl : TE} (hl : PE X l tl) : PI X tg l (iTup X.K tl) := by
  intro pins s σ H R I h
  refine thn (hl pins s σ H _ I h) fun v s1 ⟨x, H1, I1, r1, q1⟩ => ?_
  obtain ⟨a, e, ⟨xs, hq⟩, q⟩ := q1
  subst e
  cases r1
  obtain ⟨its, rv, p, hz⟩ := I1.tuple hq
  refine wpAny_pyIter_tuple (show s1.heap.IsTuple a its.toArray from p) ?_
  refine ⟨s1.heap.objs.size, [s1.heap.objs.size], _, _, H1, rfl, I1.kept (t' := s1.toks) fun b o e => Heap.get?_push_of_some _ e, turn_tuple a _, ⟨_, Heap.get?_push_size _ rfl, rfl, rfl⟩, fun b hb => ?_, q⟩
  have e : b = s1.heap.objs.size := by simpa using hb
  subst e
  exact I1.fpOk (Nat.le_refl _) (I1.hok.fresh (Nat.le_refl _))
/-- a range object just made, walked -/
theorem range_it {pins : List (Addr × Obj)} {σ : St} {H : Hp} {s : Shared} {R : It → Hp → Prop} {E : Value → Shared → Prop} {lo hi : Int} {t u v : Tok} {tk : Nat} (I : Inv X pins σ H s) (h1 : -(2 ^ 62) ≤ lo) (h2 : lo < 2 ^ 62) (h3 : -(2 ^ 62) ≤ hi) (h4 : hi < 2 ^ 62)
    (q : R (Itr lo (hi - lo).toNat) H) : wpAny (model X.prog X.w) X.A (pyIter (.ref s.heap.objs.size)) (PIE X pins σ tg R) E { s with heap := s.heap.push { cls := .type "range", data := .fields #[.int lo t, .int hi u, .int 1 v] }, toks := tk } := by
  refine wpAny_pyIter_range (IsRange.new ..) (small_one h1 h2 h3 h4) ?_
  have I1 : Inv X pins σ H { s with heap := s.heap.push { cls := .type "range", data := .fields #[.int lo t, .int hi u, .int 1 v] }, toks := tk } := I.kept fun b o e => Heap.get?_push_of_some _ e
  refine ⟨(s.heap.push { cls := .type "range", data := .fields #[.int lo t, .int hi u, .int 1 v] }).objs.size, [(s.heap.push { cls := .type "range", data := .fields #[.int lo t, .int hi u, .int 1 v] }).objs.size], _, _, H, rfl,
    I1.kept (t' := tk) fun b o e => Heap.get?_push_of_some _ e, turn_range _ lo (hi - lo).toNat, ?_, fun b hb => ?_, q⟩
  · have e1 : lo + ((0 : Nat) : Int) * 1 = lo := by simp
    have e2 : (((hi - lo).toNat : Nat) : Int) - ((0 : Nat) : Int) = Builtin.Range.rangeSize lo hi 1 := by rw [rangeSize_one]; split <;> omega
    show IsRangeIter _ _ (lo + ((0 : Nat) : Int) * 1) ((((hi - lo).toNat : Nat) : Int) - ((0 : Nat) : Int)) 1
    rw [e1, e2]
    exact Heap.get?_push_size _ rfl
  · have e : b = (s.heap.push { cls := .type "range", data := .fields #[.int lo t, .int hi u, .int 1 v] }).objs.size := by simpa using hb
    subst e
    exact I1.fpOk (Nat.le_refl _) (I1.hok.fresh (Nat.le_refl _))
def iRng1 (ta : TA) : TI := fun σ H R => ta σ H fun vs H1 => ∃ j : Int, vs = [.int j] ∧ -(2 ^ 62) ≤ j ∧ j < 2 ^ 62 ∧ R (Itr 0 j.toNat) H1
def iRng2 (ta : TA) : TI := fun σ H R => ta σ H fun vs H1 => ∃ i j : Int, vs = [.int i, .int j] ∧ (-(2 ^ 62) ≤ i ∧ i < 2 ^ 62 ∧ -(2 ^ 62) ≤ j ∧ j < 2 ^ 62) ∧ R (Itr i (j - i).toNat) H1
theorem pi_range1 {a : Expr} {ta : TA} {p pos : Pos} (hg : Gl X "range") (hm : X.mg "range" = none) (ha : PA X [a] ta) (hs : starEach [a] X.env = [(false, eval a X.env)] := by rfl) : PI X tg (.Call (.Name "range" p) [a] [] pos) (iRng1 ta) := by
  intro pins s σ H R I h
  refine Call_ (ld_blt I hg hm boot_range (PyProof.Rows.callWith_type1 (thn (ha pos pins s σ H _ I h) fun us s1 ⟨vs, H1, I1, r1, q1⟩ => ?_) hs rfl))
  obtain ⟨j, e, q1, q2, q⟩ := q1
  subst e
  cases r1 with
  | cons r rr =>
    cases rr
    obtain ⟨t, rfl⟩ := r
    exact call_range_1 (range_it I1 (by omega) (by omega) q1 q2 (by simpa using q))
theorem pi_range2 {a b : Expr} {ta : TA} {p pos : Pos} (hg : Gl X "range") (hm : X.mg "range" = none) (ha : PA X [a, b] ta) (hs : starEach [a, b] X.env = [(false, eval a X.env), (false, eval b X.env)] := by rfl) (hs2 : starEach [b] X.env = [(false, eval b X.env)] := by rfl) :
    PI X tg (.Call (.Name "range" p) [a, b] [] pos) (iRng2 ta) := by
  intro pins s σ H R I h
  refine Call_ (ld_blt I hg hm boot_range (PyProof.Rows.callWith_type1 (thn (ha pos pins s σ H _ I h) fun us s1 ⟨vs, H1, I1, r1, q1⟩ => ?_) (by rw [hs, hs2]) (by rw [hs2]; rfl)))
  obtain ⟨i, j, e, ⟨q1, q2, q3, q4⟩, q⟩ := q1
  subst e
  cases r1 with
  | cons r rr =>
    cases rr with
    | cons r' rr =>
      cases rr
      obtain ⟨t, rfl⟩ := r
      obtain ⟨t', rfl⟩ := r'
      exact call_range_2 (range_it I1 q1 q2 q3 q4 q)

/-! ### for -/
/-- W: the invariant by the turn and a measure; N: what the body is to reach -/
def tFor (wi : TI) (g : TG) (tb : TS) : TS := fun D σ H => wi σ H fun J H1 => ∃ W : Nat → Nat → St → Hp → Prop, (∃ m, W 0 m σ H1) ∧ ∀ i m σ H, W i m σ H →
  (J.stop i H ∧ D.nx σ H) ∨ (J.go i H ∧ ∃ N : St → Hp → Prop, (∀ σ' H', N σ' H' → ∃ m', m' < m ∧ W (i + 1) m' σ' H') ∧ ∀ x H', J.yld i H x H' → g x σ H' fun σ2 H2 => tb { D with nx := N, ct := N, bk := D.nx } σ2 H2)
/-- the records at fp as they stand -/
def pinsAt (fp : List Addr) (h : Heap) : List (Addr × Obj) := fp.filterMap fun b => (h.get? b).map fun o => (b, o)
theorem mem_pinsAt {fp : List Addr} {h : Heap} {b : Addr} {o : Obj} (hb : b ∈ fp) (e : h.get? b = some o) : (b, o) ∈ pinsAt fp h := List.mem_filterMap.mpr ⟨b, hb, by rw [e]; rfl⟩
theorem of_pinsAt {fp : List Addr} {h : Heap} {p : Addr × Obj} (hp : p ∈ pinsAt fp h) : p.1 ∈ fp ∧ h.get? p.1 = some p.2 := by
  obtain ⟨b, hb, e⟩ := List.mem_filterMap.mp hp
  cases q : h.get? b with
  | none => rw [q] at e; cases e
  | some o =>
    rw [q] at e
    have e' : (b, o) = p := Option.some.inj e
    subst e'
    exact ⟨hb, q⟩
theorem Inv.pinned {pins : List (Addr × Obj)} {σ : St} {H : Hp} {s : Shared} {fp : List Addr} (I : Inv X pins σ H s) (hf : ∀ b ∈ fp, FpOk X pins H b) (ho : ∀ b ∈ fp, ∃ o, s.heap.get? b = some o ∧ ∀ v, o.data ≠ .cell v) : Inv X (pins ++ pinsAt fp s.heap) σ H s :=
  I.pins_of fun p hp => (List.mem_append.mp hp).elim (fun z => I.pin p (List.mem_append_right _ z)) fun z => by
    obtain ⟨hb, e⟩ := of_pinsAt z
    obtain ⟨f0, f1, f2, _⟩ := hf p.1 hb
    obtain ⟨o, e', d⟩ := ho p.1 hb
    rw [e] at e'; cases e'
    exact ⟨e, f0, f1, f2, d⟩
theorem Inv.unpinned {pins pl : List (Addr × Obj)} {σ : St} {H : Hp} {s : Shared} (I : Inv X (pins ++ pl) σ H s) : Inv X pins σ H s := I.pins_of fun p hp => I.pin p (List.mem_append_right _ (List.mem_append_left _ hp))
theorem ps_for {iter : Expr} {body : List Stmt} {wi : TI} {g : TG} {tb : TS} {pos : Pos} (hp : PassesOwn (model X.prog X.w) X.A X.env X.xe) (hc : X.calm = true) (hi : PI X tg iter wi) (hg : PG X tg g) (hb : PSs X body tb)
    (hs : ∀ x, foldedSetIterable iter X.env x = pure x := by intro _; rfl) : PS X (.For tg iter body [] pos) (tFor wi g tb) := by
  intro pins s σ H D I h
  refine wpAny_For (thn (hi pins s σ H _ I h) fun v s1 h1 => thn h1 fun itv s2 h2 => ?_) hs
  obtain ⟨it, fp, tn, J, H2, e, I2, T, st2, f2, W, ⟨m0, w0⟩, turn⟩ := h2
  subst e
  -- what stays true of the iterator's objects through the loop
  have stat : ∀ {H' : Hp}, (∀ b ∈ fp, H' b = none) → ∀ b ∈ fp, FpOk X pins H' b := fun hn b hb => ⟨hn b hb, (f2 b hb).2⟩
  refine codeAny_forLoop_any (fun n s' => ∃ i σ' H', Inv X pins σ' H' s' ∧ tn i s'.heap ∧ (∀ b ∈ fp, H' b = none) ∧ W i n σ' H') ?_ m0 ⟨0, σ, H2, I2, st2, fun b hb => (f2 b hb).1, w0⟩
  rintro n s3 ⟨i, σ3, H3, I3, st3, fr3, w3⟩
  rcases turn i n σ3 H3 w3 with ⟨stop, qn⟩ | ⟨go, N, hN, step⟩
  · refine wpAny_passesOwn hp (thn (T.done X rfl rfl rfl hc i pins s3 σ3 H3 X.xe I3 (stat fr3) st3 stop) fun r s4 ⟨hr, I4⟩ => ?_)
    subst hr
    exact wpAny_execs_nil ⟨σ3, H3, I4, qn⟩
  · refine wpAny_passesOwn hp (thn (T.item X rfl rfl rfl hc i pins s3 σ3 H3 X.xe I3 (stat fr3) st3 go) fun r s4 ⟨u, hr, h4⟩ => ?_)
    subst hr
    refine wpAny_passesOwn hp (thn h4 fun _ s5 ⟨x, H5, I5, r5, y5, st5, fr5⟩ => ?_)
    have I5' := I5.pinned (stat fr5) (T.obj _ _ st5)
    refine wpAny_passesOwn hp (thn (hg _ s5 σ3 H5 x u _ I5' r5 (step x H5 y5)) fun _ s6 ⟨σ6, H6, I6, q6⟩ => ?_)
    refine wpAny_passesOwn hp (thn (hb _ s6 σ6 H6 _ I6 q6) fun f s7 q7 => ?_)
    have again : ∀ {σ7 : St} {H7 : Hp}, Inv X (pins ++ pinsAt fp s5.heap) σ7 H7 s7 → N σ7 H7 → ∃ m, m < n ∧ ∃ i σ' H', Inv X pins σ' H' s7 ∧ tn i s7.heap ∧ (∀ b ∈ fp, H' b = none) ∧ W i m σ' H' := fun {σ7 H7} I7 n7 => by
      obtain ⟨m', hm, w7⟩ := hN σ7 H7 n7
      refine ⟨m', hm, i + 1, σ7, H7, I7.unpinned, T.keep _ _ _ st5 fun b hb o e => (I7.pin (b, o) (List.mem_append_right _ (List.mem_append_right _ (mem_pinsAt hb e)))).1, fun b hb => ?_, w7⟩
      obtain ⟨o, e, d⟩ := T.obj _ _ st5 b hb
      exact (I7.pin (b, o) (List.mem_append_right _ (List.mem_append_right _ (mem_pinsAt hb e)))).2.1
    cases f with
    | next => obtain ⟨σ7, H7, I7, n7⟩ := q7; exact again I7 n7
    | cont => obtain ⟨σ7, H7, I7, n7⟩ := q7; exact again I7 n7
    | brk => obtain ⟨σ7, H7, I7, q7⟩ := q7; exact ⟨σ7, H7, I7.unpinned, q7⟩
    | ret v => obtain ⟨x7, σ7, H7, I7, r7, q7⟩ := q7; exact ⟨x7, σ7, H7, I7.unpinned, r7, q7⟩
end

/-! ### the forms one uses -/
/-- over a list that the body leaves as it is -/
theorem for_list {K : PySem.W.Frag} {a : Addr} {xs : List V} {g : TG} {tb : TS} {D : Ends} {σ : St} {H : Hp} (Pv : Nat → St → Hp → Prop) (h0 : Pv 0 σ H) (hl : ∀ i σ H, i ≤ xs.length → Pv i σ H → SqL K H a xs)
    (hs : ∀ i x σ H, xs[i]? = some x → Pv i σ H → g x σ H fun σ2 H2 => tb { D with nx := Pv (i + 1), ct := Pv (i + 1), bk := D.nx } σ2 H2) (hd : ∀ σ H, Pv xs.length σ H → D.nx σ H) :
    ∃ W : Nat → Nat → St → Hp → Prop, (∃ m, W 0 m σ H) ∧ ∀ i m σ H, W i m σ H →
      ((Itl K a).stop i H ∧ D.nx σ H) ∨ ((Itl K a).go i H ∧ ∃ N : St → Hp → Prop, (∀ σ' H', N σ' H' → ∃ m', m' < m ∧ W (i + 1) m' σ' H') ∧ ∀ x H', (Itl K a).yld i H x H' → g x σ H' fun σ2 H2 => tb { D with nx := N, ct := N, bk := D.nx } σ2 H2) := by
  refine ⟨fun i m σ H => m = xs.length - i ∧ i ≤ xs.length ∧ Pv i σ H, ⟨xs.length, by simp, Nat.zero_le _, h0⟩, ?_⟩
  rintro i m σ H ⟨rfl, hi, p⟩
  have q := hl i σ H hi p
  by_cases hlt : i < xs.length
  · refine .inr ⟨⟨xs, xs[i], q, by simp [hlt]⟩, Pv (i + 1), fun σ' H' p' => ⟨xs.length - (i + 1), by omega, rfl, hlt, p'⟩, fun x H' y => ?_⟩
    obtain ⟨e, y⟩ := y
    subst e
    exact hs i x σ _ (y xs q) p
  · have e : i = xs.length := by omega
    subst e
    exact .inl ⟨⟨xs, q, Nat.le_refl _⟩, hd σ H p⟩
theorem for_tup {K : PySem.W.Frag} {a : Addr} {xs : List V} {g : TG} {tb : TS} {D : Ends} {σ : St} {H : Hp} (Pv : Nat → St → Hp → Prop) (h0 : Pv 0 σ H) (hl : ∀ i σ H, i ≤ xs.length → Pv i σ H → SqT K H a xs)
    (hs : ∀ i x σ H, xs[i]? = some x → Pv i σ H → g x σ H fun σ2 H2 => tb { D with nx := Pv (i + 1), ct := Pv (i + 1), bk := D.nx } σ2 H2) (hd : ∀ σ H, Pv xs.length σ H → D.nx σ H) :
    ∃ W : Nat → Nat → St → Hp → Prop, (∃ m, W 0 m σ H) ∧ ∀ i m σ H, W i m σ H →
      ((Itt K a).stop i H ∧ D.nx σ H) ∨ ((Itt K a).go i H ∧ ∃ N : St → Hp → Prop, (∀ σ' H', N σ' H' → ∃ m', m' < m ∧ W (i + 1) m' σ' H') ∧ ∀ x H', (Itt K a).yld i H x H' → g x σ H' fun σ2 H2 => tb { D with nx := N, ct := N, bk := D.nx } σ2 H2) := by
  refine ⟨fun i m σ H => m = xs.length - i ∧ i ≤ xs.length ∧ Pv i σ H, ⟨xs.length, by simp, Nat.zero_le _, h0⟩, ?_⟩
  rintro i m σ H ⟨rfl, hi, p⟩
  have q := hl i σ H hi p
  by_cases hlt : i < xs.length
  · refine .inr ⟨⟨xs, xs[i], q, by simp [hlt]⟩, Pv (i + 1), fun σ' H' p' => ⟨xs.length - (i + 1), by omega, rfl, hlt, p'⟩, fun x H' y => ?_⟩
    obtain ⟨e, y⟩ := y
    subst e
    exact hs i x σ _ (y xs q) p
  · have e : i = xs.length := by omega
    subst e
    exact .inl ⟨⟨xs, q, Nat.le_refl _⟩, hd σ H p⟩
theorem for_range {lo : Int} {n : Nat} {g : TG} {tb : TS} {D : Ends} {σ : St} {H : Hp} (Pv : Nat → St → Hp → Prop) (h0 : Pv 0 σ H)
    (hs : ∀ i σ H, i < n → Pv i σ H → g (.int (lo + i)) σ H fun σ2 H2 => tb { D with nx := Pv (i + 1), ct := Pv (i + 1), bk := D.nx } σ2 H2) (hd : ∀ σ H, Pv n σ H → D.nx σ H) :
    ∃ W : Nat → Nat → St → Hp → Prop, (∃ m, W 0 m σ H) ∧ ∀ i m σ H, W i m σ H →
      ((Itr lo n).stop i H ∧ D.nx σ H) ∨ ((Itr lo n).go i H ∧ ∃ N : St → Hp → Prop, (∀ σ' H', N σ' H' → ∃ m', m' < m ∧ W (i + 1) m' σ' H') ∧ ∀ x H', (Itr lo n).yld i H x H' → g x σ H' fun σ2 H2 => tb { D with nx := N, ct := N, bk := D.nx } σ2 H2) := by
  refine ⟨fun i m σ H => m = n - i ∧ i ≤ n ∧ Pv i σ H, ⟨n, by simp, Nat.zero_le _, h0⟩, ?_⟩
  rintro i m σ H ⟨rfl, hi, p⟩
  by_cases hlt : i < n
  · refine .inr ⟨hlt, Pv (i + 1), fun σ' H' p' => ⟨n - (i + 1), by omega, rfl, hlt, p'⟩, fun x H' y => ?_⟩
    obtain ⟨e, y⟩ := y
    subst e y
    exact hs i σ _ hlt p
  · have e : i = n := by omega
    subst e
    exact .inl ⟨Nat.le_refl _, hd σ H p⟩
/-- while, by a word and a measure of the state -/
theorem while_by {c : TT} {tb : TS} {D : Ends} {σ : St} {H : Hp} (Pv : St → Hp → Prop) (μ : St → Hp → Nat) (h0 : Pv σ H)
    (hs : ∀ σ H, Pv σ H → c σ H fun b H1 => if b = true then tb { D with nx := fun σ' H' => Pv σ' H' ∧ μ σ' H' < μ σ H, ct := fun σ' H' => Pv σ' H' ∧ μ σ' H' < μ σ H, bk := D.nx } σ H1 else D.nx σ H1)
    (mono : ∀ σ H Q Q', (∀ b H1, Q b H1 → Q' b H1) → c σ H Q → c σ H Q') : tWhile c tb D σ H := by
  refine ⟨fun m σ H => m = μ σ H ∧ Pv σ H, ⟨_, rfl, h0⟩, ?_⟩
  rintro m σ H ⟨rfl, p⟩
  refine mono σ H _ _ (fun b H1 q => ?_) (hs σ H p)
  cases b with
  | true => exact ⟨_, fun σ' H' ⟨p', l⟩ => ⟨_, l, rfl, p'⟩, q⟩
  | false => exact q
end L2

namespace L2
open PySem PySem.Spec PyProof.Rows

abbrev R2 := V → V → Hp → VK → Prop
/-- a two-place operation on values: f is binaryOp op, inplaceOp op or compareOp op -/
def OpR (X : Cx) (f : Value → Value → Sem Value) (r : R2) : Prop :=
  ∀ (pins : List (Addr × Obj)) (s : Shared) (σ : St) (H : Hp) (x y : V) (v u : Value) (Q : VK), Inv X pins σ H s → RelV x v → RelV y u → r x y H Q →
    wpAny (model X.prog X.w) X.A (f v u) (EP X pins σ Q) X.xe s
/-- a one-place operation -/
def UnR (X : Cx) (f : Value → Sem Value) (r : V → Hp → VK → Prop) : Prop :=
  ∀ (pins : List (Addr × Obj)) (s : Shared) (σ : St) (H : Hp) (x : V) (v : Value) (Q : VK), Inv X pins σ H s → RelV x v → r x H Q →
    wpAny (model X.prog X.w) X.A (f v) (EP X pins σ Q) X.xe s
/-- a call of a value that is known (a builtin, a type) with values -/
def CallR (X : Cx) (f : Value) (r : List V → Hp → VK → Prop) : Prop :=
  ∀ (pins : List (Addr × Obj)) (s : Shared) (σ : St) (H : Hp) (xs : List V) (us : List Value) (Q : VK), Inv X pins σ H s → Vals xs us → r xs H Q →
    wpAny (model X.prog X.w) X.A (call f us) (EP X pins σ Q) X.xe s
/-- a value's truth -/
def TruR (X : Cx) (r : V → Hp → (Bool → Hp → Prop) → Prop) : Prop :=
  ∀ (pins : List (Addr × Obj)) (s : Shared) (σ : St) (H : Hp) (x : V) (v : Value) (Q : Bool → Hp → Prop), Inv X pins σ H s → RelV x v → r x H Q →
    wpAny (model X.prog X.w) X.A (truthy v) (TP X pins σ Q) X.xe s

def tOp (r : R2) (ta tb : TE) : TE := fun σ H Q => ta σ H fun x H1 => tb σ H1 fun y H2 => r x y H2 Q
def tUn (r : V → Hp → VK → Prop) (ta : TE) : TE := fun σ H Q => ta σ H fun x H1 => r x H1 Q
/-- ints in, under C, and a value out -/
def rI (C : Int → Int → Prop) (g : Int → Int → V) : R2 := fun x y H Q => ∃ i j, x = .int i ∧ y = .int j ∧ C i j ∧ Q (g i j) H
def rI0 (g : Int → Int → V) : R2 := fun x y H Q => ∃ i j, x = .int i ∧ y = .int j ∧ Q (g i j) H
def rU (g : Int → V) : V → Hp → VK → Prop := fun x H Q => ∃ i, x = .int i ∧ Q (g i) H

section
variable {X : Cx} {a b c : Expr} {ta tb tc : TE} {pos : Pos}

theorem binT (ha : PE X a ta) (hb : PE X b tb) {pins : List (Addr × Obj)} {s : Shared} {σ : St} {H : Hp} {R : V → V → Hp → Prop} (I : Inv X pins σ H s)
    (h : ta σ H fun x H1 => tb σ H1 fun y H2 => R x y H2) {Q : Value → Shared → Prop} {f : Value → Value → Sem Value}
    (hf : ∀ v u s2 x y H2, Inv X pins σ H2 s2 → RelV x v → RelV y u → R x y H2 → wpAny (model X.prog X.w) X.A (f v u) Q X.xe s2) :
    wpAny (model X.prog X.w) X.A (eval a X.env) (fun v s₁ => wpAny (model X.prog X.w) X.A (eval b X.env) (fun u s₂ => wpAny (model X.prog X.w) X.A (f v u) Q X.xe s₂) X.xe s₁) X.xe s := by
  refine thn (ha pins s σ H _ I h) fun v s1 ⟨x, H1, I1, r1, q1⟩ => ?_
  refine thn (hb pins s1 σ H1 _ I1 q1) fun u s2 ⟨y, H2, I2, r2, q2⟩ => ?_
  exact hf v u s2 x y H2 I2 r1 r2 q2

theorem pe_op {op : Operator} {r : R2} (ho : OpR X (binaryOp op) r) (ha : PE X a ta) (hb : PE X b tb) : PE X (.BinOp a op b pos) (tOp r ta tb) := by
  intro pins s σ H Q I h
  exact wpAny_BinOp (binT ha hb I h fun v u s2 x y H2 I2 rx ry q => ho pins s2 σ H2 x y v u Q I2 rx ry q)
theorem pe_un {op : UnaryOp} {r : V → Hp → VK → Prop} (ho : UnR X (unaryOp op) r) (ha : PE X a ta) : PE X (.UnaryOp op a pos) (tUn r ta) := by
  intro pins s σ H Q I h
  exact UnaryOp_ (thn (ha pins s σ H _ I h) fun v s1 ⟨x, H1, I1, r1, q1⟩ => ho pins s1 σ H1 x v Q I1 r1 q1)
/-- a op= e at a name: the name's slot i -/
theorem augR {op : Operator} {r : R2} (ho : OpR X (inplaceOp op) r) {pins : List (Addr × Obj)} {s : Shared} {σ : St} {H : Hp} {x y : V} {v u : Value} {Q : VK} (I : Inv X pins σ H s)
    (rx : RelV x v) (ry : RelV y u) (q : r x y H Q) : wpAny (model X.prog X.w) X.A (inplaceOp op v u) (EP X pins σ Q) X.xe s := ho pins s σ H x y v u Q I rx ry q

/-! ### ints -/
theorem opI {f : Value → Value → Sem Value} {C : Int → Int → Prop} {g : Int → Int → Int}
    (rule : ∀ (i j : Int) (t u : Tok) (s : Shared) (Q : Value → Shared → Prop) (E : Value → Shared → Prop), C i j → Q (.int (g i j) s.toks) { s with toks := s.toks + 1 } → wpAny (model X.prog X.w) X.A (f (.int i t) (.int j u)) Q E s) :
    OpR X f (rI C fun i j => .int (g i j)) := by
  intro pins s σ H x y v u Q I rx ry h
  obtain ⟨i, j, rfl, rfl, hc, q⟩ := h
  obtain ⟨t, rfl⟩ := rx
  obtain ⟨t', rfl⟩ := ry
  exact rule i j t t' s _ _ hc ⟨.int (g i j), H, I.tok _, ⟨_, rfl⟩, q⟩
theorem opI0 {f : Value → Value → Sem Value} {g : Int → Int → Int}
    (rule : ∀ (i j : Int) (t u : Tok) (s : Shared) (Q : Value → Shared → Prop) (E : Value → Shared → Prop), Q (.int (g i j) s.toks) { s with toks := s.toks + 1 } → wpAny (model X.prog X.w) X.A (f (.int i t) (.int j u)) Q E s) :
    OpR X f (rI0 fun i j => .int (g i j)) := by
  intro pins s σ H x y v u Q I rx ry h
  obtain ⟨i, j, rfl, rfl, q⟩ := h
  obtain ⟨t, rfl⟩ := rx
  obtain ⟨t', rfl⟩ := ry
  exact rule i j t t' s _ _ ⟨.int (g i j), H, I.tok _, ⟨_, rfl⟩, q⟩
theorem opB0 {f : Value → Value → Sem Value} {g : Int → Int → Bool}
    (rule : ∀ (i j : Int) (t u : Tok) (s : Shared) (Q : Value → Shared → Prop) (E : Value → Shared → Prop), Q (.bool (g i j)) s → wpAny (model X.prog X.w) X.A (f (.int i t) (.int j u)) Q E s) :
    OpR X f (rI0 fun i j => .bl (g i j)) := by
  intro pins s σ H x y v u Q I rx ry h
  obtain ⟨i, j, rfl, rfl, q⟩ := h
  obtain ⟨t, rfl⟩ := rx
  obtain ⟨t', rfl⟩ := ry
  exact rule i j t t' s _ _ ⟨.bl (g i j), H, I, rfl, q⟩

def CDiv (i j : Int) : Prop := 0 < j ∧ j < 1073741824
def CDivN (i j : Int) : Prop := j ≠ 0 ∧ j.natAbs < 1073741824
def CPow (i j : Int) : Prop := 0 ≤ j ∧ j ≤ 1000000 ∧ i.natAbs < 2 ^ 64
def CMul (i j : Int) : Prop := (-(2 ^ 64) < i ∧ i < 2 ^ 64) ∨ (-(2 ^ 64) < j ∧ j < 2 ^ 64)
theorem CMul.ok {i j : Int} (h : CMul i j) : IntMulOk i j := by
  rcases h with ⟨h1, h2⟩ | ⟨h1, h2⟩
  · exact .of_left (intBits_le_64 h1 h2)
  · exact .of_right (intBits_le_64 h1 h2)
theorem two_pow_nn (k : Nat) : (0 : Int) ≤ 2 ^ k := by
  rw [two_pow_cast]
  exact Int.natCast_nonneg _

theorem op_add : OpR X (binaryOp .Add) (rI0 fun i j => .int (i + j)) := opI0 fun _ _ _ _ _ _ _ q => add_int q
theorem op_sub : OpR X (binaryOp .Sub) (rI0 fun i j => .int (i - j)) := opI0 fun _ _ _ _ _ _ _ q => sub_int q
theorem op_mul : OpR X (binaryOp .Mult) (rI CMul fun i j => .int (i * j)) := opI fun _ _ _ _ _ _ _ hc q => mul_int q hc.ok
/-- // by a positive divisor -/
theorem op_fdiv : OpR X (binaryOp .FloorDiv) (rI CDiv fun i j => .int (i / j)) := opI fun i j _ _ _ _ _ hc q => by
  have h1 : (0 : Int) < j := hc.1
  have h2 : j < 1073741824 := hc.2
  exact floordiv_int (by omega) (by rw [Int.fdiv_eq_ediv_of_nonneg i (by omega)]; exact q) (.inl (PyProof.noPylong_small (by omega)))
theorem op_fdivN : OpR X (binaryOp .FloorDiv) (rI CDivN fun i j => .int (i.fdiv j)) := opI fun _ _ _ _ _ _ _ hc q => floordiv_int hc.1 q (.inl (PyProof.noPylong_small hc.2))
/-- % by a positive divisor of any size -/
theorem op_mod : OpR X (binaryOp .Mod) (rI (fun _ j => 0 < j) fun i j => .int (i % j)) := opI fun i j _ _ _ _ _ hc q => by
  have h1 : (0 : Int) < j := hc
  exact mod_int' (by omega) (by rw [Int.fmod_eq_emod_of_nonneg i (by omega)]; exact q)
theorem op_modN : OpR X (binaryOp .Mod) (rI (fun _ j => j ≠ 0) fun i j => .int (i.fmod j)) := opI fun _ _ _ _ _ _ _ hc q => mod_int' hc q
theorem op_pow : OpR X (binaryOp .Pow) (rI CPow fun i j => .int (i ^ j.toNat)) := opI fun _ _ _ _ _ _ _ hc q => pow_int_small hc.1 hc.2.1 hc.2.2 q
theorem op_shl : OpR X (binaryOp .LShift) (rI CPow fun i j => .int (i * 2 ^ j.toNat)) := opI fun _ _ _ _ _ _ _ hc q => lshift_int_small hc.1 hc.2.1 hc.2.2 q
theorem op_shr : OpR X (binaryOp .RShift) (rI (fun _ j => 0 ≤ j) fun i j => .int (i / 2 ^ j.toNat)) := opI fun i j _ _ _ _ _ hc q =>
  rshift_int hc (by rw [Int.fdiv_eq_ediv_of_nonneg i (two_pow_nn _)]; exact q)
theorem op_and : OpR X (binaryOp .BitAnd) (rI0 fun i j => .int (Builtin.bitAnd i j)) := opI0 fun _ _ _ _ _ _ _ q => and_int q
theorem op_or : OpR X (binaryOp .BitOr) (rI0 fun i j => .int (Builtin.bitOr i j)) := opI0 fun _ _ _ _ _ _ _ q => or_int q
theorem op_xor : OpR X (binaryOp .BitXor) (rI0 fun i j => .int (Builtin.bitXor i j)) := opI0 fun _ _ _ _ _ _ _ q => xor_int q

theorem iop_add : OpR X (inplaceOp .Add) (rI0 fun i j => .int (i + j)) := opI0 fun _ _ _ _ _ _ _ q => iadd_int q
theorem iop_sub : OpR X (inplaceOp .Sub) (rI0 fun i j => .int (i - j)) := opI0 fun _ _ _ _ _ _ _ q => isub_int q
theorem iop_mul : OpR X (inplaceOp .Mult) (rI CMul fun i j => .int (i * j)) := opI fun _ _ _ _ _ _ _ hc q => imul_int q hc.ok
theorem iop_fdiv : OpR X (inplaceOp .FloorDiv) (rI CDiv fun i j => .int (i / j)) := opI fun i j _ _ _ _ _ hc q => by
  have h1 : (0 : Int) < j := hc.1
  have h2 : j < 1073741824 := hc.2
  exact ifloordiv_int (by omega) (by rw [Int.fdiv_eq_ediv_of_nonneg i (by omega)]; exact q) (.inl (PyProof.noPylong_small (by omega)))
theorem iop_mod : OpR X (inplaceOp .Mod) (rI (fun _ j => 0 < j) fun i j => .int (i % j)) := opI fun i j _ _ _ _ _ hc q => by
  have h1 : (0 : Int) < j := hc
  exact imod_int (by omega) (by rw [Int.fmod_eq_emod_of_nonneg i (by omega)]; exact q)
theorem iop_shl : OpR X (inplaceOp .LShift) (rI CPow fun i j => .int (i * 2 ^ j.toNat)) := opI fun _ _ _ _ _ _ _ hc q => ilshift_int_small hc.1 hc.2.1 hc.2.2 q
theorem iop_shr : OpR X (inplaceOp .RShift) (rI (fun _ j => 0 ≤ j) fun i j => .int (i / 2 ^ j.toNat)) := opI fun i j _ _ _ _ _ hc q =>
  irshift_int hc (by rw [Int.fdiv_eq_ediv_of_nonneg i (two_pow_nn _)]; exact q)
theorem iop_and : OpR X (inplaceOp .BitAnd) (rI0 fun i j => .int (Builtin.bitAnd i j)) := opI0 fun _ _ _ _ _ _ _ q => iand_int q
theorem iop_or : OpR X (inplaceOp .BitOr) (rI0 fun i j => .int (Builtin.bitOr i j)) := opI0 fun _ _ _ _ _ _ _ q => ior_int q
theorem iop_xor : OpR X (inplaceOp .BitXor) (rI0 fun i j => .int (Builtin.bitXor i j)) := opI0 fun _ _ _ _ _ _ _ q => ixor_int q

theorem unI {f : Value → Sem Value} {g : Int → Int}
    (rule : ∀ (i : Int) (t : Tok) (s : Shared) (Q : Value → Shared → Prop) (E : Value → Shared → Prop), Q (.int (g i) s.toks) { s with toks := s.toks + 1 } → wpAny (model X.prog X.w) X.A (f (.int i t)) Q E s) :
    UnR X f (rU fun i => .int (g i)) := by
  intro pins s σ H x v Q I rx h
  obtain ⟨i, rfl, q⟩ := h
  obtain ⟨t, rfl⟩ := rx
  exact rule i t s _ _ ⟨.int (g i), H, I.tok _, ⟨_, rfl⟩, q⟩
theorem un_neg : UnR X (unaryOp .USub) (rU fun i => .int (-i)) := unI fun _ _ _ _ _ q => neg_int q
theorem un_inv : UnR X (unaryOp .Invert) (rU fun i => .int (Builtin.bitNot i)) := unI fun _ _ _ _ _ q => invert_int q

/-! ### bools among ints: n += (a < b) -/
theorem op_add_ib : OpR X (binaryOp .Add) (fun x y H Q => ∃ i k, x = .int i ∧ y = .bl k ∧ Q (.int (i + b2i k)) H) := by
  intro pins s σ H x y v u Q I rx ry h
  obtain ⟨i, k, rfl, rfl, q⟩ := h
  obtain ⟨t, rfl⟩ := rx
  cases ry
  exact add_int_bool ⟨.int (i + b2i k), H, I.tok _, ⟨_, rfl⟩, q⟩
end

/-! ### comparisons -/
/-- the scalars that == tells apart as data does -/
def scal : V → V → Bool
  | .non, .non => true | .non, .int _ => true | .int _, .non => true | .non, .bl _ => true | .bl _, .non => true | .non, .str _ => true | .str _, .non => true
  | .int _, .int _ => true | .bl _, .bl _ => true | .str _, .str _ => true | .byt _, .byt _ => true
  | .int _, .str _ => true | .str _, .int _ => true | .bl _, .str _ => true | .str _, .bl _ => true
  | _, _ => false
def rEq : R2 := fun x y H Q => scal x y = true ∧ Q (.bl (decide (x = y))) H
def rNe : R2 := fun x y H Q => scal x y = true ∧ Q (.bl (!decide (x = y))) H

theorem dec_int {i j : Int} : decide (V.int i = V.int j) = (i == j) := by
  rw [Bool.eq_iff_iff]
  simp
theorem dec_bl {i j : Bool} : decide (V.bl i = V.bl j) = (i == j) := by
  rw [Bool.eq_iff_iff]
  simp
theorem dec_str {i j : Str} : decide (V.str i = V.str j) = (i == j) := by
  rw [Bool.eq_iff_iff]
  simp
theorem dec_byt {i j : Array UInt8} : decide (V.byt i = V.byt j) = (i.toList == j.toList) := by
  rw [Bool.eq_iff_iff]
  cases i
  cases j
  simp

section
variable {X : Cx} {a b c : Expr} {ta tb tc : TE} {pos : Pos}
theorem fin_bl {pins : List (Addr × Obj)} {σ : St} {H : Hp} {s : Shared} {Q : VK} {k k' : Bool} (I : Inv X pins σ H s) (q : Q (.bl k) H) (e : k = k') : EP X pins σ Q (.bool k') s := by
  subst e
  exact ⟨.bl k, H, I, rfl, q⟩
theorem op_eq : OpR X (compareOp .Eq) rEq := by
  intro pins s σ H x y v u Q I rx ry h
  obtain ⟨hs, q⟩ := h
  cases x with
  | non =>
    cases rx
    cases y with
    | non => cases ry; exact PySem.EqNone.eq_none_none (fin_bl I q (by simp))
    | bl j => cases ry; exact PySem.EqNone.eq_none_bool (fin_bl I q (by simp))
    | int j => obtain ⟨t', rfl⟩ := ry; exact PySem.EqNone.eq_none_int (fin_bl I q (by simp))
    | str j => obtain ⟨t', rfl⟩ := ry; exact PySem.EqNone.eq_none_str (fin_bl I q (by simp))
    | _ => exact absurd (show false = true from hs) Bool.false_ne_true
  | bl i =>
    cases rx
    cases y with
    | non => cases ry; exact PySem.EqNone.eq_bool_none (fin_bl I q (by simp))
    | bl j => cases ry; exact eq_bool (fin_bl I q dec_bl)
    | str j => obtain ⟨t', rfl⟩ := ry; exact PySem.EqMixed.eq_bool_str (fin_bl I q (by simp))
    | _ => exact absurd (show false = true from hs) Bool.false_ne_true
  | int i =>
    obtain ⟨t, rfl⟩ := rx
    cases y with
    | non => cases ry; exact PySem.EqNone.eq_int_none (fin_bl I q (by simp))
    | int j => obtain ⟨t', rfl⟩ := ry; exact eq_int (fin_bl I q dec_int)
    | str j => obtain ⟨t', rfl⟩ := ry; exact PySem.EqMixed.eq_int_str (fin_bl I q (by simp))
    | _ => exact absurd (show false = true from hs) Bool.false_ne_true
  | str i =>
    obtain ⟨t, rfl⟩ := rx
    cases y with
    | non => cases ry; exact PySem.EqNone.eq_str_none (fin_bl I q (by simp))
    | bl j => cases ry; exact PySem.EqMixed.eq_str_bool (fin_bl I q (by simp))
    | int j => obtain ⟨t', rfl⟩ := ry; exact PySem.EqMixed.eq_str_int (fin_bl I q (by simp))
    | str j => obtain ⟨t', rfl⟩ := ry; exact eq_str (fin_bl I q dec_str)
    | _ => exact absurd (show false = true from hs) Bool.false_ne_true
  | byt i =>
    obtain ⟨t, rfl⟩ := rx
    cases y with
    | byt j => obtain ⟨t', rfl⟩ := ry; exact PySem.W.eq_bytes (fin_bl I q dec_byt)
    | _ => exact absurd (show false = true from hs) Bool.false_ne_true
  | _ => cases y <;> exact absurd (show false = true from hs) Bool.false_ne_true
theorem op_ne : OpR X (compareOp .NotEq) rNe := by
  intro pins s σ H x y v u Q I rx ry h
  obtain ⟨hs, q⟩ := h
  cases x with
  | non =>
    cases rx
    cases y with
    | non => cases ry; exact PySem.EqNone.ne_none_none (fin_bl I q (by simp))
    | bl j => cases ry; exact PySem.EqNone.ne_none_bool (fin_bl I q (by simp))
    | int j => obtain ⟨t', rfl⟩ := ry; exact PySem.EqNone.ne_none_int (fin_bl I q (by simp))
    | str j => obtain ⟨t', rfl⟩ := ry; exact PySem.EqNone.ne_none_str (fin_bl I q (by simp))
    | _ => exact absurd (show false = true from hs) Bool.false_ne_true
  | bl i =>
    cases rx
    cases y with
    | non => cases ry; exact PySem.EqNone.ne_bool_none (fin_bl I q (by simp))
    | bl j => cases ry; exact ne_bool (fin_bl I q (congrArg not dec_bl))
    | str j => obtain ⟨t', rfl⟩ := ry; exact PySem.EqMixed.ne_bool_str (fin_bl I q (by simp))
    | _ => exact absurd (show false = true from hs) Bool.false_ne_true
  | int i =>
    obtain ⟨t, rfl⟩ := rx
    cases y with
    | non => cases ry; exact PySem.EqNone.ne_int_none (fin_bl I q (by simp))
    | int j => obtain ⟨t', rfl⟩ := ry; exact ne_int (fin_bl I q (congrArg not dec_int))
    | str j => obtain ⟨t', rfl⟩ := ry; exact PySem.EqMixed.ne_int_str (fin_bl I q (by simp))
    | _ => exact absurd (show false = true from hs) Bool.false_ne_true
  | str i =>
    obtain ⟨t, rfl⟩ := rx
    cases y with
    | non => cases ry; exact PySem.EqNone.ne_str_none (fin_bl I q (by simp))
    | bl j => cases ry; exact PySem.EqMixed.ne_str_bool (fin_bl I q (by simp))
    | int j => obtain ⟨t', rfl⟩ := ry; exact PySem.EqMixed.ne_str_int (fin_bl I q (by simp))
    | str j => obtain ⟨t', rfl⟩ := ry; exact ne_str (fin_bl I q (congrArg not dec_str))
    | _ => exact absurd (show false = true from hs) Bool.false_ne_true
  | byt i =>
    obtain ⟨t, rfl⟩ := rx
    cases y with
    | byt j => obtain ⟨t', rfl⟩ := ry; exact PySem.W.ne_bytes (fin_bl I q (congrArg not dec_byt))
    | _ => exact absurd (show false = true from hs) Bool.false_ne_true
  | _ => cases y <;> exact absurd (show false = true from hs) Bool.false_ne_true

theorem op_lt : OpR X (compareOp .Lt) (rI0 fun i j => .bl (decide (i < j))) := opB0 fun _ _ _ _ _ _ _ q => lt_int q
theorem op_le : OpR X (compareOp .LtE) (rI0 fun i j => .bl (decide (i ≤ j))) := opB0 fun _ _ _ _ _ _ _ q => le_int q
theorem op_gt : OpR X (compareOp .Gt) (rI0 fun i j => .bl (decide (j < i))) := opB0 fun _ _ _ _ _ _ _ q => gt_int q
theorem op_ge : OpR X (compareOp .GtE) (rI0 fun i j => .bl (decide (j ≤ i))) := opB0 fun _ _ _ _ _ _ _ q => ge_int q
theorem op_lt_str : OpR X (compareOp .Lt) (fun x y H Q => ∃ i j, x = .str i ∧ y = .str j ∧ Q (.bl (decide (i.cps.toList < j.cps.toList))) H) := by
  intro pins s σ H x y v u Q I rx ry h
  obtain ⟨i, j, rfl, rfl, q⟩ := h
  obtain ⟨t, rfl⟩ := rx
  obtain ⟨t', rfl⟩ := ry
  exact lt_str (fin_bl I q rfl)
/-- the one string within the other -/
theorem op_in_str : OpR X (compareOp .In) (fun x y H Q => ∃ i j, x = .str i ∧ y = .str j ∧ Q (.bl (!(Builtin.Str.occurrences j i 0 j.length 1).isEmpty)) H) := by
  intro pins s σ H x y v u Q I rx ry h
  obtain ⟨i, j, rfl, rfl, q⟩ := h
  obtain ⟨t, rfl⟩ := rx
  obtain ⟨t', rfl⟩ := ry
  exact in_str (fin_bl I q rfl)

/-- is None, is not None: the right side a value none -/
theorem op_isN : OpR X (compareOp .Is) (fun x y H Q => y = .non ∧ Q (.bl (decide (x = .non))) H) := by
  intro pins s σ H x y v u Q I rx ry h
  obtain ⟨rfl, q⟩ := h
  cases ry
  refine is_none_gen (fin_bl I q ?_)
  cases x <;> first
    | (cases rx; rfl)
    | (obtain ⟨t, rfl⟩ := rx; rfl)
theorem op_notN : OpR X (compareOp .IsNot) (fun x y H Q => y = .non ∧ Q (.bl (!decide (x = .non))) H) := by
  intro pins s σ H x y v u Q I rx ry h
  obtain ⟨rfl, q⟩ := h
  cases ry
  refine isnot_none_gen (fin_bl I q ?_)
  cases x <;> first
    | (cases rx; rfl)
    | (obtain ⟨t, rfl⟩ := rx; rfl)

theorem op_notin_str : OpR X (compareOp .NotIn) (fun x y H Q => ∃ i j, x = .str i ∧ y = .str j ∧ Q (.bl (!(!(Builtin.Str.occurrences j i 0 j.length 1).isEmpty))) H) := by
  intro pins s σ H x y v u Q I rx ry h
  obtain ⟨i, j, rfl, rfl, q⟩ := h
  obtain ⟨t, rfl⟩ := rx
  obtain ⟨t', rfl⟩ := ry
  exact notIn_str (fin_bl I q rfl)
/-- is, is not of two objects that are tracked lists or instances -/
def isObj : HO → Bool
  | .lst _ => true
  | .ins _ _ _ => true
  | _ => false
theorem obj_there {pins : List (Addr × Obj)} {s : Shared} {σ : St} {H : Hp} {a : Addr} {o : HO} (I : Inv X pins σ H s) (h : H a = some o) (p : isObj o = true) : ∃ ob, s.heap.get? a = some ob ∧ ob.cls ≠ .type "tuple" := by
  cases o with
  | lst xs =>
    obtain ⟨_, its, n, _, e⟩ : xs.length ≤ sizeLine ∧ ∃ (its : List Value) (n : Nat), Vals xs its ∧ s.heap.get? a = some { cls := .type "list", data := .seq its.toArray n } := I.hok a _ h
    exact ⟨_, e, (by show Value.type "list" ≠ .type "tuple"; decide +kernel)⟩
  | ins C dx fs =>
    have x := I.hok a _ h
    obtain ⟨_, _, _, e, _⟩ := x
    exact ⟨_, e, (by show Value.ref C ≠ .type "tuple"; exact fun z => by cases z)⟩
  | _ => exact absurd (show false = true from p) Bool.false_ne_true
theorem op_is_ref : OpR X (compareOp .Is) (fun x y H Q => ∃ a b oa ob, x = .ref a ∧ y = .ref b ∧ H a = some oa ∧ isObj oa = true ∧ H b = some ob ∧ isObj ob = true ∧ Q (.bl (decide (a = b))) H) := by
  intro pins s σ H x y v u Q I rx ry h
  obtain ⟨a, b, oa, ob, rfl, rfl, ha, pa, hb, pb, q⟩ := h
  cases rx
  cases ry
  obtain ⟨o1, e1, n1⟩ := obj_there I ha pa
  obtain ⟨o2, e2, _⟩ := obj_there I hb pb
  by_cases z : a = b
  · subst z
    exact wpAny_is_ref_self (fin_bl I q (by simp))
  · exact wpAny_is_ref_other z e1 e2 n1 (fin_bl I q (by simp [z]))
theorem op_isnot_ref : OpR X (compareOp .IsNot) (fun x y H Q => ∃ a b oa ob, x = .ref a ∧ y = .ref b ∧ H a = some oa ∧ isObj oa = true ∧ H b = some ob ∧ isObj ob = true ∧ Q (.bl (!decide (a = b))) H) := by
  intro pins s σ H x y v u Q I rx ry h
  obtain ⟨a, b, oa, ob, rfl, rfl, ha, pa, hb, pb, q⟩ := h
  cases rx
  cases ry
  obtain ⟨o1, e1, n1⟩ := obj_there I ha pa
  obtain ⟨o2, e2, _⟩ := obj_there I hb pb
  by_cases z : a = b
  · subst z
    exact wpAny_isNot_ref_self (fin_bl I q (by simp))
  · exact wpAny_isNot_ref_other z e1 e2 n1 (fin_bl I q (by simp [z]))

/-- two rules for one operation: by cases -/
theorem OpR.or {f : Value → Value → Sem Value} {r r' : R2} (h : OpR X f r) (h' : OpR X f r') : OpR X f (fun x y H Q => r x y H Q ∨ r' x y H Q) := by
  intro pins s σ H x y v u Q I rx ry q
  rcases q with q | q
  · exact h pins s σ H x y v u Q I rx ry q
  · exact h' pins s σ H x y v u Q I rx ry q

theorem nomark (b : Expr) {op : CmpOp} (h : op ≠ .In := by decide) (h2 : op ≠ .NotIn := by decide) : behindInMarks op b = false := by
  have e1 : (op == CmpOp.In) = false := by cases op <;> first | rfl | exact absurd rfl h
  have e2 : (op == CmpOp.NotIn) = false := by cases op <;> first | rfl | exact absurd rfl h2
  cases b <;> simp [behindInMarks, e1, e2]
/-- a comparison as a value; hm: nomark b, or (for in, not in) by with_unfolding_all rfl -/
theorem pe_cmpR {op : CmpOp} {r : R2} (ho : OpR X (compareOp op) r) (ha : PE X a ta) (hb : PE X b tb) (hm : behindInMarks op b = false) : PE X (.Compare a [op] [b] pos) (tOp r ta tb) := by
  intro pins s σ H Q I h
  exact wpAny_Compare1 (binT ha hb I h fun v u s2 x y H2 I2 rx ry q => ho pins s2 σ H2 x y v u Q I2 rx ry q) hm
/-- a reading of a value as a test -/
def tTest (t : TE) : TT := fun σ H Q => t σ H fun x H' => ∃ k, x = .bl k ∧ Q k H'
theorem pt_cmpR {op : CmpOp} {r : R2} (ho : OpR X (compareOp op) r) (ha : PE X a ta) (hb : PE X b tb) (hm : behindInMarks op b = false) : PT X (.Compare a [op] [b] pos) (tTest (tOp r ta tb)) := by
  intro pins s σ H Q I h
  refine wpAny_isTrue_Compare1 (thn (ha pins s σ H _ I h) fun v s1 ⟨x, H1, I1, r1, q1⟩ => thn (hb pins s1 σ H1 _ I1 q1) fun u s2 ⟨y, H2, I2, r2, q2⟩ =>
    thn (ho pins s2 σ H2 x y v u _ I2 r1 r2 q2) fun c s3 ⟨z, H3, I3, r3, k, e, q3⟩ => ?_) hm
  subst e
  cases r3
  exact wpAny_truthy_bool ⟨H3, I3, q3⟩
/-- a op1 b op2 c -/
def tChain (r r' : R2) (ta tb tc : TE) : TE := fun σ H Q => ta σ H fun x H1 => tb σ H1 fun y H2 => r x y H2 fun z H3 => ∃ k, z = .bl k ∧
  (if k = true then tc σ H3 fun w' H4 => r' y w' H4 Q else Q (.bl false) H3)
theorem pe_chain {op op' : CmpOp} {r r' : R2} (ho : OpR X (compareOp op) r) (ho' : OpR X (compareOp op') r') (ha : PE X a ta) (hb : PE X b tb) (hc : PE X c tc)
    (hm : lastMarks [op, op'] [b, c] = false := by with_unfolding_all rfl) : PE X (.Compare a [op, op'] [b, c] pos) (tChain r r' ta tb tc) := by
  intro pins s σ H Q I h
  refine Compare_chain (thn (ha pins s σ H _ I h) fun v s1 ⟨x, H1, I1, r1, q1⟩ => chain_link (thn (hb pins s1 σ H1 _ I1 q1) fun u s2 ⟨y, H2, I2, r2, q2⟩ =>
    thn (ho pins s2 σ H2 x y v u _ I2 r1 r2 q2) fun d s3 ⟨z, H3, I3, r3, k, e, q3⟩ => ?_)) hm
  subst e
  cases r3
  refine wpAny_truthy_bool ?_
  cases k with
  | false => exact ite_ff ⟨.bl false, H3, I3, rfl, q3⟩
  | true => exact ite_tt (chain_last (thn (hc pins s3 σ H3 _ I3 q3) fun w' s4 ⟨z', H4, I4, r4, q4⟩ => ho' pins s4 σ H4 y z' u w' Q I4 r2 r4 q4))
theorem pt_chain {op op' : CmpOp} {r r' : R2} (ho : OpR X (compareOp op) r) (ho' : OpR X (compareOp op') r') (ha : PE X a ta) (hb : PE X b tb) (hc : PE X c tc)
    (hm : lastMarks [op, op'] [b, c] = false := by with_unfolding_all rfl) : PT X (.Compare a [op, op'] [b, c] pos) (tTest (tChain r r' ta tb tc)) := by
  intro pins s σ H Q I h
  refine isTrue_chain (thn (ha pins s σ H _ I h) fun v s1 ⟨x, H1, I1, r1, q1⟩ => test_link (thn (hb pins s1 σ H1 _ I1 q1) fun u s2 ⟨y, H2, I2, r2, q2⟩ =>
    thn (ho pins s2 σ H2 x y v u _ I2 r1 r2 q2) fun d s3 ⟨z, H3, I3, r3, k, e, q3⟩ => ?_)) hm
  subst e
  cases r3
  refine wpAny_truthy_bool ?_
  cases k with
  | false =>
    obtain ⟨k', e', q'⟩ := q3
    cases e'
    exact ite_ff ⟨H3, I3, q'⟩
  | true =>
    refine ite_tt (test_last (thn (hc pins s3 σ H3 _ I3 q3) fun w' s4 ⟨z', H4, I4, r4, q4⟩ => thn (ho' pins s4 σ H4 y z' u w' _ I4 r2 r4 q4) fun d' s5 ⟨z2, H5, I5, r5, k2, e2, q5⟩ => ?_))
    subst e2
    cases r5
    exact wpAny_truthy_bool ⟨H5, I5, q5⟩

/-! ### truth -/
/-- a value's truth by the abstract heap -/
def TruV (K : PySem.W.Frag) (x : V) (H : Hp) (k : Bool) : Prop :=
  match x with
  | .non => k = false
  | .bl b => k = b
  | .int i => k = (i != 0)
  | .str y => y.length ≤ sizeLine ∧ k = ((y.length : Int) != 0)
  | .byt y => y.size ≤ sizeLine ∧ k = ((y.size : Int) != 0)
  | .ref p => (∃ xs, SqL K H p xs ∧ k = !xs.isEmpty) ∨ (∃ xs, SqT K H p xs ∧ k = !xs.isEmpty) ∨ ∃ kvs, H p = some (.dK kvs) ∧ k = !kvs.isEmpty
  | _ => False
theorem isEmpty_kv {κ : Type} {kvs : List (κ × V)} {vs : List (κ × Value)} (r : KV kvs vs) : (!vs.isEmpty) = !kvs.isEmpty := by
  cases r <;> rfl
theorem isEmpty_of {xs : List V} {its : List Value} (r : Vals xs its) : (!its.toArray.isEmpty) = !xs.isEmpty := by
  cases r <;> simp
theorem line63 : (sizeLine : Nat) < 2 ^ 63 := by rw [sizeLine_eq]; decide
theorem tru_ok : TruR X (fun x H Q => ∃ k, TruV X.K x H k ∧ Q k H) := by
  intro pins s σ H x v Q I rx h
  obtain ⟨k, e, q⟩ := h
  have hl := line63
  have hs : sizeLine = 16777216 := sizeLine_eq
  cases x with
  | non =>
    cases rx
    have e' : k = false := e
    subst e'
    exact truthy_none ⟨H, I, q⟩
  | bl b =>
    cases rx
    have e' : k = b := e
    subst e'
    exact wpAny_truthy_bool ⟨H, I, q⟩
  | int i =>
    obtain ⟨t, rfl⟩ := rx
    have e' : k = (i != 0) := e
    subst e'
    exact PySem.P.truthy_int ⟨H, I, q⟩
  | str y =>
    obtain ⟨t, rfl⟩ := rx
    obtain ⟨hy, e'⟩ : y.length ≤ sizeLine ∧ k = ((y.length : Int) != 0) := e
    subst e'
    exact PySem.P.truthy_str (by omega) ⟨H, I.tok _, q⟩
  | byt y =>
    obtain ⟨t, rfl⟩ := rx
    obtain ⟨hy, e'⟩ : y.size ≤ sizeLine ∧ k = ((y.size : Int) != 0) := e
    subst e'
    exact PySem.W.truthy_bytes (by omega) ⟨H, I.tok _, q⟩
  | ref p =>
    cases rx
    have e' : (∃ xs, SqL X.K H p xs ∧ k = !xs.isEmpty) ∨ (∃ xs, SqT X.K H p xs ∧ k = !xs.isEmpty) ∨ ∃ kvs, H p = some (.dK kvs) ∧ k = !kvs.isEmpty := e
    rcases e' with ⟨xs, hx, e'⟩ | ⟨xs, hx, e'⟩ | ⟨kvs, hx, e'⟩
    · subst e'
      obtain ⟨its, r, pl, hz⟩ := I.list hx
      have hlen := r.length
      exact wpAny_truthy_list pl.isList (by simp only [List.size_toArray]; omega) ⟨H, I.tok _, by rw [isEmpty_of r]; exact q⟩
    · subst e'
      obtain ⟨its, r, pl, hz⟩ := I.tuple hx
      have hlen := r.length
      exact truthy_tuple pl (by simp only [List.size_toArray]; omega) ⟨H, I.tok _, by rw [isEmpty_of r]; exact q⟩
    · subst e'
      obtain ⟨hz, hS, vs, r, m⟩ : kvs.length ≤ sizeLine ∧ (p == sysModules) = false ∧ ∃ vs, KV kvs vs ∧ s.heap.DictOf (mixKind X.prog X.w) p vs := I.hok p _ hx
      have hlen : kvs.length = vs.length := Paired.length r
      exact wpAny_truthy_dict hS m (by omega) ⟨H, I.tok _, by rw [isEmpty_kv r]; exact q⟩
  | _ => exact (show False from e).elim
/-- any expression whose test is its value's truth (a name, a call, a subscript, a field ..: he by fun _ => rfl) -/
theorem pt_truth (ha : PE X a ta) (he : ∀ whole, isTrue a X.env whole = (do let v ← whole; standAt a.pos; holding [v] (truthy v))) :
    PT X a (fun σ H Q => ta σ H fun x H' => ∃ k, TruV X.K x H' k ∧ Q k H') := by
  intro pins s σ H Q I h
  exact isTrue_plain (thn (ha pins s σ H _ I h) fun v s1 ⟨x, H1, I1, r1, q1⟩ => tru_ok pins s1 σ H1 x v Q I1 r1 q1) (he _)

/-! ### strs and bytes -/
theorem pe_byt {x : List UInt8} {k : Nat} : PE X (.Constant (.bytes x) k pos) (fun _ H Q => Q (.byt x.toArray) H) := fun _ _ _ H _ I h => PySem.W.Constant_bytes ⟨.byt x.toArray, H, I.tok _, ⟨_, rfl⟩, h⟩
theorem op_add_str : OpR X (binaryOp .Add) (fun x y H Q => ∃ i j, x = .str i ∧ y = .str j ∧ i.length + j.length ≤ sizeLine ∧ Q (.str (i ++ j)) H) := by
  intro pins s σ H x y v u Q I rx ry h
  obtain ⟨i, j, rfl, rfl, hz, q⟩ := h
  obtain ⟨t, rfl⟩ := rx
  obtain ⟨t', rfl⟩ := ry
  exact add_str (fun t' tk => ⟨.str (i ++ j), H, I.tok _, ⟨_, rfl⟩, q⟩) hz
theorem iop_add_str : OpR X (inplaceOp .Add) (fun x y H Q => ∃ i j, x = .str i ∧ y = .str j ∧ i.length + j.length ≤ sizeLine ∧ Q (.str (i ++ j)) H) := by
  intro pins s σ H x y v u Q I rx ry h
  obtain ⟨i, j, rfl, rfl, hz, q⟩ := h
  obtain ⟨t, rfl⟩ := rx
  obtain ⟨t', rfl⟩ := ry
  exact iadd_str (fun t' tk => ⟨.str (i ++ j), H, I.tok _, ⟨_, rfl⟩, q⟩) hz
theorem op_add_byt : OpR X (binaryOp .Add) (fun x y H Q => ∃ i j, x = .byt i ∧ y = .byt j ∧ i.size + j.size ≤ 16777216 ∧ Q (.byt (i ++ j)) H) := by
  intro pins s σ H x y v u Q I rx ry h
  obtain ⟨i, j, rfl, rfl, hz, q⟩ := h
  obtain ⟨t, rfl⟩ := rx
  obtain ⟨t', rfl⟩ := ry
  exact PySem.W.KBy.add_bytes hz (fun t' tk => ⟨.byt (i ++ j), H, I.tok _, ⟨_, rfl⟩, q⟩)

def PlainIxT (b : Expr) : Prop := ∀ o i, subscripted b false o i = operate [o, i] (getItem o i)
/-- s[i], 0 ≤ i < len -/
theorem pe_item_str (ha : PE X a ta) (hb : PE X b tb) (hs : PlainIxT b) :
    PE X (.Subscript a b pos) (tOp (fun x y H Q => ∃ z i c, x = .str z ∧ y = .int i ∧ 0 ≤ i ∧ i < 2 ^ 63 ∧ i < z.length ∧ z.cps[i.toNat]? = some c ∧ Q (.str ⟨#[c]⟩) H) ta tb) := by
  intro pins s σ H Q I h
  refine Subscript_ (binT ha hb I h fun v u s2 x y H2 I2 rx ry q => ?_)
  obtain ⟨z, i, c, rfl, rfl, h0, h63, h1, hc, q⟩ := q
  obtain ⟨t, rfl⟩ := rx
  obtain ⟨t', rfl⟩ := ry
  have e : seqIndex? i z.length = some i.toNat := PySem.StrLaws.seqIndex_nonneg h0 h1
  exact tail_any (typeIs_str s2 z t) slot_str_getitem.lookup (getItem_str (c := c) (by
    have e1 : decide (i < -(2 ^ 63 : Int)) = false := decide_eq_false (by omega)
    have e2 : decide (i ≥ 2 ^ 63) = false := decide_eq_false (by omega)
    rw [e1, e2] <;> rfl) (by rw [e]; exact hc) ⟨.str ⟨#[c]⟩, H2, I2.tok _, ⟨_, rfl⟩, q⟩) (hs _ _)
/-- b[i], 0 ≤ i < len -/
theorem pe_item_byt (ha : PE X a ta) (hb : PE X b tb) (hs : PlainIxT b) :
    PE X (.Subscript a b pos) (tOp (fun x y H Q => ∃ (z : List UInt8) (i : Int), x = .byt z.toArray ∧ y = .int i ∧ z.length ≤ sizeLine ∧ 0 ≤ i ∧ i < z.length ∧ Q (.int ((z.getD i.toNat 0).toNat : Nat)) H) ta tb) := by
  intro pins s σ H Q I h
  refine Subscript_ (binT ha hb I h fun v u s2 x y H2 I2 rx ry q => ?_)
  obtain ⟨z, i, rfl, rfl, hz, h0, h1, q⟩ := q
  obtain ⟨t, rfl⟩ := rx
  obtain ⟨t', rfl⟩ := ry
  have hl : sizeLine = 16777216 := sizeLine_eq
  exact tail_any (PySem.W.typeIs_bytes s2 z.toArray t) PySem.W.FB.slot_bytes_getitem.lookup (PySem.W.getItem_bytes (by omega) h0 h1 ⟨.int ((z.getD i.toNat 0).toNat : Nat), H2, I2.tok _, ⟨_, rfl⟩, q⟩) (hs _ _)

/-! ### scalar builtins, by CallR -/
theorem vals1 {x : V} {us : List Value} (r : Vals [x] us) : ∃ u, us = [u] ∧ RelV x u := by
  cases r with
  | cons r1 r2 => cases r2; exact ⟨_, rfl, r1⟩
theorem vals2 {x y : V} {us : List Value} (r : Vals [x, y] us) : ∃ u w', us = [u, w'] ∧ RelV x u ∧ RelV y w' := by
  cases r with
  | cons r1 r2 =>
    cases r2 with
    | cons r3 r4 => cases r4; exact ⟨_, _, rfl, r1, r3⟩
theorem call_abs : CallR X (.builtin "abs") (fun xs H Q => ∃ i, xs = [.int i] ∧ Q (.int (if i < 0 then -i else i)) H) := by
  intro pins s σ H xs us Q I r h
  obtain ⟨i, rfl, q⟩ := h
  obtain ⟨u, rfl, t, rfl⟩ := vals1 r
  exact call_abs_int fun u tk => ⟨.int (if i < 0 then -i else i), H, I.tok _, ⟨_, rfl⟩, q⟩
theorem call_max2 (hc : X.calm = true) : CallR X (.builtin "max") (fun xs H Q => ∃ i j, xs = [.int i, .int j] ∧ Q (.int (if j > i then j else i)) H) := by
  intro pins s σ H xs us Q I r h
  obtain ⟨i, j, rfl, q⟩ := h
  obtain ⟨u, w', rfl, ⟨t, rfl⟩, ⟨t', rfl⟩⟩ := vals2 r
  refine max_two_ints (I.ok.hd hc) fun h' tk k => ⟨_, H, I.kept k, ?_, q⟩
  by_cases hj : j > i
  · rw [if_pos hj, if_pos hj]; exact ⟨_, rfl⟩
  · rw [if_neg hj, if_neg hj]; exact ⟨_, rfl⟩
theorem call_min2 (hc : X.calm = true) : CallR X (.builtin "min") (fun xs H Q => ∃ i j, xs = [.int i, .int j] ∧ Q (.int (if j < i then j else i)) H) := by
  intro pins s σ H xs us Q I r h
  obtain ⟨i, j, rfl, q⟩ := h
  obtain ⟨u, w', rfl, ⟨t, rfl⟩, ⟨t', rfl⟩⟩ := vals2 r
  refine min_two_ints (I.ok.hd hc) fun h' tk k => ⟨_, H, I.kept k, ?_, q⟩
  by_cases hj : j < i
  · rw [if_pos hj, if_pos hj]; exact ⟨_, rfl⟩
  · rw [if_neg hj, if_neg hj]; exact ⟨_, rfl⟩
theorem call_int1 : CallR X (.type "int") (fun xs H Q => (∃ i, xs = [.int i] ∧ Q (.int i) H) ∨ ∃ k, xs = [.bl k] ∧ Q (.int (if k then 1 else 0)) H) := by
  intro pins s σ H xs us Q I r h
  rcases h with ⟨i, rfl, q⟩ | ⟨k, rfl, q⟩
  · obtain ⟨u, rfl, t, rfl⟩ := vals1 r
    exact call_int_int ⟨.int i, H, I, ⟨_, rfl⟩, q⟩
  · obtain ⟨u, rfl, r1⟩ := vals1 r
    cases r1
    exact call_int_bool ⟨.int (if k then 1 else 0), H, I.tok _, ⟨_, rfl⟩, q⟩
theorem call_bool1 : CallR X (.type "bool") (fun xs H Q => (∃ i, xs = [.int i] ∧ Q (.bl (i != 0)) H) ∨ ∃ k, xs = [.bl k] ∧ Q (.bl k) H) := by
  intro pins s σ H xs us Q I r h
  rcases h with ⟨i, rfl, q⟩ | ⟨k, rfl, q⟩
  · obtain ⟨u, rfl, t, rfl⟩ := vals1 r
    exact call_bool_int ⟨.bl (i != 0), H, I, rfl, q⟩
  · obtain ⟨u, rfl, r1⟩ := vals1 r
    cases r1
    exact call_bool_bool ⟨.bl k, H, I, rfl, q⟩
theorem call_str_int : CallR X (.type "str") (fun xs H Q => ∃ i, xs = [.int i] ∧ i.natAbs.log2 < 1920 ∧ Q (.str (toString i)) H) := by
  intro pins s σ H xs us Q I r h
  obtain ⟨i, rfl, hz, q⟩ := h
  obtain ⟨u, rfl, t, rfl⟩ := vals1 r
  exact PySem.P.str_of_int hz ⟨.str _, H, I.tok _, ⟨_, rfl⟩, q⟩
theorem call_ord : CallR X (.builtin "ord") (fun xs H Q => ∃ x, xs = [.str x] ∧ x.length = 1 ∧ Q (.int (x.cps.getD 0 0 : Nat)) H) := by
  intro pins s σ H xs us Q I r h
  obtain ⟨x, rfl, hz, q⟩ := h
  obtain ⟨u, rfl, t, rfl⟩ := vals1 r
  exact ord_of_one hz ⟨.int _, H, I.tok _, ⟨_, rfl⟩, q⟩
theorem call_chr : CallR X (.builtin "chr") (fun xs H Q => ∃ i, xs = [.int i] ∧ 0 ≤ i ∧ i ≤ 1114111 ∧ Q (.str ⟨#[i.toNat]⟩) H) := by
  intro pins s σ H xs us Q I r h
  obtain ⟨i, rfl, h0, h1, q⟩ := h
  obtain ⟨u, rfl, t, rfl⟩ := vals1 r
  exact chr_of_range h0 h1 ⟨.str _, H, I.tok _, ⟨_, rfl⟩, q⟩
/-- len of a str, a bytes, a list, a tuple -/
def LenV (K : PySem.W.Frag) (x : V) (H : Hp) (n : Nat) : Prop :=
  match x with
  | .str y => y.length ≤ sizeLine ∧ n = y.length
  | .byt y => y.size ≤ sizeLine ∧ n = y.size
  | .ref p => (∃ xs, SqL K H p xs ∧ n = xs.length) ∨ ∃ xs, SqT K H p xs ∧ n = xs.length
  | _ => False
theorem call_len : CallR X (.builtin "len") (fun xs H Q => ∃ x n, xs = [x] ∧ LenV X.K x H n ∧ Q (.int n) H) := by
  intro pins s σ H xs us Q I r h
  obtain ⟨x, n, rfl, e, q⟩ := h
  obtain ⟨u, rfl, rx⟩ := vals1 r
  have hl := line63
  have hs : sizeLine = 16777216 := sizeLine_eq
  cases x with
  | str y =>
    obtain ⟨t, rfl⟩ := rx
    obtain ⟨hy, e'⟩ : y.length ≤ sizeLine ∧ n = y.length := e
    subst e'
    exact len_str (by omega) ⟨.int _, H, I.tok _, ⟨_, rfl⟩, q⟩
  | byt y =>
    obtain ⟨t, rfl⟩ := rx
    obtain ⟨hy, e'⟩ : y.size ≤ sizeLine ∧ n = y.size := e
    subst e'
    exact PySem.W.len_bytes (by omega) ⟨.int _, H, I.tok _, ⟨_, rfl⟩, q⟩
  | ref p =>
    cases rx
    have e' : (∃ xs, SqL X.K H p xs ∧ n = xs.length) ∨ ∃ xs, SqT X.K H p xs ∧ n = xs.length := e
    rcases e' with ⟨xs, hx, e'⟩ | ⟨xs, hx, e'⟩
    · subst e'
      obtain ⟨its, r', pl, hz⟩ := I.list hx
      have hlen := r'.length
      exact Calls.call_len_list pl.isList (by simp only [List.size_toArray]; omega) ⟨.int xs.length, H, I.tok _, ⟨_, by simp only [List.size_toArray]; rw [hlen]⟩, q⟩
    · subst e'
      obtain ⟨its, r', pl, hz⟩ := I.tuple hx
      have hlen := r'.length
      exact len_tuple pl (by simp only [List.size_toArray]; omega) ⟨.int xs.length, H, I.tok _, ⟨_, by simp only [List.size_toArray]; rw [hlen]⟩, q⟩
  | _ => exact (show False from e).elim
/-- divmod: a new tuple -/
theorem call_divmod : CallR X (.builtin "divmod") (fun xs H Q => ∃ i j, xs = [.int i, .int j] ∧ CDiv i j ∧ ∀ p, H p = none → Q (.ref p) (upd H p (.tup [.int (i / j), .int (i % j)]))) := by
  intro pins s σ H xs us Q I r h
  obtain ⟨i, j, rfl, ⟨h1, h2⟩, q⟩ := h
  obtain ⟨u, w', rfl, ⟨t, rfl⟩, ⟨t', rfl⟩⟩ := vals2 r
  refine divmod_int (by omega) ?_ (.inl (PyProof.noPylong_small (by omega)))
  rw [Int.fdiv_eq_ediv_of_nonneg i (by omega), Int.fmod_eq_emod_of_nonneg i (by omega)]
  have hn : H s.heap.objs.size = none := I.hok.fresh (Nat.le_refl _)
  refine ⟨.ref s.heap.objs.size, _, ?_, rfl, q _ hn⟩
  refine I.laid (fun b o e => Heap.get?_push_of_some _ e) (Nat.le_refl _) ⟨by simp only [List.length_cons, List.length_nil]; rw [sizeLine_eq]; decide, [.int (i / j) s.toks, .int (i % j) (s.toks + 1)], .cons ⟨_, rfl⟩ (.cons ⟨_, rfl⟩ .nil), ?_⟩
  exact ⟨_, Heap.get?_push_size s.heap rfl, rfl, 0, rfl⟩
end
end L2

namespace L2
open PySem PySem.Spec PyProof.Rows

/-! ### an instance, its attributes a map -/
structure ObjM (h : Heap) (x dx C : Addr) (mA : Str → Option Value) : Prop where
  obj : h.get? x = some (PySem.W.instObj C dx)
  ns : h.Ns1 dx mA
  ne : dx ≠ x

theorem lookIn_ns {h : Heap} {dx : Addr} {mA : Str → Option Value} (n : h.Ns1 dx mA) : ∃ od, h.get? dx = some od ∧ ∀ name, PySem.W.lookIn name od = some (mA name) := by
  obtain ⟨o, es, ep, ho, hd, hk, _, hm⟩ := n
  refine ⟨o, ho, fun name => ?_⟩
  have e := hm name
  unfold nsFind findBy at e
  rw [← Array.find?_toList] at e
  unfold PySem.W.lookIn
  rw [hd]
  dsimp only
  split
  · rename_i y q
    rw [q] at e
    exact congrArg some e
  · rename_i q
    rw [q] at e
    have a : es.toList.any (·.refKey) = false := by
      rw [List.any_eq_false]
      intro y hy
      obtain ⟨z, t, hkey⟩ := hk y (Array.mem_toList_iff.mp hy)
      simp [DictEntry.refKey, hkey]
    have a' : ¬ es.toList.any (·.refKey) = true := by rw [a]; exact Bool.false_ne_true
    rw [if_neg a']
    exact congrArg some e

theorem ObjM.look {h : Heap} {x dx C : Addr} {mA : Str → Option Value} (I : ObjM h x dx C mA) : ∃ od, PySem.W.InstAt h x (PySem.W.instObj C dx) C (some od) ∧ ∀ name, PySem.W.lookIn name od = some (mA name) :=
  let ⟨od, ho, hl⟩ := lookIn_ns I.ns
  ⟨od, ⟨I.obj, rfl, rfl, ho⟩, hl⟩

section
variable {prog : Program} {w : World} {A : Around} {E : Value → Shared → Prop} {s : Shared} {K : PySem.W.Frag} {x dx C f : Addr} {mA : Str → Option Value} {name : Str} {v : Value}

theorem get_map {expr : Bool} {Q : Value → Shared → Prop} (X : K.In s.heap) (I : ObjM s.heap x dx C mA) (hg : PySem.W.plainGet K C name = true) (hh : PySem.W.hasDictIn K C = true)
    (ha : PySem.W.findIn K (.ref C) name = some none) (hv : mA name = some v) (hv' : PySem.W.handedIn v = true) (h : Q v { s with toks := s.toks + 1 }) :
    wpAny (model prog w) A (getAttr (.ref x) name expr) Q E s := by
  obtain ⟨od, J, hl⟩ := I.look
  exact PySem.W.get_value X J (PySem.W.plainGet_of hg).1 (PySem.W.findObj_own hh ha rfl (by rw [hl, hv])) hv' h

theorem get_const {expr : Bool} {a : Value} {Q : Value → Shared → Prop} (X : K.In s.heap) (I : ObjM s.heap x dx C mA) (hg : PySem.W.plainGet K C name = true) (hh : PySem.W.hasDictIn K C = true)
    (ha : PySem.W.findIn K (.ref C) name = some (some a)) (hn : PySem.W.specialIn K a "__get__" = some none) (hc : PySem.W.copiedNames.contains name = false) (hv : mA name = none) (hv' : PySem.W.handedIn a = true)
    (h : Q a { s with toks := s.toks + 1 }) : wpAny (model prog w) A (getAttr (.ref x) name expr) Q E s := by
  obtain ⟨od, J, hl⟩ := I.look
  exact PySem.W.get_value X J (PySem.W.plainGet_of hg).1 (PySem.W.findObj_cls hh ha hn hv' hc (by rw [hl, hv])) hv' h

theorem get_meth {pl : Sem Bool} {Q : Value × List Value → Shared → Prop} (X : K.In s.heap) (I : ObjM s.heap x dx C mA) (hg : PySem.W.plainGet K C name = true)
    (hf : PySem.W.findIn K (.ref C) name = some (some (.ref f))) (ht : PySem.W.isFn K (.ref f) = true) (hv : mA name = none) (h : Q (.ref f, [.ref x]) s) :
    wpAny (model prog w) A (getMethod (.ref x) name pl) Q E s := by
  obtain ⟨od, J, hl⟩ := I.look
  exact PySem.W.method_fn X J (PySem.W.plainGet_of hg).1 (PySem.W.plainGet_of hg).2 hf (beq_iff_eq.mp ht) (by show (PySem.W.lookIn name od).map (·.isSome) = some false; rw [hl, hv]; rfl) h

theorem set_map {ns : List Str} {Q : Unit → Shared → Prop} (X : K.In s.heap) (I : ObjM s.heap x dx C mA)
    (hs : PySem.W.findIn K (.ref C) "__setattr__" = some (some (.builtin "object.__setattr__"))) (hp : PySem.W.plainOver K C = true) (ht : PySem.W.takerIn K C name = some none) (hh : PySem.W.hasDictIn K C = true)
    (hw : PySem.Within mA ns) (hsz : ns.length ≤ sizeLine)
    (h : ∀ h', ObjM h' x dx C (fun y => if y = name then some v else mA y) → Heap.SameBut dx s.heap h' → Q () { s with heap := h', toks := s.toks + 2 }) :
    wpAny (model prog w) A (setAttr (.ref x) name v) Q E s := by
  obtain ⟨od, J, hl⟩ := I.look
  refine PySem.W.set_plain X J hs (PySem.W.osa_open (s := { s with toks := s.toks + 1 }) (r := none) X J hp ht fun b => ?_)
  obtain ⟨cd, hc, hd'⟩ := PySem.W.any_some hh
  have hx : s.heap.get? x = some ⟨.ref C, some dx, .plain, #[]⟩ := I.obj
  refine wpAny_bind (wpAny_pure (wpAny_bind (wpAny_bind (wpAny_loadPart hx (wpAny_bind (PySem.W.Looks.here (s := { s with toks := s.toks + 1 }) (PySem.W.looks_clsIn X hc) ?_))))))
  rw [hd']
  refine wpAny_pure (a := some dx) (wpAny_bind (wpAny_pure (wpAny_bind ?_)))
  refine wpAny_nsSet1 (s := { s with toks := s.toks + 1 }) I.ns fun h' hn2 hs2 => ?_
  obtain ⟨oD, esD, epD, hoD, hdD, hcD⟩ := hn2.count (PySem.Within.cons name v hw)
  refine wpAny_bind (wpAny_lookBehind hoD (by rw [hdD]; exact pastItsLine_dict (Nat.le_trans hcD (by rw [List.length_cons]; omega))) ?_)
  exact wpAny_pure (h _ ⟨(hs2.2 _ (Ne.symm I.ne)).trans I.obj, hn2, I.ne⟩ hs2)

/-- C(..): the dict at the heap's end, the instance behind it; then its __init__ -/
theorem make_map {R : Result → Shared → Prop} {vs : List Value} {kw : List (Str × Value)} (X : K.In s.heap) (hm : PySem.W.makesIn K C = true)
    (hi : PySem.W.findIn K (.ref C) "__init__" = some (some (.ref f))) (hf : PySem.W.typeIn K (.ref f) = some (.type "function"))
    (h : codeAny (model prog w) (A.under (.builtin "type.__call__" ⟨.ref C :: vs, kw⟩)) (.call (.ref f) ⟨.ref (s.heap.objs.size + 1) :: vs, kw⟩) (PySem.W.InitBack (s.heap.objs.size + 1) R)
      { s with heap := (s.heap.push PySem.W.emptyDict).push (PySem.W.instObj C s.heap.objs.size) }) :
    codeAny (model prog w) A (.call (.ref C) ⟨vs, kw⟩) R s := by
  obtain ⟨hh, g, d, t, os⟩ := s
  exact PySem.W.make_core (PySem.W.makes_of X hm) (PySem.W.looks_findIn X hi) (fun self => PySem.W.bind_fn X self hf) (.inl rfl) h
/-- C() where there is no __init__ but object's -/
theorem make_map0 {R : Result → Shared → Prop} (X : K.In s.heap) (hm : PySem.W.makesIn K C = true)
    (hi : PySem.W.findIn K (.ref C) "__init__" = some (some (.builtin "object.__init__")))
    (hb : ∀ self, PySem.W.Looks (model prog w) s.heap (bindSpecial (.builtin "object.__init__") self) (.builtin "object.__init__", [self]))
    (h : codeAny (model prog w) (A.under (.builtin "type.__call__" ⟨[.ref C], []⟩)) (.call (.builtin "object.__init__") ⟨[.ref (s.heap.objs.size + 1)], []⟩) (PySem.W.InitBack (s.heap.objs.size + 1) R)
      { s with heap := (s.heap.push PySem.W.emptyDict).push (PySem.W.instObj C s.heap.objs.size) }) :
    codeAny (model prog w) A (.call (.ref C) ⟨[], []⟩) R s := by
  obtain ⟨hh, g, d, t, os⟩ := s
  exact PySem.W.make_core (PySem.W.makes_of X hm) (PySem.W.looks_findIn X hi) hb (.inr ⟨rfl, rfl⟩) h
end

/-! ### the attributes as a list of pairs -/
def putF (f : Str) (v : V) : List (Str × V) → List (Str × V)
  | [] => [(f, v)]
  | (g, x) :: r => if g = f then (g, v) :: r else (g, x) :: putF f v r
theorem lookup_putF (f g : Str) (v : V) : ∀ fs : List (Str × V), (putF f v fs).lookup g = if g = f then some v else fs.lookup g
  | [] => by
    show List.lookup g [(f, v)] = _
    by_cases h : g = f
    · have hb : (g == f) = true := beq_iff_eq.mpr h
      simp only [List.lookup, hb, if_pos h]
    · have hb : (g == f) = false := beq_eq_false_iff_ne.mpr h
      simp only [List.lookup, hb, if_neg h]
  | (k, x) :: r => by
    have ih := lookup_putF f g v r
    rw [show putF f v ((k, x) :: r) = (if k = f then (k, v) :: r else (k, x) :: putF f v r) from rfl]
    by_cases hk : k = f
    · rw [if_pos hk]
      by_cases h : g = k
      · have hb : (g == k) = true := beq_iff_eq.mpr h
        simp only [List.lookup, hb, if_pos (h.trans hk)]
      · have hb : (g == k) = false := beq_eq_false_iff_ne.mpr h
        simp only [List.lookup, hb, if_neg (fun e : g = f => h (e.trans hk.symm))]
    · rw [if_neg hk]
      by_cases h : g = k
      · have hb : (g == k) = true := beq_iff_eq.mpr h
        simp only [List.lookup, hb, if_neg (fun e : g = f => hk (h.symm.trans e))]
      · have hb : (g == k) = false := beq_eq_false_iff_ne.mpr h
        simp only [List.lookup, hb]
        exact ih
theorem keys_putF (f : Str) (v : V) : ∀ fs : List (Str × V), f ∈ (putF f v fs).map (·.1) ∧ ∀ g, g ∈ fs.map (·.1) → g ∈ (putF f v fs).map (·.1)
  | [] => ⟨by simp [putF], fun g h => by simp at h⟩
  | (k, x) :: r => by
    obtain ⟨i1, i2⟩ := keys_putF f v r
    rw [show putF f v ((k, x) :: r) = (if k = f then (k, v) :: r else (k, x) :: putF f v r) from rfl]
    by_cases hk : k = f
    · rw [if_pos hk]
      subst hk
      exact ⟨by simp, fun g h => by simpa using h⟩
    · rw [if_neg hk]
      refine ⟨?_, fun g h => ?_⟩
      · rw [List.map_cons]
        exact List.mem_cons_of_mem _ i1
      · rw [List.map_cons] at h ⊢
        rcases List.mem_cons.mp h with e | e
        · exact List.mem_cons.mpr (.inl e)
        · exact List.mem_cons_of_mem _ (i2 g e)
theorem length_putF (f : Str) (v : V) : ∀ fs : List (Str × V), (putF f v fs).length ≤ fs.length + 1
  | [] => by simp [putF]
  | (k, x) :: r => by
    have ih := length_putF f v r
    rw [show putF f v ((k, x) :: r) = (if k = f then (k, v) :: r else (k, x) :: putF f v r) from rfl]
    by_cases hk : k = f
    · rw [if_pos hk, List.length_cons, List.length_cons]; omega
    · rw [if_neg hk, List.length_cons, List.length_cons]; omega

theorem RelO.some_of {v : V} {o : Option Value} (r : RelO (some v) o) : ∃ u, o = some u ∧ RelV v u := by
  cases o with
  | none => exact (show False from r).elim
  | some u => exact ⟨u, rfl, r⟩
theorem RelO.none_of {o : Option Value} (r : RelO none o) : o = none := by
  cases o with
  | none => rfl
  | some u => exact (show False from r).elim
theorem handed_of {v : V} {u : Value} (r : RelV v u) : PySem.W.handedIn u = true := by
  cases v with
  | non => cases (show u = Value.none from r); rfl
  | bl b => cases (show u = Value.bool b from r); rfl
  | int i => obtain ⟨t, e⟩ := (show ∃ t, u = Value.int i t from r); cases e; rfl
  | str x => obtain ⟨t, e⟩ := (show ∃ t, u = Value.str x t from r); cases e; rfl
  | byt b => obtain ⟨t, e⟩ := (show ∃ t, u = Value.bytes b t from r); cases e; rfl
  | flt b => obtain ⟨t, e⟩ := (show ∃ t, u = Value.float b t from r); cases e; rfl
  | ref a => cases (show u = Value.ref a from r); rfl
  | ty n => cases (show u = Value.type n from r); rfl

section
variable {P : Program} {w : World} {H H' : Hp} {h h' : Heap} {a C dx : Addr} {fs fs' : List (Str × V)}
theorem ins_get (hok : HOk P w H h) (e : H a = some (.ins C dx fs)) : ∃ mA, ObjM h a dx C mA ∧ (∀ f, RelO (fs.lookup f) (mA f)) ∧ PySem.Within mA (fs.map (·.1)) ∧ fs.length ≤ 1000 ∧ H dx = some (.own a) := by
  obtain ⟨d, z, ne, ob, mA, n, r, q⟩ := (show ObjOk P w H h a (.ins C dx fs) from hok a _ e)
  exact ⟨mA, ⟨ob, n, ne⟩, r, q, z, d⟩
end

/-! ### what of the text a class must have -/
structure Cls (K : PySem.W.Frag) (C : Addr) : Prop where
  pg : PySem.W.plainGet K C Str.empty = true
  hd : PySem.W.hasDictIn K C = true
  po : PySem.W.plainOver K C = true
  sa : PySem.W.findIn K (.ref C) "__setattr__" = some (some (.builtin "object.__setattr__"))
theorem Cls.get {K : PySem.W.Frag} {C : Addr} (c : Cls K C) (f : Str) : PySem.W.plainGet K C f = true := c.pg
/-- no class of it has the name -/
def NoAttr (K : PySem.W.Frag) (C : Addr) (f : Str) : Prop := PySem.W.findIn K (.ref C) f = some none
theorem NoAttr.taker {K : PySem.W.Frag} {C : Addr} {f : Str} (n : NoAttr K C f) : PySem.W.takerIn K C f = some none := by
  unfold PySem.W.takerIn
  rw [show PySem.W.findIn K (.ref C) f = some none from n]
  rfl
/-- a constant of the class -/
structure Con (K : PySem.W.Frag) (C : Addr) (f : Str) (v : V) (u : Value) : Prop where
  at_ : PySem.W.findIn K (.ref C) f = some (some u)
  rel : RelV v u
  get : PySem.W.specialIn K u "__get__" = some none
  cp : PySem.W.copiedNames.contains f = false
/-- a method: a plain def of the class or of one above it -/
structure Meth (K : PySem.W.Frag) (C : Addr) (m : Str) (f : Addr) : Prop where
  at_ : PySem.W.findIn K (.ref C) m = some (some (.ref f))
  fn : PySem.W.isFn K (.ref f) = true
  kp : PySem.W.keepIn K (.ref f) = true

section
variable {X : Cx} {pins : List (Addr × Obj)} {σ : St} {H : Hp} {s : Shared} {a C dx : Addr} {fs : List (Str × V)} {f : Str} {v : V} {A : Around} {E : Value → Shared → Prop}

theorem getattr_ok {b : Bool} {Q : Value → Shared → Prop} (I : Inv X pins σ H s) (e : H a = some (.ins C dx fs)) (c : Cls X.K C) (n : NoAttr X.K C f) (l : fs.lookup f = some v)
    (h : ∀ u s', Inv X pins σ H s' → RelV v u → Q u s') : wpAny (model X.prog X.w) A (getAttr (.ref a) f b) Q E s := by
  obtain ⟨mA, O, r, _, _, _⟩ := ins_get I.hok e
  obtain ⟨u, hu, ru⟩ := RelO.some_of (v := v) (o := mA f) (by rw [← l]; exact r f)
  exact get_map I.kIn O (c.get f) c.hd n hu (handed_of ru) (h u _ (I.tok _) ru)

theorem getcon_ok {b : Bool} {u : Value} {Q : Value → Shared → Prop} (I : Inv X pins σ H s) (e : H a = some (.ins C dx fs)) (c : Cls X.K C) (k : Con X.K C f v u) (l : fs.lookup f = none)
    (h : ∀ s', Inv X pins σ H s' → Q u s') : wpAny (model X.prog X.w) A (getAttr (.ref a) f b) Q E s := by
  obtain ⟨mA, O, r, _, _, _⟩ := ins_get I.hok e
  have hn : mA f = none := RelO.none_of (by rw [← l]; exact r f)
  exact get_const I.kIn O (c.get f) c.hd k.at_ k.get k.cp hn (handed_of k.rel) (h _ (I.tok _))

theorem getmeth_ok {m : Str} {g : Addr} {pl : Sem Bool} {Q : Value × List Value → Shared → Prop} (I : Inv X pins σ H s) (e : H a = some (.ins C dx fs)) (c : Cls X.K C) (k : Meth X.K C m g) (l : fs.lookup m = none)
    (h : Q (.ref g, [.ref a]) s) : wpAny (model X.prog X.w) A (getMethod (.ref a) m pl) Q E s := by
  obtain ⟨mA, O, r, _, _, _⟩ := ins_get I.hok e
  have hn : mA m = none := RelO.none_of (by rw [← l]; exact r m)
  exact get_meth I.kIn O (c.get m) k.at_ k.fn hn h

theorem setattr_ok {y : V} {u : Value} {Q : Unit → Shared → Prop} (I : Inv X pins σ H s) (e : H a = some (.ins C dx fs)) (c : Cls X.K C) (n : NoAttr X.K C f) (hl : fs.length < 1000) (ry : RelV y u)
    (h : ∀ s', Inv X pins σ (upd H a (.ins C dx (putF f y fs))) s' → Q () s') : wpAny (model X.prog X.w) A (setAttr (.ref a) f u) Q E s := by
  obtain ⟨mA, O, r, wi, _, ho⟩ := ins_get I.hok e
  have hz : (fs.map (·.1)).length ≤ sizeLine := by rw [List.length_map, sizeLine_eq]; omega
  refine set_map I.kIn O c.sa c.po n.taker c.hd wi hz fun h' O' sb => h _ ?_
  have hd : ∃ o, h'.get? dx = some o := let ⟨o, _, _, e', _⟩ := O'.ns; ⟨o, e'⟩
  refine I.write (x := a) (e := dx) (by rw [e]; exact True.intro) (.inr ho) (fun b q hb z => (sb.2 b hb).trans z) hd ?_
  refine ⟨by rw [upd_ne O.ne]; exact ho, ?_, O.ne, O'.obj, _, O'.ns, fun g => ?_, fun g hg => ?_⟩
  · have := length_putF f y fs; omega
  · show RelO ((putF f y fs).lookup g) (if g = f then some u else mA g)
    rw [lookup_putF]
    by_cases q : g = f
    · rw [if_pos q, if_pos q]; exact ry
    · rw [if_neg q, if_neg q]; exact r g
  · by_cases q : g = f
    · rw [q]; exact (keys_putF f y fs).1
    · refine (keys_putF f y fs).2 g (wi g fun z => hg ?_)
      show (if g = f then some u else mA g) = none
      rw [if_neg q]; exact z

/-- a new instance, tracked, without attributes -/
theorem Inv.made (I : Inv X pins σ H s) : Inv X pins σ (upd (upd H s.heap.objs.size (.own (s.heap.objs.size + 1))) (s.heap.objs.size + 1) (.ins C s.heap.objs.size []))
    { s with heap := (s.heap.push PySem.W.emptyDict).push (PySem.W.instObj C s.heap.objs.size) } := by
  have e1 : (s.heap.push PySem.W.emptyDict).get? s.heap.objs.size = some PySem.W.emptyDict := Heap.get?_push_size s.heap rfl
  have e2 : ((s.heap.push PySem.W.emptyDict).push (PySem.W.instObj C s.heap.objs.size)).get? (s.heap.objs.size + 1) = some (PySem.W.instObj C s.heap.objs.size) := by
    have := Heap.get?_push_size (s.heap.push PySem.W.emptyDict) (o := PySem.W.instObj C s.heap.objs.size) rfl
    rwa [Heap.size_push] at this
  have e3 : (s.heap.push PySem.W.emptyDict).Ns s.heap.objs.size (fun _ => none) := ⟨PySem.W.emptyDict, #[], _, e1, rfl, (fun e he => absurd he (by simp)), fun _ => rfl⟩
  have I1 := I.laid (a := s.heap.objs.size) (o := .own (s.heap.objs.size + 1)) (h' := s.heap.push PySem.W.emptyDict) (t' := s.toks) (fun b u q => Heap.get?_push_of_some _ q) (Nat.le_refl _) ⟨_, e1⟩
  refine I1.laid (a := s.heap.objs.size + 1) (o := .ins C s.heap.objs.size []) (t' := s.toks) (fun b u q => Heap.get?_push_of_some _ q) (Nat.le_of_eq (Heap.size_push _ _)) ?_
  have ne : s.heap.objs.size ≠ s.heap.objs.size + 1 := Nat.ne_of_lt (Nat.lt_succ_self _)
  refine ⟨by rw [upd_ne ne, upd_same], Nat.zero_le _, ne, e2, fun _ => none, (Heap.Ns1.of_empty e3).at fun o q => Heap.get?_push_of_some _ q, fun _ => True.intro, fun y hy => absurd rfl hy⟩

/-- e.f where nothing but the object is asked: through attributeBase (super) and the last hold -/
theorem attr_of {prog : Program} {w : World} {env : Env} {e : Expr} {f : Str} {pos : Pos} {s : Shared} {Q : Value → Shared → Prop} (hb : attributeBase e f env (eval e env) = eval e env)
    (h : wpAny (model prog w) A (eval e env) (fun o s₁ => wpAny (model prog w) A (getAttr o f true) Q E s₁) E s) : wpAny (model prog w) A (eval (.Attribute e f pos) env) Q E s :=
  Attribute_any_ h (by rw [arm_eval_Attribute, hb])
end

/-! ### readings and rules -/
/-- e.f, an attribute of the instance -/
def tFld (K : PySem.W.Frag) (ta : TE) (f : Str) : TE := fun σ H Q => ta σ H fun x H1 => ∃ a C dx fs v, x = .ref a ∧ H1 a = some (.ins C dx fs) ∧ Cls K C ∧ NoAttr K C f ∧ fs.lookup f = some v ∧ Q v H1
/-- e.f, a constant of the class -/
def tCon (K : PySem.W.Frag) (ta : TE) (f : Str) : TE := fun σ H Q => ta σ H fun x H1 => ∃ a C dx fs v u, x = .ref a ∧ H1 a = some (.ins C dx fs) ∧ Cls K C ∧ Con K C f v u ∧ fs.lookup f = none ∧ Q v H1
/-- e.f = value -/
def sFld (K : PySem.W.Frag) (ta tv : TE) (f : Str) : TS := fun D σ H => tv σ H fun y H1 => ta σ H1 fun x H2 => ∃ a C dx fs, x = .ref a ∧ H2 a = some (.ins C dx fs) ∧ Cls K C ∧ NoAttr K C f ∧ fs.length < 1000 ∧
  D.nx σ (upd H2 a (.ins C dx (putF f y fs)))
/-- an augmented operator on two values -/
def InOp (X : Cx) (op : Operator) (rd : V → V → Hp → VK → Prop) : Prop :=
  ∀ (pins : List (Addr × Obj)) (s : Shared) (σ : St) (H : Hp) (x y : V) (u v : Value) (Q : VK), Inv X pins σ H s → RelV x u → RelV y v → rd x y H Q → wpAny (model X.prog X.w) X.A (inplaceOp op u v) (EP X pins σ Q) X.xe s
/-- e.f op= value -/
def sFldAug (K : PySem.W.Frag) (ta tv : TE) (rd : V → V → Hp → VK → Prop) (f : Str) : TS := fun D σ H => ta σ H fun x H1 => ∃ a C dx fs v, x = .ref a ∧ H1 a = some (.ins C dx fs) ∧ Cls K C ∧ NoAttr K C f ∧ fs.lookup f = some v ∧
  tv σ H1 fun y H2 => rd v y H2 fun z H3 => ∃ dx' fs', H3 a = some (.ins C dx' fs') ∧ fs'.length < 1000 ∧ D.nx σ (upd H3 a (.ins C dx' (putF f z fs')))

section
variable {X : Cx} {o e value : Expr} {f : Str} {pos pos' tpos : Pos} {ta tv : TE}
theorem pe_fld (he : PE X e ta) (hb : attributeBase e f X.env (eval e X.env) = eval e X.env) : PE X (.Attribute e f pos) (tFld X.K ta f) := by
  intro pins s σ H Q I h
  refine attr_of hb (thn (he pins s σ H _ I h) fun u s1 ⟨x, H1, I1, rx, a, C, dx, fs, v, ex, ea, c, n, l, q⟩ => ?_)
  subst ex
  obtain rfl : u = Value.ref a := rx
  exact getattr_ok I1 ea c n l fun u' s2 I2 ru => ⟨v, H1, I2, ru, q⟩
theorem pe_con (he : PE X e ta) (hb : attributeBase e f X.env (eval e X.env) = eval e X.env) : PE X (.Attribute e f pos) (tCon X.K ta f) := by
  intro pins s σ H Q I h
  refine attr_of hb (thn (he pins s σ H _ I h) fun u s1 ⟨x, H1, I1, rx, a, C, dx, fs, v, u0, ex, ea, c, k, l, q⟩ => ?_)
  subst ex
  obtain rfl : u = Value.ref a := rx
  exact getcon_ok I1 ea c k l fun s2 I2 => ⟨v, H1, I2, k.rel, q⟩
theorem ps_fld (ha : PE X o ta) (hv : PE X value tv) (hs : swapsWith value (some (.Attribute o f pos')) pos.line X.env = pure false) : PS X (.Assign [.Attribute o f pos'] value pos) (sFld X.K ta tv f) := by
  intro pins s σ H D I h
  refine plainObj_wpAny_Assign_Attribute (thn (hv pins s σ H _ I h) fun u s1 ⟨y, H1, I1, ry, q⟩ => thn (ha pins s1 σ H1 _ I1 q) fun ov s2 ⟨x, H2, I2, rx, a, C, dx, fs, ex, ea, c, n, l, q2⟩ => ?_) hs
  subst ex
  obtain rfl : ov = Value.ref a := rx
  exact setattr_ok I2 ea c n l ry fun s3 I3 => ⟨σ, _, I3, q2⟩
theorem ps_fldaug {op : Operator} {rd : V → V → Hp → VK → Prop} (ha : PE X o ta) (hv : PE X value tv) (hop : InOp X op rd) : PS X (.AugAssign (.Attribute o f tpos) op value pos) (sFldAug X.K ta tv rd f) := by
  intro pins s σ H D I h
  refine wpAny_AugAssign_AttributeAny (thn (ha pins s σ H _ I h) fun ov s1 ⟨x, H1, I1, rx, a, C, dx, fs, v, ex, ea, c, n, l, q⟩ => ?_)
  subst ex
  obtain rfl : ov = Value.ref a := rx
  refine getattr_ok I1 ea c n l fun u s2 I2 ru => thn (hv pins s2 σ H1 _ I2 q) fun w3 s3 ⟨y, H2, I3, ry, q3⟩ => thn (hop pins s3 σ H2 v y u w3 _ I3 ru ry q3) fun w4 s4 ⟨z, H3, I4, rz, dx', fs', ea', l', q4⟩ => ?_
  exact setattr_ok I4 ea' c n l' rz fun s5 I5 => ⟨σ, _, I5, q4⟩
def rAdd : V → V → Hp → VK → Prop := fun x y H Q => ∃ i j, x = .int i ∧ y = .int j ∧ Q (.int (i + j)) H
def rSub : V → V → Hp → VK → Prop := fun x y H Q => ∃ i j, x = .int i ∧ y = .int j ∧ Q (.int (i - j)) H
theorem in_add : InOp X .Add rAdd := by
  rintro pins s σ H x y u v Q I rx ry ⟨i, j, rfl, rfl, q⟩
  obtain ⟨t, rfl⟩ := (show ∃ t, u = Value.int i t from rx)
  obtain ⟨t', rfl⟩ := (show ∃ t', v = Value.int j t' from ry)
  exact PyProof.Rows.iadd_int ⟨.int (i + j), H, I.tok _, ⟨_, rfl⟩, q⟩
theorem in_sub : InOp X .Sub rSub := by
  rintro pins s σ H x y u v Q I rx ry ⟨i, j, rfl, rfl, q⟩
  obtain ⟨t, rfl⟩ := (show ∃ t, u = Value.int i t from rx)
  obtain ⟨t', rfl⟩ := (show ∃ t', v = Value.int j t' from ry)
  exact PyProof.Rows.isub_int ⟨.int (i - j), H, I.tok _, ⟨_, rfl⟩, q⟩

/-- what is between an instance and its method: the tree of a method call -/
theorem methcall_of {pl : Sem Bool} {m : Str} {apos : Pos} {args : List Expr} {pins : List (Addr × Obj)} {s : Shared} {σ : St} {H : Hp} {Q : Value → Shared → Prop} {te : TE} (he : PE X e te) (I : Inv X pins σ H s)
    (h : te σ H fun x H1 => ∃ a C dx fs g, x = .ref a ∧ H1 a = some (.ins C dx fs) ∧ Cls X.K C ∧ Meth X.K C m g ∧ fs.lookup m = none ∧
      ∀ s1, Inv X pins σ H1 s1 → wpAny (model X.prog X.w) X.A (callWith pos (.ref g) [.ref a] (backTo pos (starEach args X.env)) (backToKw pos (keywordEach [] X.env))) Q X.xe s1)
    (ht : eval (.Call (.Attribute e m apos) args [] pos) X.env = (do
      let ov ← eval e X.env
      standAt apos.atName
      let (f, first) ← holding [ov] (getMethod ov m pl)
      callWith pos f first (backTo pos (starEach args X.env)) (backToKw pos (keywordEach [] X.env)))) :
    wpAny (model X.prog X.w) X.A (eval (.Call (.Attribute e m apos) args [] pos) X.env) Q X.xe s := by
  refine PySem.W.methodCall_KW (pl := pl) (thn (he pins s σ H _ I h) fun u s1 ⟨x, H1, I1, rx, a, C, dx, fs, g, ex, ea, c, k, l, q⟩ => ?_) ht
  subst ex
  obtain rfl : u = Value.ref a := rx
  exact getmeth_ok I1 ea c k l (q s1 I1)
end

/-! ### isinstance -/
section
variable {X : Cx} {pins : List (Addr × Obj)} {σ : St} {H : Hp} {s : Shared} {A : Around} {E : Value → Shared → Prop} {Q : Value → Shared → Prop} {c : Value} {b : Bool}
/-- the type of a value, as the fragment's deciders take it; for an instance its class -/
inductive TyOf (K : PySem.W.Frag) (H : Hp) : V → Value → Prop where
  | non : TyOf K H .non (.type "NoneType")
  | bl (x : Bool) : TyOf K H (.bl x) (.type "bool")
  | int (i : Int) : TyOf K H (.int i) (.type "int")
  | str (x : Str) : TyOf K H (.str x) (.type "str")
  | flt (x : UInt64) : TyOf K H (.flt x) (.type "float")
  | lst {a : Addr} {xs : List V} (e : H a = some (.lst xs)) : TyOf K H (.ref a) (.type "list")
  | frz {a : Addr} {o : Obj} {xs : List V} (e : H a = some (.frz o (.lst xs))) : TyOf K H (.ref a) (.type "list")
  | tup {a : Addr} {xs : List V} (e : H a = some (.tup xs)) : TyOf K H (.ref a) (.type "tuple")
  | dK {a : Addr} {kvs : List (Key × V)} (e : H a = some (.dK kvs)) : TyOf K H (.ref a) (.type "dict")
  | dT {a : Addr} {kvs : List (List Key × V)} (e : H a = some (.dT kvs)) : TyOf K H (.ref a) (.type "dict")
  | ins {a C dx : Addr} {fs : List (Str × V)} (e : H a = some (.ins C dx fs)) (cl : Cls K C) (ha : PySem.W.findIn K (.ref C) "__class__" = some (some (.builtin "object.__class__")))
      (hn : PySem.W.specialIn K (.builtin "object.__class__") "__get__" = some (some (.builtin "getset_descriptor.__get__"))) (htk : PySem.W.takesIn K (.builtin "object.__class__") = some true)
      (hm : PySem.W.mroIn K C (.type "object") = some true) : TyOf K H (.ref a) (.ref C)
/-- isinstance(x, c) for one class c, a built-in or an own one: kitOne's answer -/
theorem isinst_ok {x : V} {u t : Value} (I : Inv X pins σ H s) (rx : RelV x u) (ty : TyOf X.K H x t) (e : PySem.W.kitOne X.K t c = some b) (h : ∀ tk, Q (.bool b) { s with toks := tk }) :
    wpAny (model X.prog X.w) A (call (.builtin "isinstance") [u, c]) Q E s := by
  cases ty with
  | non => cases (show u = Value.none from rx); exact PySem.W.kia_one PySem.W.kitx_none I.kIn True.intro e (fun z => nomatch z) h
  | bl y => cases (show u = Value.bool y from rx); exact PySem.W.kia_one PySem.W.kitx_bool I.kIn True.intro e (fun z => nomatch z) h
  | int i => obtain ⟨t, q⟩ := (show ∃ t, u = Value.int i t from rx); cases q; exact PySem.W.kia_one PySem.W.kitx_int I.kIn True.intro e (fun z => nomatch z) h
  | str y => obtain ⟨t, q⟩ := (show ∃ t, u = Value.str y t from rx); cases q; exact PySem.W.kia_one PySem.W.kitx_str I.kIn True.intro e (fun z => nomatch z) h
  | flt y => obtain ⟨t, q⟩ := (show ∃ t, u = Value.float y t from rx); cases q; exact PySem.W.kia_one PySem.W.kitx_float I.kIn True.intro e (fun z => nomatch z) h
  | @lst a xs ea =>
    cases (show u = Value.ref a from rx)
    obtain ⟨_, _, n, _, h1⟩ := (show ObjOk X.prog X.w H s.heap a (.lst xs) from I.hok a _ ea)
    exact PySem.W.kia_one PySem.W.kitx_list I.kIn ⟨_, h1, rfl⟩ e (fun z => nomatch z) h
  | @frz a ob xs ea =>
    cases (show u = Value.ref a from rx)
    obtain ⟨_, _, _, n, _, h1⟩ := (show ObjOk X.prog X.w H s.heap a (.frz ob (.lst xs)) from I.hok a _ ea)
    exact PySem.W.kia_one PySem.W.kitx_list I.kIn ⟨_, h1, rfl⟩ e (fun z => nomatch z) h
  | @tup a xs ea =>
    cases (show u = Value.ref a from rx)
    obtain ⟨_, _, _, p⟩ := (show ObjOk X.prog X.w H s.heap a (.tup xs) from I.hok a _ ea)
    obtain ⟨o, h1, h2, _⟩ := p
    exact PySem.W.kia_one PySem.W.kitx_tuple I.kIn ⟨o, h1, h2⟩ e (fun z => nomatch z) h
  | @dK a kvs ea =>
    cases (show u = Value.ref a from rx)
    obtain ⟨_, _, vs, _, p⟩ := (show ObjOk X.prog X.w H s.heap a (.dK kvs) from I.hok a _ ea)
    obtain ⟨o, es, ep, h1, h2, _⟩ := p
    exact PySem.W.kia_one PySem.W.kitx_dict I.kIn ⟨o, h1, h2.1⟩ e (fun z => nomatch z) h
  | @dT a kvs ea =>
    cases (show u = Value.ref a from rx)
    obtain ⟨_, _, xs, _, o, es, ep, h1, h2, _⟩ := (show ObjOk X.prog X.w H s.heap a (.dT kvs) from I.hok a _ ea)
    exact PySem.W.kia_one PySem.W.kitx_dict I.kIn ⟨o, h1, h2.1⟩ e (fun z => nomatch z) h
  | @ins a C dx fs ea cl ha hn htk hm =>
    cases (show u = Value.ref a from rx)
    obtain ⟨mA, O, _⟩ := ins_get I.hok ea
    obtain ⟨od, J, _⟩ := O.look
    exact PySem.W.kia_one (PySem.W.kitx_own (cl.get _) cl.hd ha hn htk hm) I.kIn J e (fun z => nomatch z) h
end
end L2

namespace L2
open PySem PySem.Spec PyProof.Rows

/-! ### room -/
structure Room (k : Nat) (A : Around) : Prop where
  hd : A.handled = none
  dp : A.depth + 3 * k + 5 < recursionLimit
  un : A.units + 16 * k + 200 < cLine
theorem Room.mono {j k : Nat} {A : Around} (r : Room k A) (h : j ≤ k) : Room j A := ⟨r.hd, by have := r.dp; omega, by have := r.un; omega⟩
theorem Room.deeper {k : Nat} {A : Around} (r : Room (k + 1) A) (env : Env) : Room k (A.deeper env) :=
  ⟨r.hd, by have := r.dp; show A.depth + 1 + 3 * k + 5 < _; omega, by have := r.un; show A.units + 3 + 16 * k + 200 < _; omega⟩
theorem Room.in1 {k : Nat} {A : Around} (r : Room (k + 1) A) : Room k A.in1 :=
  ⟨r.hd, by have := r.dp; show A.depth + 3 * k + 5 < _; omega, by have := r.un; show A.units + 1 + 16 * k + 200 < _; omega⟩
theorem make_depth {A : Around} {C : Addr} {us : List Value} {kw : List (Str × Value)} : (A.under (.builtin "type.__call__" ⟨.ref C :: us, kw⟩)).depth = A.depth + 1 := by
  first | rfl | simp [Around.under, Code.weight, Code.isCreation, Code.isGuard, Code.isCaller, Code.frames, Code.isFrame, guardIds]
theorem make_units {A : Around} {C : Addr} {us : List Value} {kw : List (Str × Value)} : (A.under (.builtin "type.__call__" ⟨.ref C :: us, kw⟩)).units = A.units + 1 := by
  first | rfl | simp [Around.under, Code.cUnits, Code.frames, Code.isFrame]
theorem Room.make {k : Nat} {A : Around} (r : Room (k + 1) A) (C : Addr) (us : List Value) (kw : List (Str × Value)) : Room k (A.under (.builtin "type.__call__" ⟨.ref C :: us, kw⟩)) :=
  ⟨r.hd, by have := r.dp; rw [make_depth]; omega, by have := r.un; rw [make_units]; omega⟩
theorem Room.depth {k : Nat} {A : Around} (r : Room k A) : A.depth < recursionLimit := by have := r.dp; omega
theorem Room.units {k : Nat} {A : Around} (r : Room k A) : A.units + 64 < cLine := by have := r.un; omega
theorem Room.units0 {k : Nat} {A : Around} (r : Room k A) : A.units < cLine := by have := r.un; omega

/-! ### argument lists and displays -/
def tNil : TA := fun _ H Q => Q [] H
def tCons (ta : TE) (tr : TA) : TA := fun σ H Q => ta σ H fun x H1 => tr σ H1 fun xs H2 => Q (x :: xs) H2
section
variable {X : Cx} {e : Expr} {es : List Expr} {te : TE} {t : TA} {pos : Pos}
theorem pa_nil : PA X [] tNil := fun _ _ _ _ H Q I h => Calls.spliced_nil ⟨[], H, I, .nil, h⟩
theorem pa_cons (ha : PE X e te) (hr : PA X es t) (hs : starEach (e :: es) X.env = (false, eval e X.env) :: starEach es X.env := by rfl) : PA X (e :: es) (tCons te t) := by
  intro pos pins s σ H Q I h
  rw [hs]
  show wpAny _ _ (spliced ((false, eval e X.env) :: backTo pos (starEach es X.env))) _ _ s
  refine Calls.spliced_cons (thn (ha pins s σ H _ I h) fun u s1 ⟨x, H1, I1, r1, q1⟩ => ?_)
  exact thn (hr pos pins s1 σ H1 _ I1 q1) fun us s2 ⟨xs, H2, I2, r2, q2⟩ => ⟨x :: xs, H2, I2, .cons r1 r2, q2⟩

/-- a tuple, a list of written items -/
def tTup (t : TA) : TE := fun σ H Q => t σ H fun xs H1 => xs.length ≤ sizeLine ∧ ∀ p, H1 p = none → Q (.ref p) (upd H1 p (.tup xs))
def tLst (t : TA) : TE := fun σ H Q => t σ H fun xs H1 => xs.length ≤ sizeLine ∧ ∀ p, H1 p = none → Q (.ref p) (upd H1 p (.lst xs))
theorem pe_tup {x1} (h : PA X es t) : PE X (.Tuple es x1 pos) (tTup t) := by
  intro pins s σ H Q I hq
  refine wpAny_Tuple_spliced (thn (h pos pins s σ H _ I hq) fun us s1 ⟨xs, H1, I1, r, z, q⟩ => ⟨by rw [← r.length]; exact z, ?_⟩)
  have hf : H1 s1.heap.objs.size = none := I1.hok.fresh (Nat.le_refl _)
  refine ⟨.ref s1.heap.objs.size, upd H1 s1.heap.objs.size (.tup xs), I1.laid (t' := s1.toks) (fun b u e => Heap.get?_push_of_some _ e) (Nat.le_refl _) ?_, rfl, q _ hf⟩
  exact ⟨z, us, r, ⟨_, Heap.get?_push_size _ rfl, rfl, _, rfl⟩⟩
theorem pe_lst (h : PA X es t) : PE X (.List es pos) (tLst t) := by
  intro pins s σ H Q I hq
  refine wpAny_List_spliced (thn (h pos pins s σ H _ I hq) fun us s1 ⟨xs, H1, I1, r, z, q⟩ => ⟨by rw [← r.length]; exact z, ?_⟩)
  have hf : H1 s1.heap.objs.size = none := I1.hok.fresh (Nat.le_refl _)
  refine ⟨.ref s1.heap.objs.size, upd H1 s1.heap.objs.size (.lst xs), I1.laid (t' := s1.toks) (fun b u e => Heap.get?_push_of_some _ e) (Nat.le_refl _) ?_, rfl, q _ hf⟩
  exact ⟨z, us, 0, r, Heap.get?_push_size _ rfl⟩
end

/-! ### what a def promises -/
/-- a def's promise: the bound arguments in the parameters' order, the heap, the wanted end, the wanted exception -/
abbrev Sp := List V → Hp → VK → XK → Prop
/-- how an exception lies behind a call (file 08 gives it): the callers' frames, abstract heap and state ahead of the call, the wish, the exception, the state -/
abbrev CXT := List Env → Hp → Shared → XK → Value → Shared → Prop

/-- the state at a call -/
structure Env0 (P : Program) (w : World) (K : PySem.W.Frag) (mg : Str → Option Value) (base : Heap) (A : Around) (outer : List Env) (s : Shared) (H : Hp) : Prop where
  frames : A.frames = some outer
  mod : Mod K mg base
  bs : ∀ b o, base.get? b = some o → s.heap.get? b = some o ∧ H b = none
  bsz : base.objs.size ≤ s.heap.objs.size
  funs : s.heap.FunFrames base outer
  frf : ∀ b ∈ frs outer, H b = none
  hok : HOk P w H s.heap
  bare : AllBare s.gens
/-- a call's end -/
def CE (outer : List Env) (P : Program) (w : World) (H : Hp) (s : Shared) (Q : VK) (u : Value) (s' : Shared) : Prop :=
  ∃ v H', s'.os = s.os ∧ AllBare s'.gens ∧ Un (frs outer) [] H H' s.heap s'.heap ∧ HOk P w H' s'.heap ∧ RelV v u ∧ Q v H'
def CR (CX : CXT) (outer : List Env) (P : Program) (w : World) (H : Hp) (s : Shared) (Q : VK) (E : XK) (r : Result) (s' : Shared) : Prop :=
  match r with
  | .ok (.ret u) => CE outer P w H s Q u s'
  | .ok _ => False
  | .error e => CX outer H s E e s'
structure FnOk (P : Program) (w : World) (K : PySem.W.Frag) (mg : Str → Option Value) (base : Heap) (CX : CXT) (k : Nat) (f : Addr) (fd : FuncData) (ps : List Str) (sp : Sp) : Prop where
  len : ∀ vs H Q E, sp vs H Q E → vs.length = ps.length
  run : ∀ (A : Around) (outer : List Env) (s : Shared) (H : Hp) (args : Args) (us : List Value) (vs : List V) (Q : VK) (E : XK), Room k A → Env0 P w K mg base A outer s H → BindsTo s fd args (ps.zip us) → Vals vs us → sp vs H Q E →
    codeAny (model P w) A (.call (.ref f) args) (CR CX outer P w H s Q E) s
theorem FnOk.mono {P : Program} {w : World} {K : PySem.W.Frag} {mg : Str → Option Value} {base : Heap} {CX : CXT} {j k : Nat} {f : Addr} {fd : FuncData} {ps : List Str} {sp : Sp} (F : FnOk P w K mg base CX j f fd ps sp) (h : j ≤ k) :
    FnOk P w K mg base CX k f fd ps sp := ⟨F.len, fun A outer s H args us vs Q E hr => F.run A outer s H args us vs Q E (hr.mono h)⟩
/-- a weaker promise -/
theorem FnOk.imp {P : Program} {w : World} {K : PySem.W.Frag} {mg : Str → Option Value} {base : Heap} {CX : CXT} {k : Nat} {f : Addr} {fd : FuncData} {ps : List Str} {sp sp' : Sp} (F : FnOk P w K mg base CX k f fd ps sp)
    (h : ∀ vs H Q E, sp' vs H Q E → sp vs H Q E) : FnOk P w K mg base CX k f fd ps sp' :=
  ⟨fun vs H Q E q => F.len vs H Q E (h _ _ _ _ q), fun A outer s H args us vs Q E hr he hb hv hs => F.run A outer s H args us vs Q E hr he hb hv (h _ _ _ _ hs)⟩

theorem Env0.make {P : Program} {w : World} {K : PySem.W.Frag} {mg : Str → Option Value} {base : Heap} {A : Around} {outer : List Env} {s : Shared} {H : Hp} (e : Env0 P w K mg base A outer s H) (C : Addr) (us : List Value) (kw : List (Str × Value)) :
    Env0 P w K mg base (A.under (.builtin "type.__call__" ⟨.ref C :: us, kw⟩)) outer s H := ⟨by first | exact e.frames | (simpa [Around.under, Code.envs, Code.isFrame, pushEnvs] using e.frames), e.mod, e.bs, e.bsz, e.funs, e.frf, e.hok, e.bare⟩
theorem Env0.in1 {P : Program} {w : World} {K : PySem.W.Frag} {mg : Str → Option Value} {base : Heap} {A : Around} {outer : List Env} {s : Shared} {H : Hp} (e : Env0 P w K mg base A outer s H) :
    Env0 P w K mg base A.in1 outer s H := ⟨e.frames, e.mod, e.bs, e.bsz, e.funs, e.frf, e.hok, e.bare⟩

section
variable {X : Cx} {pins : List (Addr × Obj)} {σ : St} {H : Hp} {s s' : Shared}
/-- from a body: what a callee wants -/
theorem Inv.env0 (I : Inv X pins σ H s) : Env0 X.prog X.w X.K X.mg X.base X.A X.stack s H :=
  ⟨I.ok.frames, I.ok.mod, I.bs, Nat.le_trans I.ok.bsz I.sz, I.stack, I.stkFree, I.hok, I.bare⟩
/-- behind a call -/
theorem Inv.after {Q : VK} {u : Value} (I : Inv X pins σ H s) (h : CE X.stack X.prog X.w H s Q u s') : EP X pins σ Q u s' := by
  obtain ⟨v, H', os, bare, un, hok, r, q⟩ := h
  obtain ⟨hh, g, d, t, os'⟩ := s'
  obtain rfl : os' = s.os := os
  exact ⟨v, H', I.call (h' := hh) (g' := g) (d' := d) (t' := t) (ch := []) un hok bare (fun b z => absurd z (by simp)), r, q⟩
end

/-! ### calls -/
/-- f(..): the written arguments, then the defaults dvs; E: what is wanted of an exception -/
def tCall (sp : Sp) (dvs : List V) (E : XK) (t : TA) : TE := fun σ H Q => t σ H fun vs H1 => sp (vs ++ dvs) H1 Q E
/-- o.m(..) of an instance of the class at C -/
def tMeth (C : Addr) (m : Str) (sp : Sp) (dvs : List V) (E : XK) (ta : TE) (t : TA) : TE := fun σ H Q => ta σ H fun x H1 => ∃ a dx fs, x = .ref a ∧ H1 a = some (.ins C dx fs) ∧ fs.lookup m = none ∧
  t σ H1 fun vs H2 => sp (x :: (vs ++ dvs)) H2 Q E
/-- C(..): a new instance and its dict, then __init__ -/
def tMake (C : Addr) (sp : Sp) (dvs : List V) (E : XK) (t : TA) : TE := fun σ H Q => t σ H fun vs H1 => ∀ x dx, H1 x = none → H1 dx = none → dx ≠ x →
  sp (.ref x :: (vs ++ dvs)) (upd (upd H1 dx (.own x)) x (.ins C dx [])) (fun v H2 => v = .non ∧ Q (.ref x) H2) E

/-- how the parameters are bound: us the positional arguments, kw the keywords' values by name, ds the defaults that fill up -/
def Binds (K : PySem.W.Frag) (fd : FuncData) (ps : List Str) (ds : List Value) : Prop :=
  ∀ (s : Shared) (us : List Value), K.In s.heap → (us ++ ds).length = ps.length → BindsTo s fd ⟨us, []⟩ (ps.zip (us ++ ds))
/-- every parameter is given -/
theorem Binds.all {K : PySem.W.Frag} {fd : FuncData} {ps : List Str} (h : ∀ us : List Value, us.length = ps.length → bindArgs fd ⟨us, []⟩ = pure (ps.zip us)) : Binds K fd ps [] := fun s us _ hl => by
  rw [List.append_nil] at hl ⊢
  exact .of_eq (h us hl)

/-- an exception of a callee reaches what this body wants of exceptions -/
def Passes (CX : CXT) (X : Cx) (E : XK) : Prop := ∀ (pins : List (Addr × Obj)) (σ : St) (H : Hp) (s : Shared) (e : Value) (s' : Shared), Inv X pins σ H s → CX X.stack H s E e s' → X.xe e s'

section
variable {X : Cx} {CX : CXT} {k : Nat} {f C : Addr} {fd : FuncData} {ps : List Str} {sp : Sp} {dvs : List V} {ds : List Value} {E : XK} {x m : Str} {p pos apos : Pos} {e o : Expr} {es : List Expr} {ta : TE} {t : TA}

/-- the callee runs -/
theorem run_fn {pins : List (Addr × Obj)} {σ : St} {H : Hp} {s : Shared} {Q : VK} {us : List Value} {vs : List V} (F : FnOk X.prog X.w X.K X.mg X.base CX k f fd ps sp) (hr : Room k X.A) (hb : Binds X.K fd ps ds) (hd : Vals dvs ds) (hx : Passes CX X E)
    (I : Inv X pins σ H s) (r : Vals vs us) (h : sp (vs ++ dvs) H Q E) : wpAny (model X.prog X.w) X.A (call (.ref f) us) (EP X pins σ Q) X.xe s := by
  have r2 : Vals (vs ++ dvs) (us ++ ds) := r.append hd
  have hl : (us ++ ds).length = ps.length := by rw [← r2.length]; exact F.len _ _ _ _ h
  refine wpAny_call (codeAny_mono (F.run X.A X.stack s H ⟨us, []⟩ (us ++ ds) (vs ++ dvs) Q E hr I.env0 (hb s us I.kIn hl) r2 h) fun r s' hq => ?_)
  cases r with
  | error e => exact hx pins σ H s e s' I hq
  | ok fl =>
    cases fl with
    | ret u => exact I.after hq
    | next => exact False.elim hq
    | brk => exact False.elim hq
    | cont => exact False.elim hq

theorem pe_call (F : FnOk X.prog X.w X.K X.mg X.base CX k f fd ps sp) (hr : Room k X.A) (hg : Gl X x) (hm : X.mg x = some (.ref f)) (hk : PySem.W.keepIn X.K (.ref f) = true) (hb : Binds X.K fd ps ds) (hd : Vals dvs ds) (hx : Passes CX X E)
    (ha : PA X (e :: es) t) (hdb : (x == ("__debug__" : Str)) = false := by decide) (he : starEach (e :: es) X.env = (false, eval e X.env) :: starEach es X.env := by rfl) (hpl : (backTo pos (starEach es X.env)).any (·.1) = false := by rfl) :
    PE X (.Call (.Name x p) (e :: es) [] pos) (tCall sp dvs E t) := by
  intro pins s σ H Q I h
  refine wpAny_Call_Name_kw (ld_glob I hg hm ?_ hdb)
  refine PySem.W.callWith_K (h₀ := X.base) I.ok.mod.kin hk (thn (ha pos pins s σ H _ I h) fun us s1 ⟨vs, H1, I1, r, q⟩ => ⟨I1.kIn, ?_⟩) he hpl
  exact run_fn F hr hb hd hx I1 r q
theorem pe_call0 (F : FnOk X.prog X.w X.K X.mg X.base CX k f fd ps sp) (hr : Room k X.A) (hg : Gl X x) (hm : X.mg x = some (.ref f)) (hk : PySem.W.keepIn X.K (.ref f) = true) (hb : Binds X.K fd ps ds) (hd : Vals dvs ds) (hx : Passes CX X E)
    (hdb : (x == ("__debug__" : Str)) = false := by decide) : PE X (.Call (.Name x p) [] [] pos) (tCall sp dvs E tNil) := by
  intro pins s σ H Q I h
  refine wpAny_Call_Name_kw (ld_glob I hg hm ?_ hdb)
  exact PySem.W.callWith_K0 I.kIn hk (run_fn (us := []) F hr hb hd hx I .nil h)

/-- o.m(e, ..) -/
theorem pe_meth {pl : Sem Bool} (he : PE X o ta) (c : Cls X.K C) (hm : Meth X.K C m f) (F : FnOk X.prog X.w X.K X.mg X.base CX k f fd ps sp) (hr : Room k X.A) (hb : Binds X.K fd ps ds) (hd : Vals dvs ds) (hx : Passes CX X E) (ha : PA X (e :: es) t)
    (hst : starEach (e :: es) X.env = (false, eval e X.env) :: starEach es X.env := by rfl) (hpl : (backTo pos (starEach es X.env)).any (·.1) = false := by rfl)
    (ht : eval (.Call (.Attribute o m apos) (e :: es) [] pos) X.env = (do
      let ov ← eval o X.env
      standAt apos.atName
      let (f, first) ← holding [ov] (getMethod ov m pl)
      callWith pos f first (backTo pos (starEach (e :: es) X.env)) (backToKw pos (keywordEach [] X.env))) := by rfl) :
    PE X (.Call (.Attribute o m apos) (e :: es) [] pos) (tMeth C m sp dvs E ta t) := by
  intro pins s σ H Q I h
  refine PySem.W.methodCall_KW (pl := pl) (thn (he pins s σ H _ I h) fun u s1 ⟨x, H1, I1, rx, a, dx, fs, ex, ea, l, q⟩ => ?_) ht
  subst ex
  obtain rfl : u = Value.ref a := rx
  refine getmeth_ok I1 ea c hm l ?_
  refine PySem.W.callWith_K (first := [.ref a]) (h₀ := X.base) I.ok.mod.kin hm.kp (thn (ha pos pins s1 σ H1 _ I1 q) fun us s2 ⟨vs, H2, I2, r, q2⟩ => ⟨I2.kIn, ?_⟩) hst hpl
  exact run_fn (us := .ref a :: us) (vs := .ref a :: vs) F hr hb hd hx I2 (.cons rfl r) q2
/-- o.m() -/
theorem pe_meth0 {pl : Sem Bool} (he : PE X o ta) (c : Cls X.K C) (hm : Meth X.K C m f) (F : FnOk X.prog X.w X.K X.mg X.base CX k f fd ps sp) (hr : Room k X.A) (hb : Binds X.K fd ps ds) (hd : Vals dvs ds) (hx : Passes CX X E)
    (ht : eval (.Call (.Attribute o m apos) [] [] pos) X.env = (do
      let ov ← eval o X.env
      standAt apos.atName
      let (f, first) ← holding [ov] (getMethod ov m pl)
      callWith pos f first (backTo pos (starEach [] X.env)) (backToKw pos (keywordEach [] X.env))) := by rfl) :
    PE X (.Call (.Attribute o m apos) [] [] pos) (tMeth C m sp dvs E ta tNil) := by
  intro pins s σ H Q I h
  refine PySem.W.methodCall_KW (pl := pl) (thn (he pins s σ H _ I h) fun u s1 ⟨x, H1, I1, rx, a, dx, fs, ex, ea, l, q⟩ => ?_) ht
  subst ex
  obtain rfl : u = Value.ref a := rx
  refine getmeth_ok I1 ea c hm l ?_
  exact PySem.W.callWith_K0 (first := [.ref a]) I1.kIn hm.kp (run_fn (us := [.ref a]) (vs := [.ref a]) F hr hb hd hx I1 (.cons rfl .nil) q)

/-- what a class must have to be made -/
structure Mk (K : PySem.W.Frag) (C f : Addr) : Prop where
  makes : PySem.W.makesIn K C = true
  init : PySem.W.findIn K (.ref C) "__init__" = some (some (.ref f))
  fn : PySem.W.isFn K (.ref f) = true
  kp : PySem.W.keepIn K (.ref C) = true

theorem run_make {pins : List (Addr × Obj)} {σ : St} {H : Hp} {s : Shared} {Q : VK} {us : List Value} {vs : List V} (M : Mk X.K C f) (F : FnOk X.prog X.w X.K X.mg X.base CX k f fd ps sp) (hr : Room (k + 1) X.A) (hb : Binds X.K fd ps ds) (hd : Vals dvs ds)
    (hx : Passes CX X E) (I : Inv X pins σ H s) (r : Vals vs us)
    (h : ∀ x dx, H x = none → H dx = none → dx ≠ x → sp (.ref x :: (vs ++ dvs)) (upd (upd H dx (.own x)) x (.ins C dx [])) (fun v H2 => v = .non ∧ Q (.ref x) H2) E) :
    wpAny (model X.prog X.w) X.A (call (.ref C) us) (EP X pins σ Q) X.xe s := by
  have hq := h (s.heap.objs.size + 1) s.heap.objs.size (I.hok.fresh (Nat.le_succ _)) (I.hok.fresh (Nat.le_refl _)) (Nat.ne_of_lt (Nat.lt_succ_self _))
  have I2 := Inv.made (C := C) I
  have r2 : Vals (V.ref (s.heap.objs.size + 1) :: (vs ++ dvs)) (Value.ref (s.heap.objs.size + 1) :: (us ++ ds)) := .cons rfl (r.append hd)
  have hl : (Value.ref (s.heap.objs.size + 1) :: us ++ ds).length = ps.length := by
    have e := r2.length
    rw [F.len _ _ _ _ hq] at e
    exact e.symm
  refine wpAny_call (make_map (f := f) I.kIn M.makes M.init (beq_iff_eq.mp M.fn) (codeAny_mono (F.run _ X.stack _ _ ⟨Value.ref (s.heap.objs.size + 1) :: us, []⟩ (Value.ref (s.heap.objs.size + 1) :: (us ++ ds)) _ _ E (hr.make C us [])
    (I2.env0.make C us []) (hb _ (Value.ref (s.heap.objs.size + 1) :: us) I2.kIn hl) r2 hq) fun r s' hq' => ?_))
  cases r with
  | error e => exact hx pins σ _ _ e s' I2 hq'
  | ok fl =>
    cases fl with
    | ret u =>
      obtain ⟨v, H', I3, rv, ev, q3⟩ := I2.after hq'
      subst ev
      exact ⟨rv, ⟨V.ref (s.heap.objs.size + 1), H', I3, rfl, q3⟩⟩
    | next => exact False.elim hq'
    | brk => exact False.elim hq'
    | cont => exact False.elim hq'
theorem pe_make (M : Mk X.K C f) (F : FnOk X.prog X.w X.K X.mg X.base CX k f fd ps sp) (hr : Room (k + 1) X.A) (hg : Gl X x) (hm : X.mg x = some (.ref C)) (hb : Binds X.K fd ps ds) (hd : Vals dvs ds) (hx : Passes CX X E)
    (ha : PA X (e :: es) t) (hdb : (x == ("__debug__" : Str)) = false := by decide) (he : starEach (e :: es) X.env = (false, eval e X.env) :: starEach es X.env := by rfl) (hpl : (backTo pos (starEach es X.env)).any (·.1) = false := by rfl) :
    PE X (.Call (.Name x p) (e :: es) [] pos) (tMake C sp dvs E t) := by
  intro pins s σ H Q I h
  refine wpAny_Call_Name_kw (ld_glob I hg hm ?_ hdb)
  refine PySem.W.callWith_K (h₀ := X.base) I.ok.mod.kin M.kp (thn (ha pos pins s σ H _ I h) fun us s1 ⟨vs, H1, I1, r, q⟩ => ⟨I1.kIn, ?_⟩) he hpl
  exact run_make M F hr hb hd hx I1 r q
theorem pe_make0 (M : Mk X.K C f) (F : FnOk X.prog X.w X.K X.mg X.base CX k f fd ps sp) (hr : Room (k + 1) X.A) (hg : Gl X x) (hm : X.mg x = some (.ref C)) (hb : Binds X.K fd ps ds) (hd : Vals dvs ds) (hx : Passes CX X E)
    (hdb : (x == ("__debug__" : Str)) = false := by decide) : PE X (.Call (.Name x p) [] [] pos) (tMake C sp dvs E tNil) := by
  intro pins s σ H Q I h
  refine wpAny_Call_Name_kw (ld_glob I hg hm ?_ hdb)
  exact PySem.W.callWith_K0 I.kIn M.kp (run_make (us := []) M F hr hb hd hx I .nil h)
end

/-! ### keywords -/
/-- the values of the keywords, from the left -/
def PK (X : Cx) (kws : List Keyword) (t : TA) : Prop :=
  ∀ (pos : Pos) (pins : List (Addr × Obj)) (s : Shared) (σ : St) (H : Hp) (Q : List V → Hp → Prop), Inv X pins σ H s → t σ H Q → wpAny (model X.prog X.w) X.A (evalAll ((backToKw pos (keywordEach kws X.env)).map (·.2))) (AP X pins σ Q) X.xe s
section
variable {X : Cx} {CX : CXT} {k : Nat} {f C : Addr} {fd : FuncData} {ps ks : List Str} {sp : Sp} {E : XK} {x m : Str} {p pos apos kpos : Pos} {e o : Expr} {es : List Expr} {kws : List Keyword} {te ta : TE} {t tk : TA} {nm : Option Str}
theorem pk_nil : PK X [] tNil := fun _ _ _ _ H Q I h => wpAny_evalAll_nil ⟨[], H, I, .nil, h⟩
theorem pk_cons (ha : PE X e te) (hr : PK X kws t) : PK X (⟨nm, e, kpos⟩ :: kws) (tCons te t) := by
  intro pos pins s σ H Q I h
  show wpAny _ _ (evalAll ((do let v ← eval e X.env; standAt pos; pure v) :: (backToKw pos (keywordEach kws X.env)).map (·.2))) _ _ s
  refine wpAny_evalAll_cons (wpAny_bind (thn (ha pins s σ H _ I h) fun u s1 ⟨x, H1, I1, r1, q1⟩ => wpAny_bind (wpAny_standAt (wpAny_pure ?_))))
  exact thn (hr pos pins s1 σ H1 _ I1 q1) fun us s2 ⟨xs, H2, I2, r2, q2⟩ => ⟨x :: xs, H2, I2, .cons r1 r2, q2⟩

/-- how a call with keywords binds: g puts the positional values us and the keywords' values ws (names ks) in the parameters' order, defaults among them -/
structure KBinds (K : PySem.W.Frag) (fd : FuncData) (ps ks : List Str) (g : List Value → List Value → List Value) (gV : List V → List V → List V) : Prop where
  to : ∀ (s : Shared) (us ws : List Value), K.In s.heap → (g us ws).length = ps.length → BindsTo s fd ⟨us, ks.zip ws⟩ (ps.zip (g us ws))
  rel : ∀ {vs : List V} {us : List Value} {zs : List V} {ws : List Value}, Vals vs us → Vals zs ws → Vals (gV vs zs) (g us ws)
def tCallK (sp : Sp) (gV : List V → List V → List V) (E : XK) (t tk : TA) : TE := fun σ H Q => t σ H fun vs H1 => tk σ H1 fun zs H2 => sp (gV vs zs) H2 Q E
variable {g : List Value → List Value → List Value} {gV : List V → List V → List V}
theorem run_fnk {pins : List (Addr × Obj)} {σ : St} {H : Hp} {s : Shared} {Q : VK} {us ws : List Value} {vs zs : List V} (F : FnOk X.prog X.w X.K X.mg X.base CX k f fd ps sp) (hr : Room k X.A) (hb : KBinds X.K fd ps ks g gV) (hx : Passes CX X E)
    (I : Inv X pins σ H s) (r : Vals vs us) (rz : Vals zs ws) (h : sp (gV vs zs) H Q E) : wpAny (model X.prog X.w) X.A (call (.ref f) us (ks.zip ws)) (EP X pins σ Q) X.xe s := by
  have r2 := hb.rel r rz
  have hl : (g us ws).length = ps.length := by rw [← r2.length]; exact F.len _ _ _ _ h
  refine wpAny_call (codeAny_mono (F.run X.A X.stack s H ⟨us, ks.zip ws⟩ (g us ws) (gV vs zs) Q E hr I.env0 (hb.to s us ws I.kIn hl) r2 h) fun r s' hq => ?_)
  cases r with
  | error e => exact hx pins σ H s e s' I hq
  | ok fl =>
    cases fl with
    | ret u => exact I.after hq
    | next => exact False.elim hq
    | brk => exact False.elim hq
    | cont => exact False.elim hq
/-- f(e, .., k = v, ..) -/
theorem pe_callK (F : FnOk X.prog X.w X.K X.mg X.base CX k f fd ps sp) (hr : Room k X.A) (hg : Gl X x) (hm : X.mg x = some (.ref f)) (hk : PySem.W.keepIn X.K (.ref f) = true) (hb : KBinds X.K fd ps ks g gV) (hx : Passes CX X E)
    (ha : PA X (e :: es) t) (hkw : PK X kws tk) (hall : (backToKw pos (keywordEach kws X.env)).all (·.1.isSome) = true := by rfl) (hks : (backToKw pos (keywordEach kws X.env)).filterMap (·.1) = ks := by rfl)
    (hdb : (x == ("__debug__" : Str)) = false := by decide) (he : starEach (e :: es) X.env = (false, eval e X.env) :: starEach es X.env := by rfl)
    (hpl : ((backTo pos (starEach (e :: es) X.env)).any (·.1) || (backToKw pos (keywordEach kws X.env)).any (·.1.isNone)) = false := by rfl) :
    PE X (.Call (.Name x p) (e :: es) kws pos) (tCallK sp gV E t tk) := by
  intro pins s σ H Q I h
  refine wpAny_Call_Name_kw (ld_glob I hg hm ?_ hdb)
  refine PySem.W.callWith_KW (h₀ := X.base) I.ok.mod.kin hk hall (thn (ha pos pins s σ H _ I h) fun us s1 ⟨vs, H1, I1, r, q⟩ => ?_) hpl he
  refine thn (hkw pos pins s1 σ H1 _ I1 q) fun ws s2 ⟨zs, H2, I2, rz, q2⟩ => ⟨I2.kIn, ?_⟩
  rw [hks]
  exact run_fnk F hr hb hx I2 r rz q2
end

/-! ### a def's body keeps its promise -/
/-- names: the parameters first -/
structure FnScope (N P : List Str) (sc : Scope) : Prop where
  kind : sc.kind = .function
  co : sc.isCoroutine = false
  gen : sc.isGenerator = false
  nd : N.Nodup
  pre : N.take P.length = P
  par : ∀ x ∈ P, sc.names.lookup x = some .local ∨ sc.names.lookup x = some .cell
  nofree : ∀ y ∈ sc.names, y.2 ≠ .free

theorem bindL_out {kindOf : Str → Option NameKind} {x : Str} : ∀ {binds : List (Str × Value)} {m : Str → Option Value}, (∀ v, (x, v) ∉ binds) → bindL kindOf binds m x = m x
  | [], _, _ => rfl
  | (n, v) :: r, m, h => by
    unfold bindL
    rw [bindL_out fun w hw => h w (List.mem_cons_of_mem _ hw)]
    split
    · have : x ≠ n := by rintro rfl; exact h v List.mem_cons_self
      simp [this]
    · rfl
theorem bindC_out {kindOf : Str → Option NameKind} {x : Str} : ∀ {binds : List (Str × Value)} {m : Str → Option Value}, (∀ v, (x, v) ∉ binds) → bindC kindOf binds m x = m x
  | [], _, _ => rfl
  | (n, v) :: r, m, h => by
    unfold bindC
    rw [bindC_out fun w hw => h w (List.mem_cons_of_mem _ hw)]
    split
    · rfl
    · have : x ≠ n := by rintro rfl; exact h v List.mem_cons_self
      simp [this]
theorem bindL_get {kindOf : Str → Option NameKind} {x : Str} {v : Value} : ∀ {P : List Str} {vs : List Value} {i : Nat} {m : Str → Option Value}, P.Nodup → P[i]? = some x → vs[i]? = some v → kindOf x = some .local →
    bindL kindOf (P.zip vs) m x = some v
  | [], _, _, _, _, h, _, _ => by simp at h
  | _ :: _, [], _, _, _, _, h, _ => by simp at h
  | p :: P, w :: vs, 0, m, nd, h1, h2, hk => by
    simp at h1 h2; subst h1; subst h2
    show bindL kindOf ((p, w) :: P.zip vs) m p = _
    unfold bindL
    rw [bindL_out fun v hv => (List.nodup_cons.mp nd).1 (List.of_mem_zip hv).1, if_pos hk]
    simp
  | p :: P, w :: vs, i + 1, m, nd, h1, h2, hk => by
    show bindL kindOf ((p, w) :: P.zip vs) m x = _
    unfold bindL
    exact bindL_get (i := i) (List.nodup_cons.mp nd).2 (by simpa using h1) (by simpa using h2) hk
theorem bindC_get {kindOf : Str → Option NameKind} {x : Str} {v : Value} : ∀ {P : List Str} {vs : List Value} {i : Nat} {m : Str → Option Value}, P.Nodup → P[i]? = some x → vs[i]? = some v → kindOf x ≠ some .local →
    bindC kindOf (P.zip vs) m x = some v
  | [], _, _, _, _, h, _, _ => by simp at h
  | _ :: _, [], _, _, _, _, h, _ => by simp at h
  | p :: P, w :: vs, 0, m, nd, h1, h2, hk => by
    simp at h1 h2; subst h1; subst h2
    show bindC kindOf ((p, w) :: P.zip vs) m p = _
    unfold bindC
    rw [bindC_out fun v hv => (List.nodup_cons.mp nd).1 (List.of_mem_zip hv).1, if_neg hk]
    simp
  | p :: P, w :: vs, i + 1, m, nd, h1, h2, hk => by
    show bindC kindOf ((p, w) :: P.zip vs) m x = _
    unfold bindC
    exact bindC_get (i := i) (List.nodup_cons.mp nd).2 (by simpa using h1) (by simpa using h2) hk

/-- the names' values at the entry -/
def start (N : List Str) (vs : List V) : St := vs.map some ++ List.replicate (N.length - vs.length) none

/-- the context of a def's body, at its entry; an exception leaves the frame, then lies as CX says -/
def cxOf (CX : CXT) (P : Program) (w : World) (K : PySem.W.Frag) (mg : Str → Option Value) (base : Heap) (N : List Str) (qual : Str) (scope : Scope) (f : Addr) (cd : Value) (A : Around) (outer : List Env) (s : Shared) (H : Hp) (E : XK) : Cx where
  prog := P
  w := w
  K := K
  mg := mg
  base := base
  A := A.deeper (envOfC qual scope s.heap.objs.size f cd)
  N := N
  s₀ := s
  H₀ := H
  env := envOfC qual scope s.heap.objs.size f cd
  outer := outer
  stack := envOfC qual scope s.heap.objs.size f cd :: outer
  ex := []
  calm := true
  fn := fun _ => true
  pn := []
  xe := fun e s' => wpAny (model P w) (A.deeper (envOfC qual scope s.heap.objs.size f cd)) (leaving (envOfC qual scope s.heap.objs.size f cd) e) (fun _ s'' => CX outer H s E e s'') (fun e' s'' => CX outer H s E e' s'') s'

theorem cell_has {sc : Scope} {n : Nat} {x : Str} (h : sc.names.lookup x = some .cell) : ∃ c, (cellsFrom n sc.names []).lookup x = some c := by
  have q := PySem.W.cellsFrom_some sc.names n [] (.inl h)
  exact Option.isSome_iff_exists.mp q

theorem inv_start {CX : CXT} {P : Program} {w : World} {K : PySem.W.Frag} {mg : Str → Option Value} {base : Heap} {N ps : List Str} {qual : Str} {scope : Scope} {f : Addr} {cd : Value} {A : Around} {outer : List Env} {s s1 : Shared} {H : Hp} {E : XK} {us : List Value} {vs : List V}
    (S : FnScope N ps scope) (hd : A.handled = none) (e0 : Env0 P w K mg base A outer s H) (hl : vs.length = ps.length) (r : Vals vs us)
    (x : InCallC s s.heap.objs.size (bindL (envOfC qual scope s.heap.objs.size f cd).kindOf (ps.zip us) fun _ => none) (cellsFrom (s.heap.objs.size + 1) scope.names []) (bindC (envOfC qual scope s.heap.objs.size f cd).kindOf (ps.zip us) fun _ => none) s1) :
    Inv (cxOf CX P w K mg base N qual scope f cd A outer s H E) [] (start N vs) H s1 := by
  have hpl : ps.length ≤ N.length := by have := congrArg List.length S.pre; rw [List.length_take] at this; omega
  obtain ⟨h1, tk, rfl, hk⟩ := x.done
  have noA : ∀ b : Addr, b ∉ (cxOf CX P w K mg base N qual scope f cd A outer s H E).ex := fun b z => absurd (show b ∈ ([] : List Addr) from z) (by simp)
  refine ⟨⟨e0.mod, S.kind, rfl, rfl, Nat.le_refl _, fun y z c h1 h2 => ?_, fun y hy => ?_, fun y c _ h => ?_, fun _ => hd, Around.frames_deeper e0.frames, .inr ⟨rfl, rfl⟩, fun b z => absurd z (noA b), e0.bs, e0.bsz, fun b _ _ => noA b, fun b z => absurd z (noA b), e0.funs, e0.frf⟩,
    rfl, e0.bare, Un.kept hk, ⟨_, x.toInCall.ns, fun i y v h1 h2 h3 => ?_⟩, fun y c h => ⟨_, x.cell y c h⟩, e0.hok.fresh (Nat.le_refl _), fun y c h => ?_, fun p hp => absurd (show p ∈ ([] : List (Addr × Obj)) from hp) (by simp), e0.hok.kept hk, ?_⟩
  · exact name_of_addr x.apart (PySem.mem_of_lookup h1) (PySem.mem_of_lookup h2)
  · have hy : scope.names.lookup y = some .cell ∨ scope.names.lookup y = some .free := hy
    rcases hy with hy | hy
    · exact cell_has hy
    · exact absurd rfl (S.nofree _ (PySem.mem_of_lookup hy))
  · exact Nat.le_of_lt (x.above y c (PySem.mem_of_lookup h))
  · have hi : i < vs.length := by
      unfold start at h2
      by_cases hi : i < vs.length
      · exact hi
      · rw [List.getElem?_append_right (by simpa using hi)] at h2
        rw [List.getElem?_replicate] at h2
        split at h2 <;> cases h2
    have ha : vs[i]? = some v := by
      unfold start at h2
      rw [List.getElem?_append_left (by simpa using hi), List.getElem?_map] at h2
      cases e : vs[i]? with
      | none => rw [e] at h2; cases h2
      | some a => rw [e] at h2; cases h2; rfl
    obtain ⟨u, hu, rv⟩ := r.get ha
    have hp : ps[i]? = some y := by
      rw [← S.pre, List.getElem?_take_of_lt (by omega)]; exact h1
    have ndP : ps.Nodup := by rw [← S.pre]; exact S.nd.sublist (List.take_sublist _ _)
    refine ⟨u, rv, ?_⟩
    rcases S.par y (List.mem_of_getElem? hp) with k | k
    · exact .inl ⟨k, bindL_get ndP hp hu k⟩
    · obtain ⟨c, e⟩ := cell_has (n := s.heap.objs.size + 1) k
      refine .inr ⟨.inl k, c, e, ?_⟩
      have q := x.cell y c e
      rw [bindC_get ndP hp hu (by show scope.names.lookup y ≠ _; rw [k]; decide)] at q
      exact q
  · exact e0.hok.fresh (Nat.le_of_lt (x.above y c (PySem.mem_of_lookup h)))
  · unfold start
    show _ = N.length
    rw [List.length_append, List.length_map, List.length_replicate]
    omega

/-- THE RULE: a def (or a method) of the text, by its body. The body's reading t is chosen for each entry; it is run at the parameters' values -/
theorem fn_of {CX : CXT} {P : Program} {w : World} {K : PySem.W.Frag} {mg : Str → Option Value} {base : Heap} {k : Nat} {f : Addr} {name qual : Str} {params : Arguments} {body : List Stmt} {scope : Scope} {dV kV doc pm cdv ct oc : Value} {an od : Option Addr}
    {osl : Array (Option Value)} {N ps : List Str} {sp : Sp} (lk : K.lookup f = some ⟨oc, od, .func (PySem.W.fnOf name qual params body scope dV kV doc pm an cdv ct), osl⟩) (hcd : PySem.W.codeIn K cdv qual = true) (S : FnScope N ps scope)
    (len : ∀ vs H Q E, sp vs H Q E → vs.length = ps.length)
    (hbody : ∀ (A : Around) (outer : List Env) (s : Shared) (H : Hp) (vs : List V) (Q : VK) (E : XK), Room k (A.deeper (envOfC qual scope s.heap.objs.size f cdv)) → sp vs H Q E →
      ∃ t, PSs (cxOf CX P w K mg base N qual scope f cdv A outer s H E) body t ∧ t { nx := fun _ H' => Q .non H', rt := Q } (start N vs) H) :
    FnOk P w K mg base CX (k + 1) f (PySem.W.fnOf name qual params body scope dV kV doc pm an cdv ct) ps sp := by
  refine ⟨len, fun A outer s H args us vs Q E hr e0 hb r hsp => ?_⟩
  have hl := len _ _ _ _ hsp
  have KX : K.In s.heap := e0.mod.kin.keeps fun b o e => (e0.bs b o e).1
  have lim : s.heap.NoLimit := e0.mod.nolimit.keeps fun b o e => (e0.bs b o e).1
  have hkind : ∀ y ∈ ps.zip us, scope.names.lookup y.1 = some .local ∨ (scope.names.lookup y.1 = some .cell ∧ ((cellsFrom (s.heap.objs.size + 1) scope.names []).lookup y.1).isSome = true) := fun ⟨n, v⟩ hy => by
    rcases S.par n (List.of_mem_zip hy).1 with q | q
    · exact .inl q
    · exact .inr ⟨q, PySem.W.cellsFrom_some _ _ _ (.inl q)⟩
  refine codeAny_call_function hr.depth (KX _ _ lk) rfl S.co S.gen rfl (PySem.W.codeRec_of KX hcd) (hb _ _ _ _ ?_)
  refine wpAny_newFunctionEnv_cells S.kind hkind fun env he s1 x => ?_
  subst he
  refine ⟨lim.keeps x.toInCall.keep, codeAny_func ?_⟩
  obtain ⟨t, ht, hq⟩ := hbody A outer s H vs Q E (hr.deeper _) hsp
  have I : Inv (cxOf CX P w K mg base N qual scope f cdv A outer s H E) [] (start N vs) H s1 := inv_start S hr.hd e0 hl r x
  refine wpAny_mono (ht [] s1 (start N vs) H _ I hq) (fun fl s' hs => ?_) fun e s' hs => hs
  have fin : ∀ {σ' : St} {H' : Hp} {v : V} {u : Value}, Inv (cxOf CX P w K mg base N qual scope f cdv A outer s H E) [] σ' H' s' → RelV v u → Q v H' → CE outer P w H s Q u s' :=
    fun {σ' H' v u} J rv q => ⟨v, H', J.os, J.bare, J.base, J.hok, rv, q⟩
  cases fl with
  | ret u =>
    obtain ⟨v, σ', H', J, rv, q⟩ := hs
    exact fin J rv q
  | next =>
    obtain ⟨σ', H', J, q⟩ := hs
    exact fin (v := V.non) (u := Value.none) J rfl q
  | brk =>
    obtain ⟨_, _, _, q⟩ := hs
    exact False.elim q
  | cont =>
    obtain ⟨_, _, _, q⟩ := hs
    exact False.elim q
end L2

namespace L2
open PySem PySem.Spec PyProof.Rows
section
variable {X : Cx} {x : Str} {p pos : Pos} {e : Expr} {es : List Expr} {t : TA} {id T : String} {r : List V → Hp → VK → Prop}

def tCB (r : List V → Hp → VK → Prop) (t : TA) : TE := fun σ H Q => t σ H fun vs H1 => r vs H1 Q
/-- f(e, ..), f a built-in function -/
theorem pe_callB (hc : CallR X (.builtin id) r) (hg : Gl X x) (hm : X.mg x = none) (hv : bootBuiltins x = some (.builtin id)) (ha : PA X (e :: es) t) (hn : x ≠ "__name__" := by decide) (hdb : (x == ("__debug__" : Str)) = false := by decide)
    (he : starEach (e :: es) X.env = (false, eval e X.env) :: starEach es X.env := by rfl) (hpl : (backTo pos (starEach es X.env)).any (·.1) = false := by rfl) : PE X (.Call (.Name x p) (e :: es) [] pos) (tCB r t) := by
  intro pins s σ H Q I h
  refine wpAny_Call_Name_kw (ld_blt I hg hm hv ?_ hn hdb)
  exact PyProof.Rows.callWith_builtin1 (thn (ha pos pins s σ H _ I h) fun us s1 ⟨vs, H1, I1, r1, q1⟩ => hc pins s1 σ H1 vs us Q I1 r1 q1) he hpl
/-- T(e, ..), T a built-in type -/
theorem pe_callTy (hc : CallR X (.type T) r) (hg : Gl X x) (hm : X.mg x = none) (hv : bootBuiltins x = some (.type T)) (ha : PA X (e :: es) t) (hn : x ≠ "__name__" := by decide) (hdb : (x == ("__debug__" : Str)) = false := by decide)
    (he : starEach (e :: es) X.env = (false, eval e X.env) :: starEach es X.env := by rfl) (hpl : (backTo pos (starEach es X.env)).any (·.1) = false := by rfl) : PE X (.Call (.Name x p) (e :: es) [] pos) (tCB r t) := by
  intro pins s σ H Q I h
  refine wpAny_Call_Name_kw (ld_blt I hg hm hv ?_ hn hdb)
  exact PyProof.Rows.callWith_type1 (thn (ha pos pins s σ H _ I h) fun us s1 ⟨vs, H1, I1, r1, q1⟩ => hc pins s1 σ H1 vs us Q I1 r1 q1) he hpl
/-- T() -/
theorem pe_callTy0 (hc : CallR X (.type T) r) (hg : Gl X x) (hm : X.mg x = none) (hv : bootBuiltins x = some (.type T)) (hn : x ≠ "__name__" := by decide) (hdb : (x == ("__debug__" : Str)) = false := by decide) :
    PE X (.Call (.Name x p) [] [] pos) (tCB r tNil) := by
  intro pins s σ H Q I h
  refine wpAny_Call_Name_kw (ld_blt I hg hm hv ?_ hn hdb)
  exact PyProof.Rows.callWith_type0 (hc pins s σ H [] [] Q I .nil h)
end
end L2

namespace HT
open PySem PyProof.Rows

/-- t < u of tuples of ints -/
def lexLt : List Int → List Int → Bool
  | [], [] => false
  | [], _ :: _ => true
  | _ :: _, [] => false
  | x :: xs, y :: ys => if x = y then lexLt xs ys else decide (x < y)
theorem lexLt_cons (x y : Int) (xs ys : List Int) : lexLt (x :: xs) (y :: ys) = if x = y then lexLt xs ys else decide (x < y) := rfl
theorem lexLt_nil_nil : lexLt [] [] = false := rfl
theorem lexLt_nil_cons (y : Int) (ys : List Int) : lexLt [] (y :: ys) = true := rfl
theorem lexLt_cons_nil (x : Int) (xs : List Int) : lexLt (x :: xs) [] = false := rfl

theorem eqAt_int (A : Around) (s : Shared) (a : Int) (t : Tok) (c : Int) (u : Tok) : ∃ e, SeqAt.EqAt A s (.int a t) (.int c u) e ∧ (e = true ↔ a = c) :=
  ⟨(a == c), SeqAt.EqAt.int_int a t c u, by simp⟩
theorem rcLt_int (A : Around) (s : Shared) (a : Int) (t : Tok) (c : Int) (u : Tok) (prog : Program) (w : World) (E : Value → Shared → Prop) (Q : Value → Shared → Prop) (h : Q (.bool (decide (a < c))) s) :
    wpAny (model prog w) A (richCompare .Lt (.int a t) (.int c u)) Q E s :=
  (PyProof.Rows.lt_int h : wpAny (model prog w) A (compareOp .Lt (.int a t) (.int c u)) Q E s)

section
open PySem.SeqAt
open PySem.AutoSeq1 (wpAny_loadPart')
open PySem.MeetsSeq PySem.MeetsSeq2 PySem.MeetsSeq3

theorem tuple_lt_ints (l b : Addr) (items items2 : Array Value) (n n2 : Nat) (dd dd2 : Option Addr) (sl sl2 : Array (Option Value)) (ns ms : List Int) (hi : IntsAre items.toList ns) (hj : IntsAre items2.toList ms) :
    Meets (Builtin.«tuple.__lt__» ⟨[.ref l, .ref b], []⟩)
      (fun _ R s => s.heap.get? l = some { cls := .type "tuple", dict := dd, data := .seq items n, slots := sl } ∧ s.heap.get? b = some { cls := .type "tuple", dict := dd2, data := .seq items2 n2, slots := sl2 } ∧
        R (.ok (.ret (.bool (lexLt ns ms)))) s) :=
  .of_wp fun prog w A R s h => by
    obtain ⟨hp, g, d, tk, os⟩ := s; obtain ⟨hl, hb, h⟩ := h
    have f2 := AutoSeq1.sub_tuple_tuple
    have z1 : items.size = ns.length := by rw [← hi.length]; simp
    have z2 : items2.size = ms.length := by rw [← hj.length]; simp
    wp_walk using wpAny_loadPart' hl, wpAny_loadPart' hb, wpAny_forIn_list _ (fun rest b s' => b.1 = none ∧ s' = ⟨hp, g, d, tk, os⟩ ∧ ∃ (vs ws : List Value) (ns' ms' : List Int), rest = vs.zip ws ∧
      IntsAre vs ns' ∧ IntsAre ws ms' ∧ ns'.length + items2.size = ms'.length + items.size ∧ R (.ok (.ret (.bool (lexLt ns' ms')))) ⟨hp, g, d, tk, os⟩) _
    case turn =>
      rintro ⟨y, x⟩ rest b s' ⟨hb', rfl, vs, ws, ns', ms', hz, hvi, hwi, hlen, hR⟩
      cases hvi with
      | nil => rw [List.zip_nil_left] at hz; cases hz
      | cons a t hvi' =>
        cases hwi with
        | nil => rw [List.zip_nil_right] at hz; cases hz
        | cons c u hwi' =>
          rw [List.zip_cons_cons] at hz
          injection hz with hyx hrest
          injection hyx with hy hx
          subst hy hx
          rw [lexLt_cons] at hR
          simp only [List.length_cons] at hlen
          obtain ⟨e, he, hiff⟩ := eqAt_int A.in1 ⟨hp, g, d, tk, os⟩ a t c u
          refine wpAny_bind (he prog w _ _ ?_)
          cases e with
          | true =>
            rw [if_pos (hiff.mp rfl)] at hR
            wp_walk
            exact ⟨rfl, rfl, _, _, _, _, hrest, hvi', hwi', by omega, hR⟩
          | false =>
            rw [if_neg (fun q => absurd (hiff.mpr q) Bool.false_ne_true)] at hR
            have hri := rcLt_int A.in1 ⟨hp, g, d, tk, os⟩ a t c u prog w
            wp_walk using hri
            exact ⟨_, rfl, by simpa using hR⟩
    case fin =>
      rintro ⟨b1, b2⟩ s' ⟨hb', rfl, vs, ws, ns', ms', hz, hvi, hwi, hlen, hR⟩
      simp only at hb'
      subst hb'
      have hv : lexLt ns' ms' = decide (items.size < items2.size) := by
        cases hvi with
        | nil =>
          cases hwi with
          | nil =>
            simp only [List.length_nil] at hlen
            rw [lexLt_nil_nil]
            exact (decide_eq_false (by omega)).symm
          | cons c u hw =>
            simp only [List.length_nil, List.length_cons] at hlen
            rw [lexLt_nil_cons]
            exact (decide_eq_true (by omega)).symm
        | cons a t hv =>
          cases hwi with
          | nil =>
            simp only [List.length_nil, List.length_cons] at hlen
            rw [lexLt_cons_nil]
            exact (decide_eq_false (by omega)).symm
          | cons c u hw =>
            rw [List.zip_cons_cons] at hz
            cases hz
      rw [hv] at hR
      wp_walk
      exact ⟨_, rfl, by simpa [Builtin.Tuple.tupleCompareSizes] using hR⟩
    case h =>
      exact ⟨rfl, rfl, items.toList, items2.toList, ns, ms, rfl, hi, hj, by omega, h⟩
end

section
variable {prog : Program} {w : World} {A : Around} {E : Value → Shared → Prop} {s : Shared}

theorem lt_tupInts {l b : Addr} {items items2 : Array Value} {ns ms : List Int} {Q : Value → Shared → Prop} (hl : IsTup s.heap l items) (hb : IsTup s.heap b items2) (hi : IntsAre items.toList ns) (hj : IntsAre items2.toList ms)
    (hu : A.units < cLine) (h : Q (.bool (lexLt ns ms)) s) : wpAny (model prog w) A (compareOp .Lt (.ref l) (.ref b)) Q E s := by
  obtain ⟨⟨cls, dd, data, sl⟩, ho, hc, n, hd⟩ := id hl
  obtain ⟨⟨cls2, dd2, data2, sl2⟩, ho2, hc2, n2, hd2⟩ := id hb
  simp only at hc hd hc2 hd2
  subst hc hd hc2 hd2
  exact richCompare_meets_room (op := .Lt) ⟨_, ho, rfl⟩ ⟨_, ho2, rfl⟩ PySem.F.slot_tuple_lt PySem.F.entry_tuple_lt (PySem.F.args_tuple_lt_2 _ _) (tuple_lt_ints l b items items2 n n2 dd dd2 sl sl2 ns ms hi hj)
    ⟨ho, ho2, show Value.bool (lexLt ns ms) ≠ Value.notImplemented ∧ Q (.bool (lexLt ns ms)) s from ⟨(fun x => nomatch x), h⟩⟩ hu

/-- t + u, t not empty -/
theorem cat_tup {t b : Addr} {vs ws : List Value} {Q : Value → Shared → Prop} (ht : IsTup s.heap t vs.toArray) (hb : IsTup s.heap b ws.toArray) (hv : vs ≠ [])
    (h1 : ws = [] → Q (.ref t) s) (h2 : ws ≠ [] → Q (.ref s.heap.objs.size) { s with heap := s.heap.push { cls := .type "tuple", data := .seq (vs ++ ws).toArray } })
    (hsz : vs.length + ws.length ≤ sizeLine) : wpAny (model prog w) A (binaryOp .Add (.ref t) (.ref b)) Q E s := by
  obtain ⟨⟨cls, dd, data, sl⟩, ho, hc, n, hd⟩ := id ht
  obtain ⟨⟨cls2, dd2, data2, sl2⟩, ho2, hc2, n2, hd2⟩ := id hb
  simp only at hc hd hc2 hd2
  subst hc hd hc2 hd2
  have e : vs.toArray ++ ws.toArray = (vs ++ ws).toArray := by simp
  by_cases hw : ws = []
  · exact concat_meets ⟨_, ho, rfl⟩ ⟨_, ho2, rfl⟩ noFill_tuple_add seq_tuple_add PySem.F.slot_tuple_add PySem.F.entry_tuple_add (PySem.F.args_tuple_add_2 _ _)
      (tuple_addW1 t b vs.toArray ws.toArray n n2 dd dd2 sl sl2 (by simpa using hv) (by simp [hw])) ⟨ho, ho2, h1 hw⟩
  · refine concat_meets ⟨_, ho, rfl⟩ ⟨_, ho2, rfl⟩ noFill_tuple_add seq_tuple_add PySem.F.slot_tuple_add PySem.F.entry_tuple_add (PySem.F.args_tuple_add_2 _ _)
      (tuple_addW2 t b vs.toArray ws.toArray n n2 dd dd2 sl sl2 (by simpa using hv) (by simpa using hw) (by rw [List.size_toArray, List.size_toArray]; exact hsz)) ⟨ho, ho2, ?_⟩
    rw [e]
    exact h2 hw

/-! ### t[a:b], not the whole -/
/-- a slice's bound as a place among n (d where it is left out) -/
def sIx (n d : Nat) : Option Int → Nat
  | none => d
  | some v => if v < 0 then (v + (n : Int)).toNat else min v.toNat n
theorem sIx_none (n d : Nat) : sIx n d none = d := rfl
theorem sIx_nat (n d k : Nat) : sIx n d (some (k : Int)) = min k n := by
  show (if (k : Int) < 0 then ((k : Int) + (n : Int)).toNat else min (k : Int).toNat n) = min k n
  rw [if_neg (by omega), Int.toNat_natCast]
theorem sIx_le (n d : Nat) (hd : d ≤ n) (o : Option Int) : sIx n d o ≤ n := by
  cases o with
  | none => exact hd
  | some v =>
    show (if v < 0 then (v + (n : Int)).toNat else min v.toNat n) ≤ n
    by_cases hv : v < 0
    · rw [if_pos hv]; omega
    · rw [if_neg hv]; exact Nat.min_le_right _ _
theorem clip_eq (v : Int) (n d : Nat) : (if v < 0 then max (v + (n : Int)) 0 else min v (n : Int)) = ((sIx n d (some v) : Nat) : Int) := by
  show (if v < 0 then max (v + (n : Int)) 0 else min v (n : Int)) = (((if v < 0 then (v + (n : Int)).toNat else min v.toNat n) : Nat) : Int)
  by_cases hv : v < 0
  · simp only [if_pos hv]; omega
  · simp only [if_neg hv]; omega
theorem adjust_gen (lo hi : Option Int) (n : Nat) : Builtin.Slice.sliceAdjust lo hi 1 (n : Int) = (((sIx n 0 lo : Nat) : Int), ((sIx n n hi : Nat) : Int)) := by
  have h1 : ¬ ((1 : Int) < 0) := by omega
  unfold Builtin.Slice.sliceAdjust
  simp only [h1, if_false]
  refine Prod.ext ?_ ?_
  · cases lo with
    | none => rfl
    | some v => exact clip_eq v n 0
  · cases hi with
    | none => rfl
    | some v => exact clip_eq v n n
theorem places_gen (i j : Nat) : Builtin.Slice.slicePlaces (i : Int) (j : Int) 1 = j - i := by
  unfold Builtin.Slice.slicePlaces
  have h1 : (1 : Int) > 0 := by omega
  simp only [h1, if_true, Int.ediv_one]
  split <;> omega
theorem slicePart_ {v : Value} {o : Option Int} {Q : Option Int → Shared → Prop} (p : IsPart v o) (h : Q o s) : wpAny (model prog w) A (Builtin.Slice.slicePartIndex v) Q E s := by
  cases p with
  | none => exact slicePart_none h
  | int i t => exact slicePart_int h
theorem sliceApplied_gen {sl : Addr} {vl vu : Value} {lo hi : Option Int} {n : Nat} {Q : Int × Int × Nat → Shared → Prop} (hs : s.heap.IsSliceOf sl vl vu .none) (pl : IsPart vl lo) (pu : IsPart vu hi)
    (h : Q (((sIx n 0 lo : Nat) : Int), 1, sIx n n hi - sIx n 0 lo) s) : wpAny (model prog w) A (Builtin.Slice.sliceApplied (.ref sl) (pure (n : Int))) Q E s := by
  obtain ⟨os, hos, hcs, hds⟩ := id hs
  unfold Builtin.Slice.sliceApplied Builtin.Slice.sliceFields
  refine wpAny_bind (wpAny_bind (wpAny_field hos hds (x := vl) rfl (wpAny_bind (wpAny_field hos hds (x := vu) rfl (wpAny_bind (wpAny_field hos hds (x := .none) rfl (wpAny_pure ?_)))))))
  refine wpAny_bind (slicePart_none ?_)
  show wpAny _ _ (if ((1 : Int) == 0) = true then _ else _) _ _ s
  rw [if_neg (by decide)]
  refine wpAny_bind (slicePart_ pl (wpAny_bind (slicePart_ pu (wpAny_bind (wpAny_pure ?_)))))
  show wpAny _ _ (match Builtin.Slice.sliceAdjust lo hi 1 (n : Int) with | (lo, hi) => pure (lo, (1 : Int), Builtin.Slice.slicePlaces lo hi 1)) _ _ s
  rw [adjust_gen lo hi n]
  show wpAny _ _ (pure (((sIx n 0 lo : Nat) : Int), (1 : Int), Builtin.Slice.slicePlaces ((sIx n 0 lo : Nat) : Int) ((sIx n n hi : Nat) : Int) 1)) _ _ s
  rw [places_gen]
  exact wpAny_pure h
theorem pick_gen (xs : Array Value) (i k : Nat) : ((List.range k).filterMap fun (m : Nat) => xs[((i : Int) + (m : Int) * 1).toNat]?).toArray = ((xs.toList.drop i).take k).toArray := by
  have e : (fun (m : Nat) => xs[((i : Int) + (m : Int) * 1).toNat]?) = fun m => xs[i + m]? := by
    funext m
    have : ((i : Int) + (m : Int) * 1).toNat = i + m := by omega
    rw [this]
  rw [e]
  have := pick_run xs i k
  rw [List.filterMap_map] at this
  have e2 : ((fun x => xs[x]?) ∘ fun x => i + x) = fun m => xs[i + m]? := rfl
  rw [e2] at this
  rw [this]

theorem getItem_tuple_cut {t sl : Addr} {items : Array Value} {vl vu : Value} {lo hi : Option Int} {Q : Value → Shared → Prop} (ht : IsTup s.heap t items) (hs : s.heap.IsSliceOf sl vl vu .none) (pl : IsPart vl lo) (pu : IsPart vu hi)
    (hw : ¬ (sIx items.size 0 lo = 0 ∧ sIx items.size items.size hi = items.size))
    (h : Q (.ref s.heap.objs.size) { s with heap := s.heap.push { cls := .type "tuple", data := .seq ((items.toList.drop (sIx items.size 0 lo)).take (sIx items.size items.size hi - sIx items.size 0 lo)).toArray } })
    (hsz : items.size ≤ sizeLine) : wpAny (model prog w) A (getItem (.ref t) (.ref sl)) Q E s := by
  have htake : sizeOk (.seq ((items.toList.drop (sIx items.size 0 lo)).take (sIx items.size items.size hi - sIx items.size 0 lo)).toArray) := by
    show ((items.toList.drop (sIx items.size 0 lo)).take (sIx items.size items.size hi - sIx items.size 0 lo)).toArray.size ≤ sizeLine
    rw [List.size_toArray, List.length_take, List.length_drop, Array.length_toList]
    omega
  have hj : sIx items.size items.size hi ≤ items.size := sIx_le _ _ (Nat.le_refl _) hi
  obtain ⟨os, hos, hcs, hds⟩ := id hs
  have hTs : s.TypeIs (.ref sl) "slice" := ⟨os, hos, hcs⟩
  unfold getItem
  try with_reducible refine wpAny_holding ?_
  first | refine wpAny_bind (wpAny_pure ?_) | skip
  refine wpAny_bind (wpAny_sequenceKey ht.typeIs (by decide) ?_)
  refine wpAny_bind (wpAny_callSpecial?_slot (name := Str.ofString "__getitem__") ht.typeIs PyProof.Rows.slot_tuple_getitem
    (wpAny_call_entry PyProof.Rows.slot_tuple_getitem ht.typeIs entry_tuple_getitem ?_ (args_tuple_getitem _ _)))
  show wpAny _ _ (Builtin.Tuple.tupleItemsOf (.ref t) >>= _) _ _ s
  refine wpAny_bind (tupleItemsOf_ ht ?_)
  refine wpAny_bind (wpAny_typeOf hTs ?_)
  rw [if_pos (by decide)]
  refine wpAny_bind (sliceApplied_gen hs pl pu ?_)
  have hno : ¬ ((((sIx items.size 0 lo : Nat) : Int) == 0 && (1 : Int) == 1 && (sIx items.size items.size hi - sIx items.size 0 lo) == items.size) = true) := by
    intro q
    rw [Bool.and_eq_true, Bool.and_eq_true] at q
    have q1 : ((sIx items.size 0 lo : Nat) : Int) = 0 := eq_of_beq q.1.1
    have q2 : sIx items.size items.size hi - sIx items.size 0 lo = items.size := eq_of_beq q.2
    exact hw ⟨by omega, by omega⟩
  show wpAny _ _ (if (((sIx items.size 0 lo : Nat) : Int) == 0 && (1 : Int) == 1 && (sIx items.size items.size hi - sIx items.size 0 lo) == items.size) = true then _ else _) _ _ s
  rw [if_neg hno, pick_gen]
  first
    | exact wpAny_bind (m := Builtin.Tuple.tupleExact _) (wpAny_newObj_type (wpAny_pure ⟨_, rfl, wpAny_pure h⟩) htake)
    | exact wpAny_bind (m := Builtin.Tuple.tupleExact _) (wpAny_newObj_type (wpAny_bind (wpAny_pure (wpAny_pure ⟨_, rfl, wpAny_pure h⟩))) htake)
    | exact wpAny_bind (wpAny_bind (m := Builtin.Tuple.tupleExact _) (wpAny_newObj_type (wpAny_pure (wpAny_pure ⟨_, rfl, wpAny_pure h⟩)) htake))
    | exact wpAny_bind (wpAny_bind (m := Builtin.Tuple.tupleExact _) (wpAny_newObj_type (wpAny_pure ⟨_, rfl, wpAny_pure h⟩) htake))
end
end HT

namespace L2
open PySem PySem.Spec PyProof.Rows

/-! ### the parts of a slice -/
abbrev TO := St → Hp → (Option Int → Hp → Prop) → Prop
/-- a slice's part (left out, or an int) -/
def PO (X : Cx) (e : Option Expr) (t : TO) : Prop :=
  ∀ (pins : List (Addr × Obj)) (s : Shared) (σ : St) (H : Hp) (Q : Option Int → Hp → Prop), Inv X pins σ H s → t σ H Q →
    wpAny (model X.prog X.w) X.A (evalPart e X.env) (fun u s' => ∃ o H', Inv X pins σ H' s' ∧ IsPart u o ∧ Q o H') X.xe s
def tNoPart : TO := fun _ H Q => Q none H
def tPart (t : TE) : TO := fun σ H Q => t σ H fun x H1 => ∃ i, x = .int i ∧ Q (some i) H1

theorem intsAre_of {ns : List Int} : ∀ {us : List Value}, Vals (ns.map V.int) us → IntsAre us ns := by
  induction ns with
  | nil => intro us r; rw [List.map_nil] at r; cases r; exact .nil
  | cons n ns ih =>
    intro us r
    rw [List.map_cons] at r
    cases r with
    | cons r1 r2 =>
      obtain ⟨t, e⟩ := r1
      subst e
      exact .cons n t (ih r2)

section
variable {X : Cx} {e : Expr} {te : TE} {lo hi : Option Expr} {tl th : TO} {pos p2 : Pos}

theorem po_none : PO X none tNoPart := by
  intro pins s σ H Q I h
  rw [evalPart_none]
  exact wpAny_pure ⟨none, H, I, .none, h⟩
theorem po_some (h : PE X e te) : PO X (some e) (tPart te) := by
  intro pins s σ H Q I hw
  rw [evalPart_some]
  refine thn (h pins s σ H _ I hw) fun u s1 ⟨x, H1, I1, r1, q1⟩ => ?_
  obtain ⟨i, rfl, q⟩ := q1
  obtain ⟨t, rfl⟩ := r1
  exact ⟨some i, H1, I1, .int i t, q⟩

/-- what a slice of a value is, by values: the slice object stands at sl -/
def SlR (X : Cx) (r : V → Option Int → Option Int → Hp → VK → Prop) : Prop :=
  ∀ (pins : List (Addr × Obj)) (s : Shared) (σ : St) (H : Hp) (x : V) (v vl vu : Value) (lo hi : Option Int) (sl : Addr) (Q : VK), Inv X pins σ H s → RelV x v → s.heap.IsSliceOf sl vl vu .none → IsPart vl lo → IsPart vu hi → r x lo hi H Q →
    ∃ T id, typeLookup (.type T) "__getitem__" = pure (some (.builtin id)) ∧ s.TypeIs v T ∧ wpAny (model X.prog X.w) X.A (getItem v (.ref sl)) (EP X pins σ Q) X.xe s
theorem SlR.or {r r' : V → Option Int → Option Int → Hp → VK → Prop} (h : SlR X r) (h' : SlR X r') : SlR X (fun x lo hi H Q => r x lo hi H Q ∨ r' x lo hi H Q) := by
  intro pins s σ H x v vl vu lo hi sl Q I rx hs pl pu q
  rcases q with q | q
  · exact h pins s σ H x v vl vu lo hi sl Q I rx hs pl pu q
  · exact h' pins s σ H x v vl vu lo hi sl Q I rx hs pl pu q
def tSl (r : V → Option Int → Option Int → Hp → VK → Prop) (te : TE) (tl th : TO) : TE := fun σ H Q => te σ H fun x H1 => tl σ H1 fun l H2 => th σ H2 fun u H3 => r x l u H3 Q
/-- a[lo:hi], any a -/
theorem pe_slice {r : V → Option Int → Option Int → Hp → VK → Prop} (hr : SlR X r) (he : PE X e te) (hl : PO X lo tl) (hu : PO X hi th) : PE X (.Subscript e (.Slice lo hi none p2) pos) (tSl r te tl th) := by
  intro pins s σ H Q I h
  refine Subscript_ (thn (he pins s σ H _ I h) fun v s1 ⟨x, H1, I1, r1, q1⟩ => ?_)
  refine wpAny_Slice (thn (hl pins s1 σ H1 _ I1 q1) fun vl s2 ⟨l, H2, I2, pl, q2⟩ => thn (hu pins s2 σ H2 _ I2 q2) fun vu s3 ⟨u, H3, I3, pu, q3⟩ => ?_)
  rw [evalPart_none]
  refine wpAny_pure ?_
  have I4 : Inv X pins σ H3 { s3 with heap := s3.heap.push { cls := .type "slice", data := .fields #[vl, vu, .none] } } := I3.kept (t' := s3.toks) fun b ob q => Heap.get?_push_of_some _ q
  obtain ⟨T, id, hT, ht, hg⟩ := hr pins { s3 with heap := s3.heap.push { cls := .type "slice", data := .fields #[vl, vu, .none] } } σ H3 x v vl vu l u s3.heap.objs.size Q I4 r1 (Heap.IsSliceOf.new ..) pl pu q3
  show wpAny (model X.prog X.w) X.A (subscriptTail e (.Slice lo hi none p2) v (.ref s3.heap.objs.size)) (EP X pins σ Q) X.xe { s3 with heap := s3.heap.push { cls := .type "slice", data := .fields #[vl, vu, .none] } }
  exact tail_any (ops := [.ref s3.heap.objs.size, v]) ht hT hg (by with_unfolding_all rfl)

/-- the items of xs[lo:hi] -/
def cutV (xs : List V) (lo hi : Option Int) : List V := (xs.drop (HT.sIx xs.length 0 lo)).take (HT.sIx xs.length xs.length hi - HT.sIx xs.length 0 lo)
theorem cutV_length (xs : List V) (lo hi : Option Int) : (cutV xs lo hi).length ≤ xs.length := by
  unfold cutV
  rw [List.length_take, List.length_drop]
  omega
/-- t[lo:hi], not the whole of it (the whole would be t itself) -/
def rSlT (K : PySem.W.Frag) : V → Option Int → Option Int → Hp → VK → Prop := fun x lo hi H Q => ∃ a xs, x = .ref a ∧ SqT K H a xs ∧
  ¬ (HT.sIx xs.length 0 lo = 0 ∧ HT.sIx xs.length xs.length hi = xs.length) ∧ ∀ p, H p = none → Q (.ref p) (upd H p (.tup (cutV xs lo hi)))
theorem sl_tup : SlR X (rSlT X.K) := by
  intro pins s σ H x v vl vu lo hi sl Q I rx hs pl pu h
  obtain ⟨a, xs, rfl, hx, hw, q⟩ := h
  cases rx
  obtain ⟨its, r, ht, hz⟩ := I.tuple hx
  have hlen : its.toArray.size = xs.length := by rw [List.size_toArray]; exact r.length.symm
  refine ⟨"tuple", _, PyProof.Rows.slot_tuple_getitem.lookup, ht.typeIs, ?_⟩
  refine HT.getItem_tuple_cut ht hs pl pu (by rw [hlen]; exact hw) ?_ (by rw [hlen]; exact hz)
  rw [hlen]
  refine ⟨.ref s.heap.objs.size, _, I.laid (t' := s.toks) (o := .tup (cutV xs lo hi)) (fun b ob q => Heap.get?_push_of_some _ q) (Nat.le_refl _) ?_, rfl, q _ (I.hok.fresh (Nat.le_refl _))⟩
  exact ⟨Nat.le_trans (cutV_length xs lo hi) hz, _, (r.drop (HT.sIx xs.length 0 lo)).take (HT.sIx xs.length xs.length hi - HT.sIx xs.length 0 lo), IsTup.new _ _⟩

/-! ### t < u, t + u -/
def rLtT (K : PySem.W.Frag) : R2 := fun x y H Q => ∃ a b ns ms, x = .ref a ∧ y = .ref b ∧ SqT K H a (ns.map V.int) ∧ SqT K H b (ms.map V.int) ∧ Q (.bl (HT.lexLt ns ms)) H
theorem op_ltT (hu : X.A.units < cLine) : OpR X (compareOp .Lt) (rLtT X.K) := by
  intro pins s σ H x y v u Q I rx ry h
  obtain ⟨a, b, ns, ms, rfl, rfl, ha, hb, q⟩ := h
  cases rx
  cases ry
  obtain ⟨its, r1, p1, _⟩ := I.tuple ha
  obtain ⟨its2, r2, p2, _⟩ := I.tuple hb
  have i1 : IntsAre its.toArray.toList ns := intsAre_of r1
  have i2 : IntsAre its2.toArray.toList ms := intsAre_of r2
  exact HT.lt_tupInts p1 p2 i1 i2 hu ⟨.bl (HT.lexLt ns ms), H, I, rfl, q⟩
/-- t + u, t not empty: u empty gives t itself -/
def rCatT (K : PySem.W.Frag) : R2 := fun x y H Q => ∃ a b xs ys, x = .ref a ∧ y = .ref b ∧ SqT K H a xs ∧ SqT K H b ys ∧ xs ≠ [] ∧ xs.length + ys.length ≤ sizeLine ∧
  (ys = [] → Q (.ref a) H) ∧ (ys ≠ [] → ∀ p, H p = none → Q (.ref p) (upd H p (.tup (xs ++ ys))))
theorem Vals.nil_iff {xs : List V} {us : List Value} (r : Vals xs us) : us = [] ↔ xs = [] := by
  cases r with
  | nil => simp
  | cons _ _ => simp
theorem op_catT : OpR X (binaryOp .Add) (rCatT X.K) := by
  intro pins s σ H x y v u Q I rx ry h
  obtain ⟨a, b, xs, ys, rfl, rfl, ha, hb, hx, hz, q1, q2⟩ := h
  cases rx
  cases ry
  obtain ⟨its, r1, p1, _⟩ := I.tuple ha
  obtain ⟨its2, r2, p2, _⟩ := I.tuple hb
  refine HT.cat_tup p1 p2 (fun z => hx (r1.nil_iff.mp z)) (fun z => ⟨.ref a, H, I, rfl, q1 (r2.nil_iff.mp z)⟩) (fun z => ?_) (by rw [← r1.length, ← r2.length]; exact hz)
  refine ⟨.ref s.heap.objs.size, _, I.laid (t' := s.toks) (o := .tup (xs ++ ys)) (fun b ob q => Heap.get?_push_of_some _ q) (Nat.le_refl _) ?_, rfl, q2 (fun w => z (r2.nil_iff.mpr w)) _ (I.hok.fresh (Nat.le_refl _))⟩
  exact ⟨by rw [List.length_append]; exact hz, _, r1.append r2, IsTup.new _ _⟩
/-- tuple(t) -/
theorem call_tupleT : CallR X (.type "tuple") (fun xs H Q => ∃ a ys, xs = [.ref a] ∧ SqT X.K H a ys ∧ Q (.ref a) H) := by
  intro pins s σ H xs us Q I r h
  obtain ⟨a, ys, rfl, ha, q⟩ := h
  obtain ⟨u, rfl, ru⟩ := vals1 r
  cases ru
  obtain ⟨its, _, p1, _⟩ := I.tuple ha
  exact call_tuple_same (items := its.toArray) p1 ⟨.ref a, H, I, rfl, q⟩
end
end L2

namespace L2
open PySem PySem.Spec PyProof.Rows

/-! ### places -/
/-- the place that an index of any sign means -/
def ixN (n : Nat) (i : Int) : Option Nat := if 0 ≤ i then (if i < n then some i.toNat else none) else if -(n : Int) ≤ i then some (i + n).toNat else none
def atI {α : Type} (xs : List α) (i : Int) : Option α := (ixN xs.length i).bind fun j => xs[j]?
theorem ixN_seq {n : Nat} {i : Int} {j : Nat} (h : ixN n i = some j) : seqIndex? i n = some j ∧ j < n ∧ -(n : Int) ≤ i ∧ i < n := by
  unfold ixN at h
  by_cases h0 : 0 ≤ i
  · rw [if_pos h0] at h
    by_cases h1 : i < n
    · rw [if_pos h1] at h
      have e : i.toNat = j := Option.some.inj h
      exact ⟨by rw [seqIndex_of h0 h1, e], by omega, by omega, h1⟩
    · rw [if_neg h1] at h; cases h
  · rw [if_neg h0] at h
    by_cases h1 : -(n : Int) ≤ i
    · rw [if_pos h1] at h
      have e : (i + n).toNat = j := Option.some.inj h
      exact ⟨by rw [seqIndex_neg (by omega) h1, e], by omega, h1, by omega⟩
    · rw [if_neg h1] at h; cases h
theorem atI_get {α : Type} {xs : List α} {i : Int} {v : α} (h : atI xs i = some v) : ∃ j, seqIndex? i xs.length = some j ∧ xs[j]? = some v ∧ j < xs.length ∧ -(xs.length : Int) ≤ i ∧ i < xs.length := by
  unfold atI at h
  cases e : ixN xs.length i with
  | none => rw [e] at h; cases h
  | some j =>
    rw [e] at h
    obtain ⟨h1, h2, h3, h4⟩ := ixN_seq e
    exact ⟨j, h1, h, h2, h3, h4⟩
theorem atI_nat {α : Type} {xs : List α} {j : Nat} {v : α} (h : xs[j]? = some v) : atI xs (j : Int) = some v := by
  have hj : j < xs.length := (List.getElem?_eq_some_iff.mp h).1
  have e : ixN xs.length (j : Int) = some j := by
    unfold ixN
    rw [if_pos (by omega), if_pos (by omega)]; simp
  unfold atI; rw [e]; exact h
theorem atI_last {α : Type} (xs : List α) (v : α) : atI (xs ++ [v]) (-1) = some v := by
  have hl : (xs ++ [v]).length = xs.length + 1 := by simp
  have e : ixN (xs ++ [v]).length (-1) = some xs.length := by
    unfold ixN
    rw [hl, if_neg (by decide), if_pos (by omega)]
    congr 1
    omega
  unfold atI
  rw [e]
  show (xs ++ [v])[xs.length]? = some v
  simp

/-! ### what may be subscripted -/
/-- what stands as an index of a plain subscript -/
def PlainIx (b : Expr) : Prop := ∀ o i, subscripted b false o i = operate [o, i] (getItem o i)
/-- a subscript by values -/
def IxR (X : Cx) (r : R2) : Prop :=
  ∀ (value slice : Expr) (pins : List (Addr × Obj)) (s : Shared) (σ : St) (H : Hp) (x y : V) (v u : Value) (Q : VK), Inv X pins σ H s → RelV x v → RelV y u → r x y H Q →
    subscripted slice false v u = operate [v, u] (getItem v u) → wpAny (model X.prog X.w) X.A (subscriptTail value slice v u) (EP X pins σ Q) X.xe s
/-- a call of a builtin's method by values: the receiver, the arguments -/
def MtR (X : Cx) (id : String) (r : V → List V → Hp → VK → Prop) : Prop :=
  ∀ (pins : List (Addr × Obj)) (s : Shared) (σ : St) (H : Hp) (x : V) (xs : List V) (v : Value) (us : List Value) (Q : VK), Inv X pins σ H s → RelV x v → Vals xs us → r x xs H Q →
    wpAny (model X.prog X.w) X.A (call (.builtin id) (v :: us)) (EP X pins σ Q) X.xe s
section
variable {X : Cx} {a b : Expr} {ta tb : TE} {pos : Pos}
theorem IxR.or {r r' : R2} (h : IxR X r) (h' : IxR X r') : IxR X (fun x y H Q => r x y H Q ∨ r' x y H Q) := by
  intro value slice pins s σ H x y v u Q I rx ry q hs
  rcases q with q | q
  · exact h value slice pins s σ H x y v u Q I rx ry q hs
  · exact h' value slice pins s σ H x y v u Q I rx ry q hs
theorem MtR.or {id : String} {r r' : V → List V → Hp → VK → Prop} (h : MtR X id r) (h' : MtR X id r') : MtR X id (fun x xs H Q => r x xs H Q ∨ r' x xs H Q) := by
  intro pins s σ H x xs v us Q I rx rs q
  rcases q with q | q
  · exact h pins s σ H x xs v us Q I rx rs q
  · exact h' pins s σ H x xs v us Q I rx rs q
/-- a[b] -/
theorem pe_ix {r : R2} (hr : IxR X r) (ha : PE X a ta) (hb : PE X b tb) (hs : PlainIx b) : PE X (.Subscript a b pos) (tOp r ta tb) := by
  intro pins s σ H Q I h
  exact Subscript_ (binT ha hb I h fun v u s2 x y H2 I2 rx ry q => hr a b pins s2 σ H2 x y v u Q I2 rx ry q (hs _ _))

def rIxL (K : PySem.W.Frag) : R2 := fun x y H Q => ∃ p xs i v, x = .ref p ∧ y = .int i ∧ SqL K H p xs ∧ atI xs i = some v ∧ Q v H
def rIxT (K : PySem.W.Frag) : R2 := fun x y H Q => ∃ p xs i v, x = .ref p ∧ y = .int i ∧ SqT K H p xs ∧ atI xs i = some v ∧ Q v H
def rIxS : R2 := fun x y H Q => ∃ z i c, x = .str z ∧ y = .int i ∧ z.length ≤ sizeLine ∧ atI z.cps.toList i = some c ∧ Q (.str ⟨#[c]⟩) H
theorem ix_list : IxR X (rIxL X.K) := by
  intro value slice pins s σ H x y v u Q I rx ry h hs
  obtain ⟨p, xs, i, z, rfl, rfl, hq, he, q⟩ := h
  cases rx
  obtain ⟨t, rfl⟩ := ry
  obtain ⟨its, r, pl, hz⟩ := I.list hq
  obtain ⟨j, h1, h2, h3, h4, h5⟩ := atI_get he
  obtain ⟨w, ew, rw'⟩ := r.get h2
  have hl := r.length
  have hn := line63
  have fin : EP X pins σ Q w s := ⟨z, H, I, rw', q⟩
  by_cases h0 : 0 ≤ i
  · have hj : i.toNat = j := by
      rw [seqIndex_of h0 h5] at h1
      exact Option.some.inj h1
    exact item_listR pl.isList h0 (by omega) (by rw [hj]; simpa using ew) fin hs
  · have hj : (i + (its.toArray.size : Int)).toNat = j := by
      rw [seqIndex_neg (by omega) h4] at h1
      rw [List.size_toArray, ← hl]
      exact Option.some.inj h1
    exact subscriptTail_builtinR (x := w) pl.isList.typeIs slot_list_getitem.lookup
      (wpAny_getItem_list_neg (Q := fun r s' => r = w ∧ EP X pins σ Q r s') pl.isList (by omega) (by rw [List.size_toArray] <;> omega) (by omega) (by rw [hj]; simpa using ew) ⟨rfl, fin⟩) hs
theorem ix_tup : IxR X (rIxT X.K) := by
  intro value slice pins s σ H x y v u Q I rx ry h hs
  obtain ⟨p, xs, i, z, rfl, rfl, hq, he, q⟩ := h
  cases rx
  obtain ⟨t, rfl⟩ := ry
  obtain ⟨its, r, pl, hz⟩ := I.tuple hq
  obtain ⟨j, h1, h2, h3, h4, h5⟩ := atI_get he
  obtain ⟨w, ew, rw'⟩ := r.get h2
  have hl := r.length
  have hn := line63
  have fin : EP X pins σ Q w s := ⟨z, H, I, rw', q⟩
  exact subscriptTail_builtinR (x := w) pl.typeIs slot_tuple_getitem.lookup
    (getItem_tuple (j := j) (Q := fun r s' => r = w ∧ EP X pins σ Q r s') pl (by omega) (by omega) (by rw [List.size_toArray, ← hl]; exact h1) (by simpa using ew) ⟨rfl, fin⟩) hs
theorem ix_str : IxR X rIxS := by
  intro value slice pins s σ H x y v u Q I rx ry h hs
  obtain ⟨z, i, c, rfl, rfl, hz, he, q⟩ := h
  obtain ⟨t, rfl⟩ := rx
  obtain ⟨t', rfl⟩ := ry
  obtain ⟨j, h1, h2, h3, h4, h5⟩ := atI_get he
  have hl : z.cps.toList.length = z.length := by simp [Str.length]
  rw [hl] at h1 h4 h5
  have hn := line63
  exact tail_any (typeIs_str s z t) slot_str_getitem.lookup (getItem_str (c := c) (by
    have e1 : decide (i < -(2 ^ 63 : Int)) = false := decide_eq_false (by omega)
    have e2 : decide (i ≥ 2 ^ 63) = false := decide_eq_false (by omega)
    rw [e1, e2, Bool.or_false]) (by rw [h1]; simpa using h2) ⟨.str ⟨#[c]⟩, H, I.tok _, ⟨_, rfl⟩, q⟩) hs
/-- list, tuple or str -/
def rIx (K : PySem.W.Frag) : R2 := fun x y H Q => rIxL K x y H Q ∨ rIxT K x y H Q ∨ rIxS x y H Q
theorem ix_seq : IxR X (rIx X.K) := ix_list.or (ix_tup.or ix_str)

/-! ### xs[i] = v, any sign -/
/-- the list's object behind a store -/
theorem mapSeq_set (its : List Value) (n j : Nat) (u : Value) : Obj.mapSeq (·.setIfInBounds j u) { cls := .type "list", data := .seq its.toArray n } = { cls := .type "list", data := .seq (its.set j u).toArray n } := by
  simp [Obj.mapSeq]
theorem Inv.lst {pins : List (Addr × Obj)} {σ : St} {H : Hp} {s : Shared} {p : Addr} {xs : List V} (I : Inv X pins σ H s) (h : H p = some (.lst xs)) :
    ∃ (its : List Value) (n : Nat), Vals xs its ∧ s.heap.get? p = some { cls := .type "list", data := .seq its.toArray n } ∧ xs.length ≤ sizeLine := by
  obtain ⟨z, its, n, r, e⟩ := I.hok p _ h
  exact ⟨its, n, r, e, z⟩
/-- the list at p is written by an update of its object -/
theorem Inv.lstUpd {pins : List (Addr × Obj)} {σ : St} {H : Hp} {s : Shared} {p : Addr} {xs ys : List V} {its its' : List Value} {n n' : Nat} {f : Obj → Obj} (I : Inv X pins σ H s) (h : H p = some (.lst xs))
    (ho : s.heap.get? p = some { cls := .type "list", data := .seq its.toArray n }) (hf : f { cls := .type "list", data := .seq its.toArray n } = { cls := .type "list", data := .seq its'.toArray n' }) (r : Vals ys its') (hz : ys.length ≤ sizeLine) (t : Nat) :
    Inv X pins σ (upd H p (.lst ys)) { s with heap := s.heap.update p f, toks := t } := by
  have e : (s.heap.update p f).get? p = some { cls := .type "list", data := .seq its'.toArray n' } := by
    rw [Heap.get?_update_self f ho (by rw [hf] <;> rfl), hf]
  refine I.write (x := p) (e := p) (by rw [h]; trivial) (.inl rfl) (fun b u hb q => (Heap.get?_update_other _ _ (Ne.symm hb)).trans q) ⟨_, e⟩ ?_
  exact ⟨hz, its', n', r, e⟩
def rSetL : V → V → V → Hp → (Hp → Prop) → Prop := fun o i v H Q => ∃ p xs k j, o = .ref p ∧ i = .int k ∧ H p = some (.lst xs) ∧ ixN xs.length k = some j ∧ Q (upd H p (.lst (xs.set j v)))
theorem set_list : PSet X rSetL := by
  intro pins s σ H o i v ov iv u Q I ro ri rv h
  obtain ⟨p, xs, k, j, rfl, rfl, hp, hj, q⟩ := h
  cases ro
  obtain ⟨t, rfl⟩ := ri
  obtain ⟨its, n, r, ho, hz⟩ := I.lst hp
  obtain ⟨h1, h2, h3, h4⟩ := ixN_seq hj
  have hl := r.length
  have hn := line63
  have I' : Inv X pins σ (upd H p (.lst (xs.set j v))) { s with heap := s.heap.update p (Obj.mapSeq (·.setIfInBounds j u)) } :=
    I.lstUpd hp ho (mapSeq_set its n j u) (r.set rv j) (by rw [List.length_set]; exact hz) s.toks
  by_cases h0 : 0 ≤ k
  · have hk : k.toNat = j := by
      rw [seqIndex_of h0 h4] at h1
      exact Option.some.inj h1
    exact PySem.W.ki_setAt ho h0 (by omega) (by rw [List.size_toArray, ← hl]; exact h4) (by rw [hk]; exact ⟨_, I', q⟩)
  · have hk : (k + (its.toArray.size : Int)).toNat = j := by
      rw [seqIndex_neg (by omega) h3] at h1
      rw [List.size_toArray, ← hl]
      exact Option.some.inj h1
    exact PySem.W.ki_setBack ho (by omega) (by rw [List.size_toArray, ← hl]; exact h3) (by omega) (by rw [hk]; exact ⟨_, I', q⟩)

/-! ### slices -/
theorem slice_bounds (lo hi : Option Int) (n : Nat) : (sliceBounds lo hi none n).1 = ((HT.sIx n 0 lo : Nat) : Int) ∧ (sliceBounds lo hi none n).2.1 = ((HT.sIx n n hi : Nat) : Int) ∧ (sliceBounds lo hi none n).2.2 = 1 := by
  refine ⟨?_, ?_, rfl⟩
  · cases lo with
    | none => simp [sliceBounds, HT.sIx]
    | some i =>
      simp only [sliceBounds, HT.sIx, Option.getD_none, show (1 : Int) > 0 by decide, if_true]
      by_cases h : i < 0
      · simp only [h, if_true] <;> omega
      · simp only [h, if_false] <;> omega
  · cases hi with
    | none => simp [sliceBounds, HT.sIx]
    | some i =>
      simp only [sliceBounds, HT.sIx, Option.getD_none, show (1 : Int) > 0 by decide, if_true]
      by_cases h : i < 0
      · simp only [h, if_true] <;> omega
      · simp only [h, if_false] <;> omega
theorem slicePick_cut (its : List Value) (lo hi : Option Int) : slicePick its.toArray lo hi none = ((its.drop (HT.sIx its.length 0 lo)).take (HT.sIx its.length its.length hi - HT.sIx its.length 0 lo)).toArray := by
  obtain ⟨h1, h2, h3⟩ := slice_bounds lo hi its.toArray.size
  unfold slicePick
  rw [h1, h2, h3]
  simp only [sliceRange_one, pick_run, List.size_toArray] <;> rfl
/-- xs[lo:hi] of a list: a new list -/
def rSlL (K : PySem.W.Frag) : V → Option Int → Option Int → Hp → VK → Prop := fun x lo hi H Q => ∃ a xs, x = .ref a ∧ SqL K H a xs ∧ ∀ p, H p = none → Q (.ref p) (upd H p (.lst (cutV xs lo hi)))
theorem sl_list : SlR X (rSlL X.K) := by
  intro pins s σ H x v vl vu lo hi sl Q I rx hs pl pu h
  obtain ⟨a, xs, rfl, hx, q⟩ := h
  cases rx
  obtain ⟨its, r, ht, hz⟩ := I.list hx
  have hlen := r.length
  refine ⟨"list", _, slot_list_getitem.lookup, ht.isList.typeIs, ?_⟩
  refine wpAny_getItem_list_slice ht.isList hs pl pu .none (by simp) ?_ (by rw [List.size_toArray] <;> omega)
  rw [slicePick_cut, ← hlen]
  refine ⟨.ref s.heap.objs.size, _, I.laid (t' := s.toks) (o := .lst (cutV xs lo hi)) (fun b ob q => Heap.get?_push_of_some _ q) (Nat.le_refl _) ?_, rfl, q _ (I.hok.fresh (Nat.le_refl _))⟩
  exact ⟨Nat.le_trans (cutV_length xs lo hi) hz, _, 0, (r.drop (HT.sIx xs.length 0 lo)).take (HT.sIx xs.length xs.length hi - HT.sIx xs.length 0 lo), Heap.get?_push_size _ rfl⟩

/-! ### in, not in: flat items -/
def flatV : V → Bool
  | .non => true
  | .bl _ => true
  | .int _ => true
  | .str _ => true
  | _ => false
/-- == of flat values -/
def eqV : V → V → Bool
  | .non, .non => true
  | .bl a, .bl b => a == b
  | .bl a, .int b => (if a then 1 else 0) == b
  | .int a, .bl b => a == (if b then 1 else 0)
  | .int a, .int b => a == b
  | .str a, .str b => a == b
  | _, _ => false
theorem eqAt_V {A : Around} {s : Shared} {y x : V} {u v : Value} (ry : RelV y u) (rx : RelV x v) (fy : flatV y = true) (fx : flatV x = true) : SeqAt.EqAt A s u v (eqV y x) := by
  cases y with
  | non =>
    cases ry
    cases x with
    | non => cases rx; exact SeqAt.EqAt.same _
    | bl b => cases rx; exact SeqAt.EqAt.none_bool b
    | int b => obtain ⟨t, rfl⟩ := rx; exact SeqAt.EqAt.none_int b t
    | str b => obtain ⟨t, rfl⟩ := rx; exact SeqAt.EqAt.none_str b t
    | _ => exact absurd (show false = true from fx) Bool.false_ne_true
  | bl a =>
    cases ry
    cases x with
    | non => cases rx; exact SeqAt.EqAt.bool_none a
    | bl b => cases rx; exact SeqAt.EqAt.bool_bool a b
    | int b => obtain ⟨t, rfl⟩ := rx; exact SeqAt.EqAt.bool_int a b t
    | str b => obtain ⟨t, rfl⟩ := rx; exact SeqAt.EqAt.bool_str a b t
    | _ => exact absurd (show false = true from fx) Bool.false_ne_true
  | int a =>
    obtain ⟨t', rfl⟩ := ry
    cases x with
    | non => cases rx; exact SeqAt.EqAt.int_none a t'
    | bl b => cases rx; exact SeqAt.EqAt.int_bool a t' b
    | int b => obtain ⟨t, rfl⟩ := rx; exact SeqAt.EqAt.int_int a t' b t
    | str b => obtain ⟨t, rfl⟩ := rx; exact SeqAt.EqAt.int_str a t' b t
    | _ => exact absurd (show false = true from fx) Bool.false_ne_true
  | str a =>
    obtain ⟨t', rfl⟩ := ry
    cases x with
    | non => cases rx; exact SeqAt.EqAt.str_none a t'
    | bl b => cases rx; exact SeqAt.EqAt.str_bool a t' b
    | int b => obtain ⟨t, rfl⟩ := rx; exact SeqAt.EqAt.str_int a t' b t
    | str b => obtain ⟨t, rfl⟩ := rx; exact SeqAt.EqAt.str_str a t' b t
    | _ => exact absurd (show false = true from fx) Bool.false_ne_true
  | _ => exact absurd (show false = true from fy) Bool.false_ne_true
/-- the items' answers, read off the values (a value's own answer does not lean on its token) -/
def eqU (x : V) (u : Value) : Bool := match u with
  | .none => eqV .non x
  | .bool b => eqV (.bl b) x
  | .int i _ => eqV (.int i) x
  | .str z _ => eqV (.str z) x
  | _ => false
theorem eqU_of {x y : V} {u : Value} (r : RelV y u) (f : flatV y = true) : eqU x u = eqV y x := by
  cases y with
  | non => cases r; rfl
  | bl b => cases r; rfl
  | int i => obtain ⟨t, rfl⟩ := r; rfl
  | str z => obtain ⟨t, rfl⟩ := r; rfl
  | _ => exact absurd (show false = true from f) Bool.false_ne_true
theorem any_eqU {x : V} : ∀ {xs : List V} {us : List Value}, Vals xs us → xs.all flatV = true → us.any (eqU x) = xs.any fun y => eqV y x
  | _, _, .nil, _ => rfl
  | y :: xs, u :: us, .cons r t, f => by
    rw [List.all_cons, Bool.and_eq_true] at f
    rw [List.any_cons, List.any_cons, eqU_of r f.1, any_eqU t f.2]
theorem mem_eqAt {A : Around} {s : Shared} {x : V} {v : Value} (rx : RelV x v) (fx : flatV x = true) : ∀ {xs : List V} {us : List Value}, Vals xs us → xs.all flatV = true → ∀ u ∈ us, SeqAt.EqAt A s u v (eqU x u)
  | _, _, .nil, _ => fun u hu => by cases hu
  | y :: xs, u :: us, .cons r t, f => fun u' hu => by
    rw [List.all_cons, Bool.and_eq_true] at f
    rcases List.mem_cons.mp hu with rfl | hu
    · rw [eqU_of r f.1]; exact eqAt_V r rx f.1 fx
    · exact mem_eqAt rx fx t f.2 u' hu
def inV (x : V) (xs : List V) : Bool := xs.any fun y => eqV y x
/-- x in a list or tuple of flat items -/
def rIn (K : PySem.W.Frag) (neg : Bool) : R2 := fun x y H Q => ∃ p xs, y = .ref p ∧ (SqL K H p xs ∨ SqT K H p xs) ∧ flatV x = true ∧ xs.all flatV = true ∧ Q (.bl (if neg then !inV x xs else inV x xs)) H
theorem op_in_seq : OpR X (compareOp .In) (rIn X.K false) := by
  intro pins s σ H x y v u Q I rx ry h
  obtain ⟨p, xs, rfl, hq, fx, fs, q⟩ := h
  cases ry
  rcases hq with hq | hq
  · obtain ⟨its, r, pl, hz⟩ := I.list hq
    refine SeqAt.in_listAt (eqU x) pl.isList (fun w hw => mem_eqAt rx fx r fs w (by simpa using hw)) ⟨.bl _, H, I, rfl, ?_⟩
    rw [show its.toArray.any (eqU x) = its.any (eqU x) by simp, any_eqU r fs]
    exact q
  · obtain ⟨its, r, pl, hz⟩ := I.tuple hq
    refine SeqAt.in_tupleAt (eqU x) pl (fun w hw => mem_eqAt rx fx r fs w (by simpa using hw)) ⟨.bl _, H, I, rfl, ?_⟩
    rw [show its.toArray.any (eqU x) = its.any (eqU x) by simp, any_eqU r fs]
    exact q
theorem op_notIn_seq : OpR X (compareOp .NotIn) (rIn X.K true) := by
  intro pins s σ H x y v u Q I rx ry h
  obtain ⟨p, xs, rfl, hq, fx, fs, q⟩ := h
  cases ry
  rcases hq with hq | hq
  · obtain ⟨its, r, pl, hz⟩ := I.list hq
    refine SeqAt.notIn_listAt (eqU x) pl.isList (fun w hw => mem_eqAt rx fx r fs w (by simpa using hw)) ⟨.bl _, H, I, rfl, ?_⟩
    rw [show its.toArray.any (eqU x) = its.any (eqU x) by simp, any_eqU r fs]
    exact q
  · obtain ⟨its, r, pl, hz⟩ := I.tuple hq
    refine SeqAt.notIn_tupleAt (eqU x) pl (fun w hw => mem_eqAt rx fx r fs w (by simpa using hw)) ⟨.bl _, H, I, rfl, ?_⟩
    rw [show its.toArray.any (eqU x) = its.any (eqU x) by simp, any_eqU r fs]
    exact q
theorem op_notIn_str : OpR X (compareOp .NotIn) (fun x y H Q => ∃ i j, x = .str i ∧ y = .str j ∧ Q (.bl (!(!(Builtin.Str.occurrences j i 0 j.length 1).isEmpty))) H) := by
  intro pins s σ H x y v u Q I rx ry h
  obtain ⟨i, j, rfl, rfl, q⟩ := h
  obtain ⟨t, rfl⟩ := rx
  obtain ⟨t', rfl⟩ := ry
  exact notIn_str ⟨.bl _, H, I, rfl, q⟩

/-! ### len, list(x), tuple(x) of any list or tuple that is read -/
theorem call_len_seq : CallR X (.builtin "len") (fun xs H Q => ∃ p ys, xs = [.ref p] ∧ (SqL X.K H p ys ∨ SqT X.K H p ys) ∧ Q (.int ys.length) H) := by
  intro pins s σ H xs us Q I r h
  obtain ⟨p, ys, rfl, hq, q⟩ := h
  obtain ⟨u, rfl, rx⟩ := vals1 r
  cases rx
  have hn := line63
  rcases hq with hq | hq
  · obtain ⟨its, r', pl, hz⟩ := I.list hq
    have hlen := r'.length
    exact Calls.call_len_list pl.isList (by simp only [List.size_toArray] <;> omega) ⟨.int ys.length, H, I.tok _, ⟨s.toks + 1, by rw [List.size_toArray, hlen]⟩, q⟩
  · obtain ⟨its, r', pl, hz⟩ := I.tuple hq
    have hlen := r'.length
    exact len_tuple pl (by simp only [List.size_toArray] <;> omega) ⟨.int ys.length, H, I.tok _, ⟨s.toks + 1, by rw [List.size_toArray, hlen]⟩, q⟩
theorem call_len_str : CallR X (.builtin "len") (fun xs H Q => ∃ z, xs = [.str z] ∧ z.length ≤ sizeLine ∧ Q (.int z.length) H) := by
  intro pins s σ H xs us Q I r h
  obtain ⟨z, rfl, hz, q⟩ := h
  obtain ⟨u, rfl, t, rfl⟩ := vals1 r
  have hn := line63
  exact len_str (by omega) ⟨.int z.length, H, I.tok _, ⟨_, rfl⟩, q⟩
theorem CallR.or {f : Value} {r r' : List V → Hp → VK → Prop} (h : CallR X f r) (h' : CallR X f r') : CallR X f (fun xs H Q => r xs H Q ∨ r' xs H Q) := by
  intro pins s σ H xs us Q I rs q
  rcases q with q | q
  · exact h pins s σ H xs us Q I rs q
  · exact h' pins s σ H xs us Q I rs q
theorem call_list_of : CallR X (.type "list") (fun xs H Q => ∃ p ys, xs = [.ref p] ∧ (SqL X.K H p ys ∨ SqT X.K H p ys) ∧ ∀ l, H l = none → Q (.ref l) (upd H l (.lst ys))) := by
  intro pins s σ H xs us Q I r h
  obtain ⟨p, ys, rfl, hq, q⟩ := h
  obtain ⟨u, rfl, rx⟩ := vals1 r
  cases rx
  have fin : ∀ (its : List Value), Vals ys its → ys.length ≤ sizeLine → ∀ (h' : Heap) (c' : Nat), (∀ b o', s.heap.get? b = some o' → h'.get? b = some o') →
      h'.get? s.heap.objs.size = some { cls := .type "list", dict := none, data := .seq its.toArray c', slots := #[] } → EP X pins σ Q (.ref s.heap.objs.size) { s with heap := h' } := fun its r' hz h' c' kp e =>
    ⟨.ref s.heap.objs.size, _, I.laid (t' := s.toks) kp (Nat.le_refl _) (show ObjOk X.prog X.w _ h' _ (.lst ys) from ⟨hz, its, c', r', e⟩), rfl, q _ (I.hok.fresh (Nat.le_refl _))⟩
  rcases hq with hq | hq
  · obtain ⟨its, r', pl, hz⟩ := I.list hq
    have hlen := r'.length
    obtain ⟨o, ho, hc, n, hd⟩ := pl.isList
    exact call_list_seq p (.inl rfl) ho hc hd (fun h' c' kp e => fin its r' hz h' c' kp e) (by simp only [List.size_toArray] <;> omega)
  · obtain ⟨its, r', pl, hz⟩ := I.tuple hq
    have hlen := r'.length
    obtain ⟨o, ho, hc, n, hd⟩ := pl
    exact call_list_seq p (.inr rfl) ho hc hd (fun h' c' kp e => fin its r' hz h' c' kp e) (by simp only [List.size_toArray] <;> omega)
theorem call_tuple_of : CallR X (.type "tuple") (fun xs H Q => ∃ p ys, xs = [.ref p] ∧ ((SqL X.K H p ys ∧ ∀ l, H l = none → Q (.ref l) (upd H l (.tup ys))) ∨ (SqT X.K H p ys ∧ Q (.ref p) H))) := by
  intro pins s σ H xs us Q I r h
  obtain ⟨p, ys, rfl, h⟩ := h
  obtain ⟨u, rfl, rx⟩ := vals1 r
  cases rx
  rcases h with ⟨hq, q⟩ | ⟨hq, q⟩
  · obtain ⟨its, r', pl, hz⟩ := I.list hq
    have hlen := r'.length
    refine call_tuple_list pl.isList (fun h' kp => ?_) (by simp only [List.size_toArray] <;> omega)
    have I1 : Inv X pins σ H { s with heap := h' } := I.kept (t' := s.toks) kp
    have I2 : Inv X pins σ (upd H h'.objs.size (.tup ys)) { s with heap := h'.push { cls := .type "tuple", data := .seq its.toArray } } :=
      I1.laid (t' := s.toks) (fun b o e => Heap.get?_push_of_some _ e) (Nat.le_refl _) (show ObjOk X.prog X.w _ _ _ (.tup ys) from ⟨hz, its, r', IsTup.new _ _⟩)
    exact ⟨.ref h'.objs.size, _, I2, rfl, q _ (I1.hok.fresh (Nat.le_refl _))⟩
  · obtain ⟨its, r', pl, hz⟩ := I.tuple hq
    exact call_tuple_same pl ⟨.ref p, H, I, rfl, q⟩

/-! ### the call of a builtin's method: o.m(..) -/
/-- the value is of that builtin type -/
def tyV (K : PySem.W.Frag) (T : String) (x : V) (H : Hp) : Prop := match x with
  | .str _ => T = "str"
  | .int _ => T = "int"
  | .ref p => (T = "list" ∧ ∃ xs, SqL K H p xs) ∨ (T = "tuple" ∧ ∃ o, K.lookup p = some o ∧ o.cls = .type "tuple" ∧ o.dict = none) ∨
      (T = "dict" ∧ ((∃ kvs, H p = some (.dK kvs)) ∨ ∃ kvs, H p = some (.dT kvs))) ∨ (T = "set" ∧ ∃ S n, H p = some (.set S n))
  | _ => False
theorem tyV_is {pins : List (Addr × Obj)} {σ : St} {H : Hp} {s : Shared} {T : String} {x : V} {v : Value} (I : Inv X pins σ H s) (r : RelV x v) (ty : tyV X.K T x H) :
    s.TypeIs v T ∧ ∀ a, v = .ref a → ∃ ob, s.heap.get? a = some ob ∧ ob.dict = none := by
  cases x with
  | str z =>
    obtain ⟨t, rfl⟩ := r
    cases (show T = "str" from ty)
    exact ⟨typeIs_str s z t, fun _ e => nomatch e⟩
  | int i =>
    obtain ⟨t, rfl⟩ := r
    cases (show T = "int" from ty)
    exact ⟨typeIs_int s i t, fun _ e => nomatch e⟩
  | ref p =>
    cases r
    rcases ty with ⟨rfl, xs, hq⟩ | ⟨rfl, o, hk, hc, hd⟩ | ⟨rfl, hk⟩ | ⟨rfl, S, n, hk⟩
    · obtain ⟨its, _, pl, _⟩ := I.list hq
      refine ⟨pl.isList.typeIs, fun a e => ?_⟩
      cases e
      obtain ⟨o, n, e, c, hd, _⟩ := pl
      exact ⟨o, e, hd⟩
    · refine ⟨⟨o, I.kIn p o hk, hc⟩, fun a e => ?_⟩
      cases e
      exact ⟨o, I.kIn _ o hk, hd⟩
    · have z : ∃ o, s.heap.get? p = some o ∧ o.ExactDict := by
        rcases hk with ⟨kvs, hk⟩ | ⟨kvs, hk⟩
        · obtain ⟨_, _, _, _, o, _, _, e, ex, _⟩ := I.hok p _ hk
          exact ⟨o, e, ex⟩
        · obtain ⟨_, _, _, _, o, _, _, e, ex, _⟩ := I.hok p _ hk
          exact ⟨o, e, ex⟩
      obtain ⟨o, e, ex⟩ := z
      refine ⟨⟨o, e, ex.1⟩, fun a e2 => ?_⟩
      cases e2
      exact ⟨o, e, ex.2.1⟩
    · obtain ⟨o, _, _, _, e, ex, _⟩ := I.hok p _ hk
      refine ⟨⟨o, e, ex.1⟩, fun a e2 => ?_⟩
      cases e2
      exact ⟨o, e, ex.2.1⟩
  | _ => exact False.elim ty
def tBM0 (K : PySem.W.Frag) (T : String) (r : V → List V → Hp → VK → Prop) (to : TE) : TE := fun σ H Q => to σ H fun x H1 => tyV K T x H1 ∧ r x [] H1 Q
def tBM (K : PySem.W.Frag) (T : String) (r : V → List V → Hp → VK → Prop) (to : TE) (t : TA) : TE := fun σ H Q => to σ H fun x H1 => tyV K T x H1 ∧ t σ H1 fun xs H2 => r x xs H2 Q
variable {o e : Expr} {es : List Expr} {to : TE} {t : TA} {name : Str} {apos cpos : Pos} {T id : String} {r : V → List V → Hp → VK → Prop}
theorem pe_bm0 (pa : PlainAttrs T) (slot : Slot T name id) (hty : typeOf (.builtin id) = pure (.type "method_descriptor")) (hm : MtR X id r) (ho : PE X o to)
    (hbase : attributeBase o name X.env (eval o X.env) = eval o X.env := by rfl) (hline : (apos.endLine == cpos.line) = true := by rfl) : PE X (.Call (.Attribute o name apos) [] [] cpos) (tBM0 X.K T r to) := by
  intro pins s σ H Q I h
  refine wpAny_Call_method0_late hbase hline (thn (ho pins s σ H _ I h) fun v s1 ⟨x, H1, I1, r1, ty, q1⟩ => ?_)
  obtain ⟨h1, h2⟩ := tyV_is I1 r1 ty
  exact ⟨T, id, pa, slot, hty, h1, h2, Calls.callWith_builtin rfl (PySem.evalArgs_none (hm pins s1 σ H1 x [] v [] Q I1 r1 .nil q1))⟩
theorem pe_bm (pa : PlainAttrs T) (slot : Slot T name id) (hty : typeOf (.builtin id) = pure (.type "method_descriptor")) (hm : MtR X id r) (ho : PE X o to) (ha : PA X (e :: es) t)
    (hbase : attributeBase o name X.env (eval o X.env) = eval o X.env := by rfl)
    (hfew : ((backTo cpos (starEach (e :: es) X.env)).all (fun x => !x.1) && (backToKw cpos (keywordEach [] X.env)).all (fun x => x.1.isSome)
      && decide ((e :: es).length + ([] : List Keyword).length + (if ([] : List Keyword).isEmpty then 0 else 1) < 30)) = true := by rfl)
    (hline : (apos.endLine == cpos.line) = true := by rfl) (hs : starEach (e :: es) X.env = (false, eval e X.env) :: starEach es X.env := by rfl) (hplain : (backTo cpos (starEach es X.env)).any (·.1) = false := by rfl) :
    PE X (.Call (.Attribute o name apos) (e :: es) [] cpos) (tBM X.K T r to t) := by
  intro pins s σ H Q I h
  refine wpAny_Call_method_late hbase hfew hline rfl (thn (ho pins s σ H _ I h) fun v s1 ⟨x, H1, I1, r1, ty, q1⟩ => ?_)
  obtain ⟨h1, h2⟩ := tyV_is I1 r1 ty
  refine ⟨T, id, pa, slot, hty, h1, h2, ?_⟩
  have hA := ha cpos pins s1 σ H1 _ I1 q1
  rw [hs] at hA ⊢
  refine Calls.callWith_builtin (by show (false || (backTo cpos (starEach es X.env)).any (·.1)) = false; rw [hplain] <;> rfl) (Calls.evalArgs_plain ?_)
  exact thn hA fun us s2 ⟨vs, H2, I2, r2, q2⟩ => hm pins s2 σ H2 x vs v us Q I2 r1 r2 q2
/- xs.append(e), list.index on a module's tuple .. are MtR facts of 06m -/
end
end L2

namespace L2
open PySem PySem.Spec PyProof.Rows

def MtM (X : Cx) (id : String) (r : V → List V → Hp → VK → Prop) : Prop :=
  ∀ (pins : List (Addr × Obj)) (s : Shared) (σ : St) (H : Hp) (x : V) (xs : List V) (v : Value) (us : List Value) (Q : VK), Inv X pins σ H s → RelV x v → Vals xs us → r x xs H Q →
    wpAny (model X.prog X.w) X.A (call (.builtin id) (v :: us)) (EP X pins σ Q) X.xe s

/-! ### lists of values -/
theorem Vals.one : ∀ {x : V} {us : List Value}, Vals [x] us → ∃ u, us = [u] ∧ RelV x u
  | _, _, .cons r .nil => ⟨_, rfl, r⟩
theorem Vals.two : ∀ {x y : V} {us : List Value}, Vals [x, y] us → ∃ u v, us = [u, v] ∧ RelV x u ∧ RelV y v
  | _, _, _, .cons r (.cons q .nil) => ⟨_, _, rfl, r, q⟩
theorem Vals.zero : ∀ {us : List Value}, Vals [] us → us = []
  | _, .nil => rfl
theorem Vals.dropLast {xs : List V} {us : List Value} (h : Vals xs us) : Vals xs.dropLast us.dropLast := by
  induction h with
  | nil => exact .nil
  | cons r t ih =>
    cases t with
    | nil => exact .nil
    | cons q t' => exact .cons r ih
theorem Vals.eraseIdx : ∀ {xs : List V} {us : List Value} (i : Nat), Vals xs us → Vals (xs.eraseIdx i) (us.eraseIdx i)
  | _, _, _, .nil => .nil
  | _, _, 0, .cons _ t => t
  | _, _, i + 1, .cons r t => .cons r (Vals.eraseIdx i t)
theorem Vals.reverse {xs : List V} {us : List Value} (h : Vals xs us) : Vals xs.reverse us.reverse := by
  induction h with
  | nil => exact .nil
  | cons r t ih => rw [List.reverse_cons, List.reverse_cons]; exact Vals.append ih (.cons r .nil)
theorem Vals.rep {xs : List V} {us : List Value} (h : Vals xs us) : ∀ k : Nat, Vals (List.replicate k xs).flatten (List.replicate k us).flatten
  | 0 => .nil
  | k + 1 => by
    rw [List.replicate_succ, List.replicate_succ, List.flatten_cons, List.flatten_cons]
    exact Vals.append h (Vals.rep h k)
theorem erase_last {α : Type} (l : List α) : l.eraseIdx (l.length - 1) = l.dropLast := by
  induction l with
  | nil => rfl
  | cons a r ih =>
    cases r with
    | nil => rfl
    | cons b r =>
      have e : (a :: b :: r).length - 1 = ((b :: r).length - 1) + 1 := by
        have h1 : (a :: b :: r).length = r.length + 2 := rfl
        have h2 : (b :: r).length = r.length + 1 := rfl
        omega
      rw [e, List.eraseIdx_cons_succ, ih]
      all_goals rfl
theorem len_erase {α : Type} : ∀ (l : List α) (i : Nat), (l.eraseIdx i).length ≤ l.length
  | [], _ => Nat.le_refl _
  | _ :: _, 0 => Nat.le_succ _
  | _ :: r, i + 1 => Nat.succ_le_succ (len_erase r i)
theorem foldl_rep (its : List Value) : ∀ (k : Nat) (acc : List Value),
    List.foldl (fun x1 x2 => x1 ++ x2) acc.toArray (List.replicate k its.toArray) = (acc ++ (List.replicate k its).flatten).toArray
  | 0, acc => by simp
  | k + 1, acc => by
    have e : acc.toArray ++ its.toArray = (acc ++ its).toArray := by simp
    have e2 : (acc ++ its) ++ (List.replicate k its).flatten = acc ++ (List.replicate (k + 1) its).flatten := by
      rw [List.replicate_succ, List.flatten_cons, List.append_assoc]
    rw [← e2, ← foldl_rep its k (acc ++ its), ← e, List.replicate_succ, List.foldl_cons]

section
variable {X : Cx} {pins : List (Addr × Obj)} {σ : St} {H : Hp} {s : Shared} {l b : Addr} {xs ys zs : List V}

/-! ### the two steps: a tracked list is rewritten, a new list is laid -/
theorem Inv.lset {its its' : List Value} {n : Nat} {f : Array Value → Array Value} {t' : Nat} (I : Inv X pins σ H s) (hH : H l = some (.lst xs))
    (e : s.heap.get? l = some { cls := .type "list", data := .seq its.toArray n }) (hf : f its.toArray = its'.toArray) (hv : Vals ys its') (hz : ys.length ≤ sizeLine) :
    Inv X pins σ (upd H l (.lst ys)) { s with heap := s.heap.update l (Obj.mapSeq f), toks := t' } := by
  have q := PySem.IsL.update e f
  rw [hf] at q
  refine I.write (x := l) (e := l) (by rw [hH]; exact trivial) (.inl rfl) (fun b' u hb hu => (Heap.get?_update_other s.heap (Obj.mapSeq f) (Ne.symm hb)).trans hu) ⟨_, q⟩ ?_
  exact ⟨hz, its', _, hv, q⟩
theorem Inv.lnew {its : List Value} {t' : Nat} (I : Inv X pins σ H s) (hv : Vals ys its) (hz : ys.length ≤ sizeLine) :
    Inv X pins σ (upd H s.heap.objs.size (.lst ys)) { s with heap := s.heap.push { cls := .type "list", data := .seq its.toArray }, toks := t' } :=
  I.laid (fun _ _ q => Heap.get?_push_of_some _ q) (Nat.le_refl _) ⟨hz, its, 0, hv, Heap.get?_push_size _ rfl⟩
theorem Inv.fresh (I : Inv X pins σ H s) : H s.heap.objs.size = none := I.hok.fresh (Nat.le_refl _)
theorem Inv.lstM (I : Inv X pins σ H s) (hH : H l = some (.lst xs)) : xs.length ≤ sizeLine ∧ ∃ (its : List Value) (n : Nat), Vals xs its ∧ xs.length = its.length ∧ s.heap.get? l = some { cls := .type "list", data := .seq its.toArray n } := by
  obtain ⟨z, its, n, r, e⟩ := I.hok l _ hH
  exact ⟨z, its, n, r, r.length, e⟩

theorem notLongL {n : Nat} (h : n ≤ sizeLine) : Builtin.List.listTooLong n = false := by
  unfold Builtin.List.listTooLong
  exact decide_eq_false (by omega)
end

section
variable {X : Cx}

/-! ### methods -/
def rAppend : V → List V → Hp → VK → Prop := fun x vs H Q => ∃ l xs y, x = .ref l ∧ vs = [y] ∧ H l = some (.lst xs) ∧ xs.length < sizeLine ∧ Q .non (upd H l (.lst (xs ++ [y])))
theorem mt_append : MtM X "list.append" rAppend := by
  intro pins s σ H x vs v us Q I rx rv h
  obtain ⟨l, xs, y, rfl, rfl, hH, hz, q⟩ := h
  cases rx
  obtain ⟨u, rfl, ru⟩ := rv.one
  obtain ⟨z, its, n, r, hl, e⟩ := I.lstM hH
  refine call_meets F.slot_list_append ⟨_, e, rfl⟩ F.entry_list_append (F.args_list_append_2 _ _) (PySem.list_append l its.toArray n u (by rw [List.size_toArray]; omega)) ⟨e, ?_⟩
  refine ⟨.non, _, I.lset (its' := its ++ [u]) hH e (by simp) (r.append (.cons ru .nil)) ?_, rfl, q⟩
  rw [List.length_append, List.length_singleton]
  omega

def rExtend : V → List V → Hp → VK → Prop := fun x vs H Q => ∃ l b xs zs, x = .ref l ∧ vs = [.ref b] ∧ H l = some (.lst xs) ∧ H b = some (.lst zs) ∧ xs.length + zs.length ≤ sizeLine ∧ Q .non (upd H l (.lst (xs ++ zs)))
theorem mt_extend : MtM X "list.extend" rExtend := by
  intro pins s σ H x vs v us Q I rx rv h
  obtain ⟨l, b, xs, zs, rfl, rfl, hH, hB, hz, q⟩ := h
  cases rx
  obtain ⟨u, rfl, ru⟩ := rv.one
  cases ru
  obtain ⟨z, its, n, r, hl, e⟩ := I.lstM hH
  obtain ⟨z2, its2, n2, r2, hl2, e2⟩ := I.lstM hB
  have hsz : its.toArray.size + its2.toArray.size ≤ sizeLine := by rw [List.size_toArray, List.size_toArray]; omega
  have hlong : ¬ (!its.toArray.isEmpty && Builtin.List.listTooLong (its.toArray.size + its2.toArray.size)) = true := by
    rw [notLongL hsz, Bool.and_false]
    exact Bool.false_ne_true
  refine call_meets F.slot_list_extend ⟨_, e, rfl⟩ F.entry_list_extend (F.args_list_extend_2 _ _)
    (AutoSeq1.list_extend_list_list_0 l its.toArray n b its2.toArray n2 hlong (by rw [List.size_toArray]; omega) (by omega)) ⟨e, e2, ?_⟩
  refine ⟨.non, _, I.lset (its' := its ++ its2) hH e (by simp) (r.append r2) ?_, rfl, q⟩
  rw [List.length_append]
  omega

def rPop : V → List V → Hp → VK → Prop := fun x vs H Q => ∃ l xs y, x = .ref l ∧ vs = [] ∧ H l = some (.lst xs) ∧ xs[xs.length - 1]? = some y ∧ Q y (upd H l (.lst xs.dropLast))
theorem mt_pop : MtM X "list.pop" rPop := by
  intro pins s σ H x vs v us Q I rx rv h
  obtain ⟨l, xs, y, rfl, rfl, hH, hy, q⟩ := h
  cases rx
  have hus := rv.zero
  subst hus
  obtain ⟨z, its, n, r, hl, e⟩ := I.lstM hH
  obtain ⟨u, hu, ru⟩ := r.get hy
  have hy' : its.toArray[its.toArray.size - 1]? = some u := by
    show its.toArray[its.length - 1]? = some u
    rw [← Array.getElem?_toList, ← hl]
    exact hu
  refine call_meets F.slot_list_pop ⟨_, e, rfl⟩ F.entry_list_pop (F.args_list_pop_1 _) (MeetsSeq.list_pop_last l its.toArray n u hy' (by rw [List.size_toArray]; omega)) ⟨e, ?_⟩
  refine ⟨y, _, I.lset (its' := its.dropLast) hH e ?_ r.dropLast ?_, ru, q⟩
  · show its.toArray.eraseIdxIfInBounds (its.toArray.size - 1) = its.dropLast.toArray
    rw [List.size_toArray, List.eraseIdxIfInBounds_toArray, erase_last]
  · rw [List.length_dropLast]
    omega

def rPopAt : V → List V → Hp → VK → Prop := fun x vs H Q => ∃ l xs i k y, x = .ref l ∧ vs = [.int i] ∧ H l = some (.lst xs) ∧ -(2 ^ 63) ≤ i ∧ i < 2 ^ 63 ∧ seqIndex? i xs.length = some k ∧ xs[k]? = some y ∧ Q y (upd H l (.lst (xs.eraseIdx k)))
theorem mt_popAt : MtM X "list.pop" rPopAt := by
  intro pins s σ H x vs v us Q I rx rv h
  obtain ⟨l, xs, i, k, y, rfl, rfl, hH, h1, h2, hk, hy, q⟩ := h
  cases rx
  obtain ⟨u, rfl, ru⟩ := rv.one
  obtain ⟨t, rfl⟩ := ru
  obtain ⟨z, its, n, r, hl, e⟩ := I.lstM hH
  obtain ⟨w, hw, rw'⟩ := r.get hy
  refine call_meets F.slot_list_pop ⟨_, e, rfl⟩ F.entry_list_pop (F.args_list_pop_2 _ _)
    (MeetsSeq.list_pop_at l its.toArray n i t k w (fitsIndex_both h1 h2) (by rw [List.size_toArray, ← hl]; exact hk) (by rw [← Array.getElem?_toList]; exact hw) (by rw [List.size_toArray]; omega)) ⟨e, ?_⟩
  refine ⟨y, _, I.lset (its' := its.eraseIdx k) hH e ?_ (r.eraseIdx k) ?_, rw', q⟩
  · show its.toArray.eraseIdxIfInBounds k = (its.eraseIdx k).toArray
    rw [List.eraseIdxIfInBounds_toArray]
  · have := len_erase xs k
    omega

def rReverse : V → List V → Hp → VK → Prop := fun x vs H Q => ∃ l xs, x = .ref l ∧ vs = [] ∧ H l = some (.lst xs) ∧ Q .non (upd H l (.lst xs.reverse))
theorem mt_reverse : MtM X "list.reverse" rReverse := by
  intro pins s σ H x vs v us Q I rx rv h
  obtain ⟨l, xs, rfl, rfl, hH, q⟩ := h
  cases rx
  have hus := rv.zero
  subst hus
  obtain ⟨z, its, n, r, hl, e⟩ := I.lstM hH
  refine call_meets F.slot_list_reverse ⟨_, e, rfl⟩ F.entry_list_reverse (F.args_list_reverse_1 _) (AutoSeq1.list_reverse_list_0 l its.toArray n (by rw [List.size_toArray]; omega)) ⟨e, ?_⟩
  refine ⟨.non, _, I.lset (its' := its.reverse) hH e (by simp) r.reverse ?_, rfl, q⟩
  rw [List.length_reverse]
  omega

def rClear : V → List V → Hp → VK → Prop := fun x vs H Q => ∃ l xs, x = .ref l ∧ vs = [] ∧ H l = some (.lst xs) ∧ Q .non (upd H l (.lst []))
theorem mt_clear : MtM X "list.clear" rClear := by
  intro pins s σ H x vs v us Q I rx rv h
  obtain ⟨l, xs, rfl, rfl, hH, q⟩ := h
  cases rx
  have hus := rv.zero
  subst hus
  obtain ⟨z, its, n, r, hl, e⟩ := I.lstM hH
  refine call_meets F.slot_list_clear ⟨_, e, rfl⟩ F.entry_list_clear (F.args_list_clear_1 _) (AutoSeq1.list_clear_list_0 l its.toArray n (by rw [List.size_toArray]; omega)) ⟨e, ?_⟩
  exact ⟨.non, _, I.lset (its' := []) (ys := []) hH e rfl .nil (Nat.zero_le _), rfl, q⟩

/-! ### list + list, list += list, list * int -/
def rCat : R2 := fun x y H Q => ∃ l b xs zs, x = .ref l ∧ y = .ref b ∧ H l = some (.lst xs) ∧ H b = some (.lst zs) ∧ xs.length + zs.length ≤ sizeLine ∧ ∀ p, H p = none → Q (.ref p) (upd H p (.lst (xs ++ zs)))
theorem op_cat : OpR X (binaryOp .Add) rCat := by
  intro pins s σ H x y v u Q I rx ry h
  obtain ⟨l, b, xs, zs, rfl, rfl, hH, hB, hz, q⟩ := h
  cases rx
  cases ry
  obtain ⟨z, its, n, r, hl, e⟩ := I.lstM hH
  obtain ⟨z2, its2, n2, r2, hl2, e2⟩ := I.lstM hB
  refine PySem.P.add_list e e2 ?_ (by rw [List.size_toArray, List.size_toArray]; omega)
  have ea : its.toArray ++ its2.toArray = (its ++ its2).toArray := by simp
  rw [ea]
  exact ⟨.ref _, _, I.lnew (t' := s.toks) (r.append r2) (by rw [List.length_append]; omega), rfl, q _ I.fresh⟩
/-- a list times an int (a negative one is nothing) -/
def rRep : R2 := fun x y H Q => ∃ l k xs, x = .ref l ∧ y = .int k ∧ H l = some (.lst xs) ∧ -(2 ^ 63) ≤ k ∧ k < 2 ^ 63 ∧ xs.length * k.toNat ≤ sizeLine ∧
  ∀ p, H p = none → Q (.ref p) (upd H p (.lst (List.replicate k.toNat xs).flatten))
theorem len_rep {α : Type} (xs : List α) (k : Nat) : (List.replicate k xs).flatten.length = k * xs.length := by
  induction k with
  | zero => simp
  | succ k ih => rw [List.replicate_succ, List.flatten_cons, List.length_append, ih, Nat.succ_mul, Nat.add_comm]
theorem op_rep : OpR X (binaryOp .Mult) rRep := by
  intro pins s σ H x y v u Q I rx ry h
  obtain ⟨l, k, xs, rfl, rfl, hH, h1, h2, hz, q⟩ := h
  cases rx
  obtain ⟨t, rfl⟩ := ry
  obtain ⟨z, its, n, r, hl, e⟩ := I.lstM hH
  have hlen : its.toArray.size * k.toNat ≤ sizeLine := by rw [List.size_toArray, ← hl]; exact hz
  have hcap : ¬ its.toArray.size * k.toNat > (2 ^ 63 - 1) / 8 := by
    have : (sizeLine : Nat) ≤ (2 ^ 63 - 1) / 8 := by decide
    omega
  have hfit : ¬ (!Builtin.List.listFitsIndex k) = true := by
    rw [fitsIndex_both h1 h2]
    exact Bool.false_ne_true
  have hlong : ¬ Builtin.List.listTooLong (its.toArray.size * k.toNat) = true := by
    rw [notLongL hlen]
    exact Bool.false_ne_true
  have hnew : List.foldl (fun x1 x2 => x1 ++ x2) #[] (List.replicate (if its.toArray.isEmpty = true then 0 else k.toNat) its.toArray) = (List.replicate k.toNat its).flatten.toArray := by
    have f0 : ∀ m : Nat, List.foldl (fun x1 x2 => x1 ++ x2) #[] (List.replicate m its.toArray) = (List.replicate m its).flatten.toArray := fun m => by
      have := foldl_rep its m []
      rw [List.nil_append] at this
      exact this
    rw [f0]
    cases its with
    | nil => simp
    | cons a r' => rw [if_neg (by simp)]
  refine wpAny_binaryOp_repeat_ref (T := "list") (U := "int") (by decide) ⟨_, e, rfl⟩ (fun s' => typeIs_int s' k t) noFill_list_mul F.fills_int_mul F.slot_int_rmul repeat_list F.slot_int_index.lookup
    (call_meets F.slot_int_rmul (typeIs_int s k t) F.entry_int_rmul (F.args_int_rmul_2 _ _) (int___rmul___int_list k t l its.toArray n)
      ⟨e, rfl, ⟨_, e, rfl⟩, call_meets F.slot_list_mul ⟨_, e, rfl⟩ F.entry_list_mul (F.args_list_mul_2 _ _) (AutoListH.list___mul___list_int_3 l its.toArray n k t hfit hcap hlong) ⟨e, ?_⟩⟩)
  rw [hnew]
  exact ⟨.ref _, _, I.lnew (t' := s.toks) (r.rep k.toNat) (by rw [len_rep, Nat.mul_comm]; exact hz), rfl, q _ I.fresh⟩

/-! ### del xs[i] -/
theorem del_list {pins : List (Addr × Obj)} {s : Shared} {σ : St} {H : Hp} {l : Addr} {xs : List V} {i : Int} {t : Tok} {k : Nat} {Q : Unit → Shared → Prop} (I : Inv X pins σ H s) (hH : H l = some (.lst xs))
    (h1 : -(2 ^ 63) ≤ i) (h2 : i < 2 ^ 63) (hk : seqIndex? i xs.length = some k) (h : ∀ s', Inv X pins σ (upd H l (.lst (xs.eraseIdx k))) s' → Q () s') :
    wpAny (model X.prog X.w) X.A (delItem (.ref l) (.int i t)) Q X.xe s := by
  obtain ⟨z, its, n, r, hl, e⟩ := I.lstM hH
  refine PySem.P.delItem_list (k := k) e (fitsIndex_both h1 h2) (by rw [List.size_toArray, ← hl]; exact hk) (h _ ?_) (by rw [List.size_toArray]; omega)
  refine I.lset (its' := its.eraseIdx k) (t' := s.toks) hH e ?_ (r.eraseIdx k) ?_
  · show its.toArray.eraseIdxIfInBounds k = (its.eraseIdx k).toArray
    rw [List.eraseIdxIfInBounds_toArray]
  · have := len_erase xs k
    omega
end

/-! ### xs[a:b] = ys -/
section
variable {prog : Program} {w : World} {A : Around} {E : Value → Shared → Prop} {s : Shared}
theorem splice_eq (its its2 : List Value) (a c : Nat) : its.toArray.extract 0 a ++ its2.toArray ++ its.toArray.extract c its.toArray.size = (its.take a ++ its2 ++ its.drop c).toArray := by
  apply Array.toList_inj.mp
  first
    | (simp
       exact List.take_of_length_le (by simp))
    | simp [List.take_of_length_le]
    | simp
theorem bounds_run {a c n : Nat} (hac : a ≤ c) (hc : c ≤ n) : sliceBounds (some (a : Int)) (some (c : Int)) none n = ((a : Int), (c : Int), 1) := by
  simp only [sliceBounds, Option.getD_none]
  have h1 : ¬ ((a : Int) < 0) := by omega
  have h2 : ¬ ((c : Int) < 0) := by omega
  simp only [h1, h2, if_false, show (1 : Int) > 0 by decide, if_true]
  congr 1
  · omega
  · congr 1; omega
set_option maxRecDepth 100000 in
/-- list.__setitem__ with a slice of step one and another list -/
theorem setItem_slice {l b sl : Addr} {items new : Array Value} {n n2 : Nat} {vl vu : Value} {a c : Nat} {Q : Unit → Shared → Prop}
    (e : s.heap.get? l = some { cls := .type "list", data := .seq items n }) (e2 : s.heap.get? b = some { cls := .type "list", data := .seq new n2 }) (hne : l ≠ b)
    (hs : s.heap.IsSliceOf sl vl vu .none) (pl : IsPart vl (some (a : Int))) (pu : IsPart vu (some (c : Int))) (hac : a ≤ c) (hc : c ≤ items.size)
    (hsz : items.size + new.size ≤ sizeLine) (h : Q () { s with heap := s.heap.update l (Obj.mapSeq fun xs => xs.extract 0 a ++ new ++ xs.extract c xs.size) }) :
    wpAny (model prog w) A (setItem (.ref l) (.ref sl) (.ref b)) Q E s := by
  have hl : s.heap.IsList l items := PySem.IsL.isList e
  have hb : s.heap.IsList b new := PySem.IsL.isList e2
  obtain ⟨os, hos, hcs, hds⟩ := id hs
  have hTs : s.TypeIs (.ref sl) "slice" := ⟨os, hos, hcs⟩
  have hstep : ¬ ((rawPart none == rawInt 0) = true) := Bool.false_ne_true
  have hsame : Builtin.List.listSameRef (.ref l) (.ref b) = false := by
    unfold Builtin.List.listSameRef
    exact beq_eq_false_iff_ne.mpr hne
  have hmax : (max (a : Int) (c : Int)).toNat = c := by omega
  have hz' : ((fun xs : Array Value => xs.extract 0 a ++ new ++ xs.extract c xs.size) items).size ≤ sizeLine + 1 := by
    simp only [Array.size_append, Array.size_extract]
    omega
  unfold setItem
  try with_reducible refine wpAny_holding ?_
  first | refine wpAny_bind (wpAny_pure ?_) | skip
  refine wpAny_bind (wpAny_sequenceKey hl.typeIs (by decide) ?_)
  refine wpAny_bind (wpAny_callSpecial?_slot (name := Str.ofString "__setitem__") hl.typeIs slot_list_setitem
    (wpAny_call_entry slot_list_setitem hl.typeIs entry_list_setitem ?_ (args_list_setitem _ _ _)))
  show wpAny _ _ (Builtin.List.listSubscript? (.ref sl) >>= _) _ _ s
  refine wpAny_bind ?_
  unfold Builtin.List.listSubscript?
  refine wpAny_bind (wpAny_specialOf hTs slice_no_index ?_)
  simp only [Option.isNone_none, if_true]
  refine wpAny_pure ?_
  show wpAny _ _ (typeOf (.ref sl) >>= _) _ _ s
  refine wpAny_bind (wpAny_typeOf hTs ?_)
  first
    | rw [if_neg (by decide)]
    | refine PySem.W.KFB.if_not (by decide) ?_
  rw [listSliceParts_eq]
  refine wpAny_bind (wpAny_bind (wpAny_field hos hds (x := .none) rfl (wpAny_bind (wpAny_listPart .none ?_))))
  rw [if_neg hstep]
  refine wpAny_bind (wpAny_field hos hds (x := vl) rfl (wpAny_bind (wpAny_listPart pl ?_)))
  refine wpAny_bind (wpAny_field hos hds (x := vu) rfl (wpAny_bind (wpAny_listPart pu (wpAny_pure ?_))))
  first
    | simp only [hsame, Bool.false_eq_true, if_false]
    | refine PySem.W.KFB.if_not hsame ?_
    | (dsimp only
       rw [if_neg (by rw [hsame]; exact Bool.false_ne_true)])
  refine wpAny_bind (m := Builtin.List.listAllItems (.ref b) "must assign iterable to extended slice") ?_
  unfold Builtin.List.listAllItems
  refine wpAny_bind (wpAny_typeOf hb.typeIs ?_)
  first
    | refine PySem.W.KFB.if_so (by decide) ?_
    | rw [if_pos (by decide)]
    | simp only [beq_self_eq_true, Bool.true_or, if_true]
  unfold Builtin.List.listItems
  refine wpAny_bind (wpAny_seqItems e2 rfl (wpAny_pure ?_))
  refine wpAny_bind (wpAny_bind (wpAny_seqItems e rfl (wpAny_pure ?_)))
  refine wpAny_bind (wpAny_of_eq ((sliceIndices_raw (some (a : Int)) (some (c : Int)) none items.size (by simp)).trans (congrArg (pure : Int × Int × Int → Sem (Int × Int × Int)) (bounds_run hac hc))) ?_)
  show wpAny _ _ (if ((1 : Int) == 1) = true then _ else _) _ _ s
  rw [if_pos (by decide)]
  refine wpAny_bind (wpAny_rule ?_)
  first
    | simp only [notLongL hsz, Bool.false_eq_true, if_false]
    | refine PySem.W.KFB.if_not (notLongL hsz) ?_
  first | refine wpAny_bind (wpAny_pure ?_) | skip
  show wpAny _ _ (updateSeq l (fun xs => xs.extract 0 ((a : Int)).toNat ++ new ++ xs.extract (max (a : Int) (c : Int)).toNat xs.size) >>= _) _ _ s
  rw [hmax, Int.toNat_natCast]
  refine wpAny_bind (wpAny_updateSeq (hz := Nat.le_trans (Nat.le_add_right _ _) hsz) (_hz' := hz') e rfl ?_)
  refine wpAny_bind (wpAny_letGo ?_)
  first
    | exact wpAny_bind (wpAny_pure (wpAny_pure ⟨.none, rfl, wpAny_pure h⟩))
    | exact wpAny_pure ⟨.none, rfl, wpAny_pure h⟩
end

section
variable {X : Cx}
/-- xs[a:c] = ys of another list, at the value level: sl is the slice object that was just made -/
theorem set_slice {pins : List (Addr × Obj)} {s : Shared} {σ : St} {H : Hp} {l b sl : Addr} {xs ys : List V} {a c : Int} {vl vu : Value} {Q : Unit → Shared → Prop} (I : Inv X pins σ H s)
    (hH : H l = some (.lst xs)) (hB : H b = some (.lst ys)) (hne : l ≠ b) (hs : s.heap.IsSliceOf sl vl vu .none) (ra : RelV (.int a) vl) (rc : RelV (.int c) vu) (h0 : 0 ≤ a) (hac : a ≤ c) (hc : c ≤ xs.length)
    (hz : xs.length + ys.length ≤ sizeLine) (h : ∀ s', Inv X pins σ (upd H l (.lst (xs.take a.toNat ++ ys ++ xs.drop c.toNat))) s' → Q () s') :
    wpAny (model X.prog X.w) X.A (setItem (.ref l) (.ref sl) (.ref b)) Q X.xe s := by
  obtain ⟨ta, rfl⟩ := ra
  obtain ⟨tc, rfl⟩ := rc
  obtain ⟨z, its, n, r, hl, e⟩ := I.lstM hH
  obtain ⟨z2, its2, n2, r2, hl2, e2⟩ := I.lstM hB
  obtain ⟨a', rfl⟩ := Int.eq_ofNat_of_zero_le h0
  obtain ⟨c', rfl⟩ := Int.eq_ofNat_of_zero_le (Int.le_trans h0 hac)
  simp only [Int.toNat_natCast] at h
  refine setItem_slice (a := a') (c := c') e e2 hne hs (.int _ _) (.int _ _) (by omega) (by rw [List.size_toArray]; omega) (by rw [List.size_toArray, List.size_toArray]; omega) (h _ ?_)
  refine I.lset (its' := its.take a' ++ its2 ++ its.drop c') (t' := s.toks) hH e ?_ (Vals.append (Vals.append (r.take _) r2) (r.drop _)) ?_
  · exact splice_eq its its2 a' c'
  · rw [List.length_append, List.length_append, List.length_take, List.length_drop]
    omega
end
end L2

namespace L2
open PySem PySem.Spec PyProof.Rows

/-! ### lists of pairs as tables -/
section
variable {κ : Type} [DecidableEq κ]
def valV (kvs : List (κ × V)) (k : κ) : Option V := (kvs.find? fun kv => decide (kv.1 = k)).map (·.2)
/-- in its place, or at the end -/
def putK (kvs : List (κ × V)) (k : κ) (v : V) : List (κ × V) :=
  if (kvs.any fun kv => decide (kv.1 = k)) = true then kvs.map (fun kv => if kv.1 = k then (kv.1, v) else kv) else kvs ++ [(k, v)]
def dropK (kvs : List (κ × V)) (k : κ) : List (κ × V) := kvs.filter fun kv => decide (kv.1 ≠ k)

theorem valV_nil {k : κ} : valV ([] : List (κ × V)) k = none := rfl
theorem valV_pos {p : κ × V} {r : List (κ × V)} {k : κ} (e : p.1 = k) : valV (p :: r) k = some p.2 := by simp [valV, List.find?_cons, e]
theorem valV_neg {p : κ × V} {r : List (κ × V)} {k : κ} (e : ¬ p.1 = k) : valV (p :: r) k = valV r k := by simp [valV, List.find?_cons, e]
theorem valV_any (k : κ) : ∀ kvs : List (κ × V), (kvs.any fun kv => decide (kv.1 = k)) = (valV kvs k).isSome
  | [] => rfl
  | p :: r => by
    rw [List.any_cons]
    by_cases e : p.1 = k
    · simp only [valV_pos e, decide_eq_true e, Bool.true_or, Option.isSome_some]
    · rw [valV_neg e, decide_eq_false e, Bool.false_or]; exact valV_any k r
theorem valV_map (k j : κ) (y : V) : ∀ kvs : List (κ × V), valV (kvs.map fun kv => if kv.1 = k then (kv.1, y) else kv) j = (valV kvs j).map fun x => if j = k then y else x
  | [] => rfl
  | p :: r => by
    have ih := valV_map k j y r
    rw [List.map_cons]
    by_cases h : p.1 = k
    · rw [if_pos h]
      by_cases e : p.1 = j
      · rw [valV_pos (p := (p.1, y)) e, valV_pos e, Option.map_some, if_pos (e.symm.trans h)]
      · rw [valV_neg (p := (p.1, y)) e, valV_neg e, ih]
    · rw [if_neg h]
      by_cases e : p.1 = j
      · rw [valV_pos (p := p) e, valV_pos e, Option.map_some, if_neg (fun z => h (e.trans z))]
      · rw [valV_neg (p := p) e, valV_neg e, ih]
theorem valV_snoc (k j : κ) (y : V) : ∀ kvs : List (κ × V), valV kvs k = none → valV (kvs ++ [(k, y)]) j = if j = k then some y else valV kvs j
  | [], _ => by
    by_cases e : k = j
    · rw [if_pos e.symm]; exact valV_pos (p := (k, y)) e
    · rw [if_neg (fun z => e z.symm)]; exact valV_neg (p := (k, y)) e
  | p :: r, hn => by
    rw [List.cons_append]
    have hk : ¬ p.1 = k := fun z => by rw [valV_pos z] at hn; cases hn
    rw [valV_neg hk] at hn
    have ih := valV_snoc k j y r hn
    by_cases e : p.1 = j
    · rw [valV_pos e, valV_pos e, if_neg (fun z => hk (e.trans z))]
    · rw [valV_neg e, valV_neg e, ih]
theorem valV_put (kvs : List (κ × V)) (k j : κ) (y : V) : valV (putK kvs k y) j = if j = k then some y else valV kvs j := by
  unfold putK
  by_cases a : (kvs.any fun kv => decide (kv.1 = k)) = true
  · rw [if_pos a, valV_map]
    rw [valV_any] at a
    by_cases e : j = k
    · obtain ⟨x, hx⟩ := Option.isSome_iff_exists.mp a
      rw [if_pos e, e, hx, Option.map_some, if_pos rfl]
    · rw [if_neg e]
      cases valV kvs j with
      | none => rfl
      | some x => rw [Option.map_some, if_neg e]
  · rw [if_neg a]
    refine valV_snoc k j y kvs ?_
    rw [valV_any] at a
    cases q : valV kvs k with
    | none => rfl
    | some x => rw [q] at a; exact (a rfl).elim
theorem length_putK (kvs : List (κ × V)) (k : κ) (v : V) : (putK kvs k v).length ≤ kvs.length + 1 := by
  unfold putK
  split
  · rw [List.length_map]; omega
  · rw [List.length_append, List.length_cons, List.length_nil]; omega
theorem putK_new {kvs : List (κ × V)} {k : κ} (v : V) (h : valV kvs k = none) : putK kvs k v = kvs ++ [(k, v)] := by
  unfold putK
  rw [valV_any, h]
  exact if_neg (by decide)

theorem RelO.isSome_eq {o : Option V} {u : Option Value} (r : RelO o u) : o.isSome = u.isSome := by
  cases o with
  | none => cases u with
    | none => rfl
    | some _ => exact (show False from r).elim
  | some _ => cases u with
    | none => exact (show False from r).elim
    | some _ => rfl
theorem RelO.getD {o : Option V} {u : Option Value} {d : V} {d' : Value} (r : RelO o u) (rd : RelV d d') : RelV (o.getD d) (u.getD d') := by
  cases o with
  | none => cases u with
    | none => exact rd
    | some _ => exact (show False from r).elim
  | some _ => cases u with
    | none => exact (show False from r).elim
    | some _ => exact r

/-- raw tables of the same keys -/
theorem KV.val {kvs : List (κ × V)} {vs : List (κ × Value)} (r : KV kvs vs) (k : κ) : RelO (valV kvs k) (valueAt vs k) := by
  unfold KV at r
  induction r with
  | nil => exact True.intro
  | @cons p q ps qs h t ih =>
    obtain ⟨h1, h2⟩ := h
    by_cases e : p.1 = k
    · have e' : q.1 = k := h1.symm.trans e
      have b : valueAt (q :: qs) k = some q.2 := by simp [valueAt, List.find?_cons, e']
      rw [valV_pos e, b]; exact h2
    · have e' : ¬ q.1 = k := fun z => e (h1.trans z)
      have b : valueAt (q :: qs) k = valueAt qs k := by simp [valueAt, List.find?_cons, e']
      rw [valV_neg e, b]; exact ih
theorem KV.any {kvs : List (κ × V)} {vs : List (κ × Value)} (r : KV kvs vs) (k : κ) : (kvs.any fun kv => decide (kv.1 = k)) = vs.any fun kv => decide (kv.1 = k) := by
  unfold KV at r
  induction r with
  | nil => rfl
  | cons h t ih => rw [List.any_cons, List.any_cons, ih, h.1]
theorem KV.repl {kvs : List (κ × V)} {vs : List (κ × Value)} (r : KV kvs vs) (k : κ) {y : V} {u : Value} (ry : RelV y u) :
    KV (kvs.map fun kv => if kv.1 = k then (kv.1, y) else kv) (vs.map fun kv => if kv.1 = k then (kv.1, u) else kv) := by
  unfold KV at r ⊢
  induction r with
  | nil => exact .nil
  | @cons p q ps qs h t ih =>
    rw [List.map_cons, List.map_cons]
    refine .cons ?_ ih
    obtain ⟨h1, h2⟩ := h
    by_cases e : p.1 = k
    · rw [if_pos e, if_pos (h1.symm.trans e)]; exact ⟨h1, ry⟩
    · rw [if_neg e, if_neg (fun z => e (h1.trans z))]; exact ⟨h1, h2⟩
theorem KV.put {kvs : List (κ × V)} {vs : List (κ × Value)} (r : KV kvs vs) (k : κ) {y : V} {u : Value} (ry : RelV y u) : KV (putK kvs k y) (stored vs k u) := by
  unfold putK stored
  rw [r.any k]
  by_cases e : (vs.any fun kv => decide (kv.1 = k)) = true
  · rw [if_pos e, if_pos e]; exact r.repl k ry
  · rw [if_neg e, if_neg e]; exact Paired.snoc r ⟨rfl, ry⟩
theorem KV.drop {kvs : List (κ × V)} {vs : List (κ × Value)} (r : KV kvs vs) (k : κ) : KV (dropK kvs k) (without vs k) := by
  unfold KV at r ⊢
  unfold dropK without
  induction r with
  | nil => exact .nil
  | @cons p q ps qs h t ih =>
    obtain ⟨h1, h2⟩ := h
    rw [List.filter_cons, List.filter_cons]
    by_cases e : p.1 = k
    · have a : ¬ decide (p.1 ≠ k) = true := by simp [e]
      have b : ¬ decide (q.1 ≠ k) = true := by simp [h1.symm.trans e]
      rw [if_neg a, if_neg b]; exact ih
    · have e' : ¬ q.1 = k := fun z => e (h1.trans z)
      have a : decide (p.1 ≠ k) = true := by simp [e]
      have b : decide (q.1 ≠ k) = true := by simp [e']
      rw [if_pos a, if_pos b]; exact .cons ⟨h1, h2⟩ ih
theorem KV.keys {kvs : List (κ × V)} {vs : List (κ × Value)} (r : KV kvs vs) : kvs.map (·.1) = vs.map (·.1) := by
  unfold KV at r
  induction r with
  | nil => rfl
  | cons h t ih => rw [List.map_cons, List.map_cons, ih, h.1]
theorem KV.length {kvs : List (κ × V)} {vs : List (κ × Value)} (r : KV kvs vs) : kvs.length = vs.length := Paired.length r
theorem dropK_le (kvs : List (κ × V)) (k : κ) : (dropK kvs k).length ≤ kvs.length := List.length_filter_le _ _
end


/-! ### a tracked dict, its keys ints and texts or tuples of these -/
theorem kV_is {P : Program} {w : World} {k : Key} {u : Value} (r : RelV (kV k) u) : (mixKind P w).is k u = true := by
  cases k with
  | inl i => obtain ⟨t, e⟩ := (show ∃ t, u = Value.int i t from r); subst e; exact mixKind_int P w i t
  | inr x => obtain ⟨t, e⟩ := (show ∃ t, u = Value.str x t from r); subst e; exact mixKind_str P w x t
theorem kV_inj {a b : Key} (e : kV a = kV b) : a = b := by
  cases a with
  | inl i => cases b with
    | inl j => have e' : V.int i = V.int j := e; injection e' with e'; rw [e']
    | inr y => exact nomatch (show V.int i = V.str y from e)
  | inr x => cases b with
    | inl j => exact nomatch (show V.str x = V.int j from e)
    | inr y => have e' : V.str x = V.str y := e; injection e' with e'; rw [e']
theorem kVs_inj : ∀ {a b : List Key}, a.map kV = b.map kV → a = b
  | [], [], _ => rfl
  | [], _ :: _, e => by simp at e
  | _ :: _, [], e => by simp at e
  | x :: xs, y :: ys, e => by
    rw [List.map_cons, List.map_cons] at e
    injection e with e1 e2
    rw [kV_inj e1, kVs_inj e2]
theorem items_are {P : Program} {w : World} : ∀ {ks : List Key} {us : List Value}, Vals (ks.map kV) us → ItemsAre (mixKind P w) ks us
  | [], _, r => by rw [List.map_nil] at r; cases r; exact .nil
  | k :: ks, _, r => by
    rw [List.map_cons] at r
    cases r with
    | cons h t => exact .cons (kV_is h) (items_are t)

/-- raw entries of a dict with tuple keys -/
abbrev KT (H : Hp) : List (List Key × V) → List (List Key × Addr × Value) → Prop := Paired fun p q => p.1 = q.1 ∧ H q.2.1 = some (.tup (p.1.map kV)) ∧ RelV p.2 q.2.2
theorem KT.val {H : Hp} {kvs : List (List Key × V)} {xs : List (List Key × Addr × Value)} (r : KT H kvs xs) (k : List Key) : RelO (valV kvs k) ((atKey xs k).map (·.2)) := by
  induction r with
  | nil => exact True.intro
  | @cons p q ps qs h t ih =>
    obtain ⟨h1, _, h2⟩ := h
    by_cases e : p.1 = k
    · have e' : q.1 = k := h1.symm.trans e
      have b : atKey (q :: qs) k = some q.2 := by simp [atKey, List.find?_cons, e']
      rw [valV_pos e, b]; exact h2
    · have e' : ¬ q.1 = k := fun z => e (h1.trans z)
      have b : atKey (q :: qs) k = atKey qs k := by simp [atKey, List.find?_cons, e']
      rw [valV_neg e, b]; exact ih
theorem KT.repl {H : Hp} {kvs : List (List Key × V)} {xs : List (List Key × Addr × Value)} (r : KT H kvs xs) (k : List Key) {y : V} {u : Value} (ry : RelV y u) :
    KT H (kvs.map fun kv => if kv.1 = k then (kv.1, y) else kv) (xs.map (putAt k u)) := by
  induction r with
  | nil => exact .nil
  | @cons p q ps qs h t ih =>
    rw [List.map_cons, List.map_cons]
    refine .cons ?_ ih
    obtain ⟨h1, h2, h3⟩ := h
    unfold putAt
    by_cases e : p.1 = k
    · rw [if_pos e, if_pos (h1.symm.trans e)]; exact ⟨h1, h2, ry⟩
    · rw [if_neg e, if_neg (fun z => e (h1.trans z))]; exact ⟨h1, h2, h3⟩
theorem KT.put {H : Hp} {kvs : List (List Key × V)} {xs : List (List Key × Addr × Value)} (r : KT H kvs xs) (k : List Key) {b : Addr} {y : V} {u : Value} (hb : H b = some (.tup (k.map kV))) (ry : RelV y u) :
    KT H (putK kvs k y) (storedH xs k b u) := by
  have e : (kvs.any fun kv => decide (kv.1 = k)) = (atKey xs k).isSome := by
    rw [valV_any, (r.val k).isSome_eq, Option.isSome_map]
  unfold putK storedH
  rw [e]
  by_cases q : (atKey xs k).isSome = true
  · rw [if_pos q, if_pos q]; exact r.repl k ry
  · rw [if_neg q, if_neg q]; exact Paired.snoc r ⟨rfl, hb, ry⟩
theorem KT.keeps {H H' : Hp} {kvs : List (List Key × V)} {xs : List (List Key × Addr × Value)} (r : KT H kvs xs) (ht : ∀ b ys, H b = some (.tup ys) → H' b = some (.tup ys)) : KT H' kvs xs :=
  Paired.mapP r fun _ _ z => ⟨z.1, ht _ _ z.2.1, z.2.2⟩

section
variable {P : Program} {w : World} {H : Hp} {h : Heap} {a : Addr}
theorem rd_of {u : HO} (ok : HOk P w H h) (e : Rd H a u) : ObjOk P w H h a u := e.ok ok
theorem dk_rd {kvs : List (Key × V)} (ok : HOk P w H h) (e : Rd H a (.dK kvs)) : kvs.length ≤ sizeLine ∧ (a == sysModules) = false ∧ ∃ vs, KV kvs vs ∧ h.DictOf (mixKind P w) a vs :=
  show ObjOk P w H h a (.dK kvs) from rd_of ok e
theorem dk_of {kvs : List (Key × V)} (ok : HOk P w H h) (e : H a = some (.dK kvs)) : kvs.length ≤ sizeLine ∧ (a == sysModules) = false ∧ ∃ vs, KV kvs vs ∧ h.DictOf (mixKind P w) a vs := dk_rd ok (.inl e)
/-- a tracked tuple of ints and texts is a key -/
theorem key_of {ks : List Key} (ok : HOk P w H h) (e : H a = some (.tup (ks.map kV))) : (tupleKind (mixKind P w)).is h ks a := by
  obtain ⟨_, its, r, o, h1, h2, n, h3⟩ := (show ObjOk P w H h a (.tup (ks.map kV)) from ok a _ e)
  exact ⟨o, its.toArray, n, h1, h2, h3, by simpa using items_are r⟩
theorem dt_rd {kvs : List (List Key × V)} (ok : HOk P w H h) (e : Rd H a (.dT kvs)) : kvs.length ≤ sizeLine ∧ (a == sysModules) = false ∧
    ∃ xs, KT H kvs xs ∧ h.DictOfH (tupleKind (mixKind P w)) a xs := by
  obtain ⟨z, y, xs, r, o, es, ep, h1, h2, h3, h4, h5⟩ := (show ObjOk P w H h a (.dT kvs) from rd_of ok e)
  refine ⟨z, y, xs, r, o, es, ep, h1, h2, h3, h4, fun x hx => ?_, h5⟩
  have all : ∀ {l : List (List Key × V)} {m : List (List Key × Addr × Value)}, KT H l m → ∀ x ∈ m, (tupleKind (mixKind P w)).is h x.1 x.2.1 := by
    intro l m q
    induction q with
    | nil => intro x hx; exact nomatch hx
    | @cons p q ps qs hq t ih =>
      intro x hx
      rcases List.mem_cons.mp hx with e | hx
      · subst e
        exact key_of ok (by rw [← hq.1]; exact hq.2.1)
      · exact ih x hx
  exact all r x hx
theorem dt_of {kvs : List (List Key × V)} (ok : HOk P w H h) (e : H a = some (.dT kvs)) : kvs.length ≤ sizeLine ∧ (a == sysModules) = false ∧
    ∃ xs, KT H kvs xs ∧ h.DictOfH (tupleKind (mixKind P w)) a xs := dt_rd ok (.inl e)
end

/-- what the dict at a holds at the key y -/
def DGet (H : Hp) (a : Addr) (y : V) (r : Option V) : Prop :=
  (∃ kvs k, Rd H a (.dK kvs) ∧ y = kV k ∧ r = valV kvs k) ∨ ∃ kvs k b, Rd H a (.dT kvs) ∧ y = .ref b ∧ H b = some (.tup (k.map kV)) ∧ r = valV kvs k
/-- the heap behind a[y] = v -/
def DPut (H : Hp) (a : Addr) (y v : V) (H' : Hp) : Prop :=
  (∃ kvs k, H a = some (.dK kvs) ∧ y = kV k ∧ kvs.length < sizeLine ∧ H' = upd H a (.dK (putK kvs k v))) ∨
  ∃ kvs k b, H a = some (.dT kvs) ∧ y = .ref b ∧ H b = some (.tup (k.map kV)) ∧ kvs.length < sizeLine ∧ H' = upd H a (.dT (putK kvs k v))
theorem DGet.k {H : Hp} {a : Addr} {kvs : List (Key × V)} {k : Key} (e : H a = some (.dK kvs)) : DGet H a (kV k) (valV kvs k) := .inl ⟨kvs, k, .inl e, rfl, rfl⟩
theorem DGet.t {H : Hp} {a b : Addr} {kvs : List (List Key × V)} {k : List Key} (e : H a = some (.dT kvs)) (eb : H b = some (.tup (k.map kV))) : DGet H a (.ref b) (valV kvs k) := .inr ⟨kvs, k, b, .inl e, rfl, eb, rfl⟩
theorem DPut.k {H : Hp} {a : Addr} {kvs : List (Key × V)} {k : Key} {v : V} (e : H a = some (.dK kvs)) (hl : kvs.length < sizeLine) : DPut H a (kV k) v (upd H a (.dK (putK kvs k v))) := .inl ⟨kvs, k, e, rfl, hl, rfl⟩
theorem DPut.t {H : Hp} {a b : Addr} {kvs : List (List Key × V)} {k : List Key} {v : V} (e : H a = some (.dT kvs)) (eb : H b = some (.tup (k.map kV))) (hl : kvs.length < sizeLine) :
    DPut H a (.ref b) v (upd H a (.dT (putK kvs k v))) := .inr ⟨kvs, k, b, e, rfl, eb, hl, rfl⟩


section
variable {X : Cx} {pins : List (Addr × Obj)} {σ : St} {H : Hp} {s : Shared} {a : Addr} {y v : V} {u r : Value} {o : Option V} {A : Around} {E : Value → Shared → Prop}

theorem Inv.big (I : Inv X pins σ H s) : sysModules < s.heap.objs.size := by
  have h : mainGlobals < s.heap.objs.size := (I.mod.glob.keeps I.bk).lt
  exact Nat.lt_trans (by decide) h

/-- d[y], there -/
theorem d_getItem {Q : Value → Shared → Prop} (hu : A.units + 1 < cLine) (I : Inv X pins σ H s) (g : DGet H a y (some v)) (ry : RelV y u) (h : ∀ w' s', Inv X pins σ H s' → RelV v w' → Q w' s') :
    wpAny (model X.prog X.w) A (getItem (.ref a) u) Q E s := by
  rcases g with ⟨kvs, k, e, ey, l⟩ | ⟨kvs, k, b, e, ey, eb, l⟩
  · subst ey
    obtain ⟨z, hd, vs, rel, dd⟩ := dk_rd I.hok e
    obtain ⟨w', hw, rw'⟩ := RelO.some_of (v := v) (o := valueAt vs k) (by rw [l]; exact rel.val k)
    exact wpAny_getItem_of (kV_is ry) dd.mapOf hw (h w' _ (I.tok _) rw')
  · subst ey
    cases (show u = Value.ref b from ry)
    obtain ⟨z, hd, xs, rel, dd⟩ := dt_rd I.hok e
    obtain ⟨w', hw, rw'⟩ := RelO.some_of (v := v) (o := (atKey xs k).map (·.2)) (by rw [l]; exact rel.val k)
    obtain ⟨p, hp, hp2⟩ := Option.map_eq_some_iff.mp hw
    refine wpAny_getItem_heap (tupleKind_room_in1 hu) (key_of I.hok eb) dd hp ?_
    rw [hp2]
    exact h w' _ (I.tok _) rw'
/-- y in d -/
theorem d_in {Q : Value → Shared → Prop} (hu : A.units + 1 < cLine) (I : Inv X pins σ H s) (g : DGet H a y o) (ry : RelV y u) (h : ∀ s', Inv X pins σ H s' → Q (.bool o.isSome) s') :
    wpAny (model X.prog X.w) A (compareOp .In u (.ref a)) Q E s := by
  rcases g with ⟨kvs, k, e, ey, l⟩ | ⟨kvs, k, b, e, ey, eb, l⟩
  · subst ey
    obtain ⟨z, hd, vs, rel, dd⟩ := dk_rd I.hok e
    refine wpAny_in_of (kV_is ry) hd dd.mapOf ?_
    rw [← (rel.val k).isSome_eq, ← l]
    exact h _ (I.tok _)
  · subst ey
    cases (show u = Value.ref b from ry)
    obtain ⟨z, hd, xs, rel, dd⟩ := dt_rd I.hok e
    refine wpAny_in_heap (tupleKind_room_in1 hu) (key_of I.hok eb) hd dd ?_
    have q := (rel.val k).isSome_eq
    rw [Option.isSome_map] at q
    rw [← q, ← l]
    exact h _ (I.tok _)
theorem d_notIn {Q : Value → Shared → Prop} (hu : A.units + 1 < cLine) (I : Inv X pins σ H s) (g : DGet H a y o) (ry : RelV y u) (h : ∀ s', Inv X pins σ H s' → Q (.bool (!o.isSome)) s') :
    wpAny (model X.prog X.w) A (compareOp .NotIn u (.ref a)) Q E s := by
  rcases g with ⟨kvs, k, e, ey, l⟩ | ⟨kvs, k, b, e, ey, eb, l⟩
  · subst ey
    obtain ⟨z, hd, vs, rel, dd⟩ := dk_rd I.hok e
    refine wpAny_notIn_of (kV_is ry) hd dd.mapOf ?_
    rw [← (rel.val k).isSome_eq, ← l]
    exact h _ (I.tok _)
  · subst ey
    cases (show u = Value.ref b from ry)
    obtain ⟨z, hd, xs, rel, dd⟩ := dt_rd I.hok e
    refine wpAny_notIn_heap (tupleKind_room_in1 hu) (key_of I.hok eb) hd dd ?_
    have q := (rel.val k).isSome_eq
    rw [Option.isSome_map] at q
    rw [← q, ← l]
    exact h _ (I.tok _)
/-- a dict's object is replaced -/
theorem d_write {h' : Heap} {t' : Nat} {ob : HO} (I : Inv X pins σ H s) (mu : Mut (H a)) (hs : Heap.SameBut a s.heap h') (he : ∃ q, h'.get? a = some q) (new : ObjOk X.prog X.w (upd H a ob) h' a ob) :
    Inv X pins σ (upd H a ob) { s with heap := h', toks := t' } :=
  I.write (x := a) (e := a) mu (.inl rfl) (fun b q hb z => (hs.2 b hb).trans z) he new
theorem dk_new {P : Program} {w : World} {H' : Hp} {h' : Heap} {kvs : List (Key × V)} {vs : List (Key × Value)} (z : kvs.length ≤ sizeLine) (hd : (a == sysModules) = false) (rel : KV kvs vs) (dd : h'.DictOf (mixKind P w) a vs) :
    ObjOk P w H' h' a (.dK kvs) := ⟨z, hd, vs, rel, dd⟩
/-- d[y] = v -/
theorem d_setItem {H' : Hp} {Q : Unit → Shared → Prop} (hu : A.units + 1 < cLine) (I : Inv X pins σ H s) (g : DPut H a y v H') (ry : RelV y u) (rv : RelV v r) (h : ∀ s', Inv X pins σ H' s' → Q () s') :
    wpAny (model X.prog X.w) A (setItem (.ref a) u r) Q E s := by
  rcases g with ⟨kvs, k, e, ey, l, eH⟩ | ⟨kvs, k, b, e, ey, eb, l, eH⟩
  · subst ey eH
    obtain ⟨z, hd, vs, rel, dd⟩ := dk_of I.hok e
    have hz : vs.length ≤ sizeLine := by rw [← rel.length]; exact z
    have hl : (putK kvs k v).length ≤ sizeLine := by have := length_putK kvs k v; omega
    refine wpAny_setItem_pairs (hsz := hz) (kV_is ry) dd fun h' dd' hs => h _ ?_
    have he : ∃ q, h'.get? a = some q := let ⟨q, _, _, hq, _⟩ := dd'; ⟨q, hq⟩
    exact d_write I (by rw [e]; exact True.intro) hs he (dk_new hl hd (rel.put k rv) dd')
  · subst ey eH
    cases (show u = Value.ref b from ry)
    obtain ⟨z, hd, xs, rel, dd⟩ := dt_of I.hok e
    have hz : xs.length ≤ sizeLine := by rw [← Paired.length rel]; exact z
    have hl : (putK kvs k v).length ≤ sizeLine := by have := length_putK kvs k v; omega
    refine wpAny_setItem_heap (hsz := hz) (tupleKind_room_in1 hu) (key_of I.hok eb) dd fun h' dd' hs => h _ ?_
    obtain ⟨q, es, ep, hq, h2, h3, h4, _, h5⟩ := dd'
    refine d_write I (by rw [e]; exact True.intro) hs ⟨q, hq⟩ ⟨hl, hd, _, (rel.put k eb rv).keeps fun c ys ec => ?_, q, es, ep, hq, h2, h3, h4, h5⟩
    rw [upd_ne (ne_of ec e (fun z => nomatch z))]
    exact ec
end

section
variable {X : Cx} {pins : List (Addr × Obj)} {σ : St} {H : Hp} {s : Shared} {a : Addr} {kvs : List (Key × V)} {k : Key} {u : Value} {A : Around} {E : Value → Shared → Prop}
/-- del d[k] -/
theorem d_delItem {Q : Unit → Shared → Prop} (I : Inv X pins σ H s) (e : H a = some (.dK kvs)) (ry : RelV (kV k) u) (l : (valV kvs k).isSome = true) (h : ∀ s', Inv X pins σ (upd H a (.dK (dropK kvs k))) s' → Q () s') :
    wpAny (model X.prog X.w) A (delItem (.ref a) u) Q E s := by
  obtain ⟨z, hd, vs, rel, dd⟩ := dk_of I.hok e
  refine wpAny_delItem_slot dd.typeIs (by decide) PySem.F.slot_dict_delitem
    (call_meetsIn PySem.F.slot_dict_delitem dd.typeIs PySem.F.entry_dict_delitem (PySem.F.args_dict_delitem_2 _ _) (meets_dict_delitem_pairs (mixKind X.prog X.w) a (kV_is ry)) ⟨vs, dd, by rw [← rel.length]; exact z, by rw [← (rel.val k).isSome_eq]; exact l, fun h' dd' hs => h _ ?_⟩)
  have he : ∃ q, h'.get? a = some q := let ⟨q, _, _, hq, _⟩ := dd'; ⟨q, hq⟩
  exact d_write I (by rw [e]; exact True.intro) hs he (dk_new (Nat.le_trans (dropK_le kvs k) z) hd (rel.drop k) dd')
/-- d.pop(k[, x]), there -/
theorem d_pop {v : V} {more : List Value} {Q : Value → Shared → Prop} (I : Inv X pins σ H s) (e : H a = some (.dK kvs)) (ry : RelV (kV k) u) (l : valV kvs k = some v) (hm : more = [] ∨ ∃ x, more = [x])
    (h : ∀ w' s', Inv X pins σ (upd H a (.dK (dropK kvs k))) s' → RelV v w' → Q w' s') : wpAny (model X.prog X.w) A (call (.builtin "dict.pop") (.ref a :: u :: more)) Q E s := by
  obtain ⟨z, hd, vs, rel, dd⟩ := dk_of I.hok e
  obtain ⟨w', hw, rw'⟩ := RelO.some_of (v := v) (o := valueAt vs k) (by rw [← l]; exact rel.val k)
  have hp : (keyPart u).isSome = true := by
    cases k with
    | inl i => obtain ⟨t, q⟩ := (show ∃ t, u = Value.int i t from ry); subst q; rfl
    | inr x => obtain ⟨t, q⟩ := (show ∃ t, u = Value.str x t from ry); subst q; rfl
  have ha : argsOk "dict.pop" ⟨.ref a :: u :: more, []⟩ := by
    rcases hm with q | ⟨x, q⟩
    · subst q; exact PySem.F.args_dict_pop_2 _ _
    · subst q; exact PySem.F.args_dict_pop_3 _ _ _
  refine call_meetsIn PySem.F.slot_dict_pop dd.typeIs PySem.F.entry_dict_pop ha (meets_dict_pop_there (mixKind X.prog X.w) a (kV_is ry) more hm hp)
    ⟨vs, w', dd, by rw [← rel.length]; exact z, hw, fun h' dd' hs => h w' _ ?_ rw'⟩
  have he : ∃ q, h'.get? a = some q := let ⟨q, _, _, hq, _⟩ := dd'; ⟨q, hq⟩
  exact d_write I (by rw [e]; exact True.intro) hs he (dk_new (Nat.le_trans (dropK_le kvs k) z) hd (rel.drop k) dd')
/-- d.pop(k, x), not there -/
theorem d_popD {r : Value} {Q : Value → Shared → Prop} (I : Inv X pins σ H s) (e : H a = some (.dK kvs)) (ry : RelV (kV k) u) (l : valV kvs k = none) (h : ∀ s', Inv X pins σ H s' → Q r s') :
    wpAny (model X.prog X.w) A (call (.builtin "dict.pop") [.ref a, u, r]) Q E s := by
  obtain ⟨z, hd, vs, rel, dd⟩ := dk_of I.hok e
  have hn : valueAt vs k = none := RelO.none_of (by rw [← l]; exact rel.val k)
  have hp : (keyPart u).isSome = true := by
    cases k with
    | inl i => obtain ⟨t, q⟩ := (show ∃ t, u = Value.int i t from ry); subst q; rfl
    | inr x => obtain ⟨t, q⟩ := (show ∃ t, u = Value.str x t from ry); subst q; rfl
  exact call_meetsIn PySem.F.slot_dict_pop dd.typeIs PySem.F.entry_dict_pop (PySem.F.args_dict_pop_3 _ _ _) (meets_dict_pop_default (mixKind X.prog X.w) a (kV_is ry) hd hp r) ⟨vs, dd, hn, h _ (I.tok _)⟩
/-- d.clear() -/
theorem d_clear {Q : Value → Shared → Prop} (I : Inv X pins σ H s) (e : H a = some (.dK kvs)) (h : ∀ s', Inv X pins σ (upd H a (.dK [])) s' → Q .none s') : wpAny (model X.prog X.w) A (call (.builtin "dict.clear") [.ref a]) Q E s := by
  obtain ⟨z, hd, vs, rel, dd⟩ := dk_of I.hok e
  refine call_meetsIn PySem.F.slot_dict_clear dd.typeIs PySem.F.entry_dict_clear (PySem.F.args_dict_clear_1 _) (meets_dict_clear (mixKind X.prog X.w) a) ⟨vs, dd, by rw [← rel.length]; exact z, fun h' dd' hs => h _ ?_⟩
  have he : ∃ q, h'.get? a = some q := let ⟨q, _, _, hq, _⟩ := dd'; ⟨q, hq⟩
  exact d_write (t' := s.toks) I (by rw [e]; exact True.intro) hs he (dk_new (Nat.zero_le _) hd .nil dd')
/-- len(d) -/
theorem d_len {Q : Value → Shared → Prop} (I : Inv X pins σ H s) (e : Rd H a (.dK kvs)) (h : ∀ t s', Inv X pins σ H s' → Q (.int kvs.length t) s') : wpAny (model X.prog X.w) A (call (.builtin "len") [.ref a]) Q E s := by
  obtain ⟨z, hd, vs, rel, dd⟩ := dk_rd I.hok e
  refine call_len_dict hd dd (by rw [← rel.length]; rw [sizeLine_eq] at z; omega) ?_
  rw [← rel.length]
  exact h _ _ (I.tok _)
/-- if d -/
theorem d_truth {Q : Bool → Shared → Prop} (I : Inv X pins σ H s) (e : Rd H a (.dK kvs)) (h : ∀ s', Inv X pins σ H s' → Q (!kvs.isEmpty) s') : wpAny (model X.prog X.w) A (truthy (.ref a)) Q E s := by
  obtain ⟨z, hd, vs, rel, dd⟩ := dk_rd I.hok e
  refine wpAny_truthy_dict hd dd (by rw [← rel.length]; rw [sizeLine_eq] at z; omega) ?_
  have q : kvs.isEmpty = vs.isEmpty := by cases rel <;> rfl
  rw [← q]
  exact h _ (I.tok _)
end


/-! ### readings and rules -/
/-- the element of a subscription, not a slice -/
def NoSl (i : Expr) : Prop := ∀ ov iv, subscripted i false ov iv = operate [ov, iv] (getItem ov iv)
theorem subD_of {prog : Program} {w : World} {A : Around} {E : Value → Shared → Prop} {s : Shared} {env : Env} {value slice : Expr} {pos : Pos} {T id : String} {Q : Value → Shared → Prop}
    (hl : typeLookup (.type T) "__getitem__" = pure (some (.builtin id))) (hs : NoSl slice)
    (h : wpAny (model prog w) A (eval value env) (fun o s₁ => wpAny (model prog w) A (eval slice env) (fun i s₂ => s₂.TypeIs o T ∧ wpAny (model prog w) A (getItem o i) Q E s₂) E s₁) E s) :
    wpAny (model prog w) A (eval (.Subscript value slice pos) env) Q E s := by
  refine Subscript_ (wpAny_mono h (fun o s₁ h₁ => wpAny_mono h₁ (fun i s₂ h₂ => ?_) fun _ _ x => x) fun _ _ x => x)
  obtain ⟨hT, h₂⟩ := h₂
  unfold subscriptTail
  refine wpAny_bind ?_
  rw [getitemInPython_of_ne hT.not_modules]
  refine wpAny_bind (wpAny_specialOf hT hl ?_)
  have fin : wpAny (model prog w) A (subscripted slice false o i) (fun r s₃ => wpAny (model prog w) A (letTemporaryGo value o r >>= fun _ => pure r) Q E s₃) E s₂ := by
    rw [hs o i]
    exact wpAny_operating (wpAny_mono h₂ (fun r s₃ h₃ => wpAny_bind (wpAny_letTemporaryGo (wpAny_pure h₃))) fun _ _ x => x)
  first
    | exact wpAny_pure (wpAny_bind fin)
    | exact wpAny_bind (wpAny_pure (wpAny_bind fin))
    | exact wpAny_bind fin

theorem dict_typeIs {X : Cx} {pins : List (Addr × Obj)} {σ : St} {H : Hp} {s : Shared} {a : Addr} {y : V} {o : Option V} (I : Inv X pins σ H s) (g : DGet H a y o) : s.TypeIs (.ref a) "dict" := by
  rcases g with ⟨kvs, k, e, _, _⟩ | ⟨kvs, k, b, e, _, _, _⟩
  · obtain ⟨_, _, vs, _, dd⟩ := dk_rd I.hok e
    exact dd.typeIs
  · obtain ⟨_, _, xs, _, dd⟩ := dt_rd I.hok e
    exact dd.typeIs
theorem dict_noDict {X : Cx} {pins : List (Addr × Obj)} {σ : St} {H : Hp} {s : Shared} {a : Addr} {y : V} {o : Option V} (I : Inv X pins σ H s) (g : DGet H a y o) :
    ∀ b, Value.ref a = .ref b → ∃ ob, s.heap.get? b = some ob ∧ ob.dict = none := fun b q => by
  cases q
  rcases g with ⟨kvs, k, e, _, _⟩ | ⟨kvs, k, b, e, _, _, _⟩
  · obtain ⟨_, _, vs, _, ob, _, _, h1, h2, _⟩ := dk_rd I.hok e
    exact ⟨ob, h1, h2.2.1⟩
  · obtain ⟨_, _, xs, _, ob, _, _, h1, h2, _⟩ := dt_rd I.hok e
    exact ⟨ob, h1, h2.2.1⟩

/-- d[y] -/
def tDGet (td ty : TE) : TE := fun σ H Q => td σ H fun x H1 => ty σ H1 fun y H2 => ∃ a v, x = .ref a ∧ DGet H2 a y (some v) ∧ Q v H2
/-- y in d, y not in d -/
def tDIn (ty td : TE) : TE := fun σ H Q => ty σ H fun y H1 => td σ H1 fun x H2 => ∃ a o, x = .ref a ∧ DGet H2 a y o ∧ Q (.bl o.isSome) H2
def tDNotIn (ty td : TE) : TE := fun σ H Q => ty σ H fun y H1 => td σ H1 fun x H2 => ∃ a o, x = .ref a ∧ DGet H2 a y o ∧ Q (.bl (!o.isSome)) H2
/-- d[y] = v -/
def sDPut (td ty tv : TE) : TS := fun D σ H => tv σ H fun v H1 => td σ H1 fun x H2 => ty σ H2 fun y H3 => ∃ a H4, x = .ref a ∧ DPut H3 a y v H4 ∧ D.nx σ H4
/-- d[y] op= v -/
def sDAug (td ty tv : TE) (rd : V → V → Hp → VK → Prop) : TS := fun D σ H => td σ H fun x H1 => ty σ H1 fun y H2 => ∃ a v, x = .ref a ∧ DGet H2 a y (some v) ∧
  tv σ H2 fun y2 H3 => rd v y2 H3 fun z H4 => ∃ H5, DPut H4 a y z H5 ∧ D.nx σ H5
/-- del d[y] -/
def sDDel (td ty : TE) : TS := fun D σ H => td σ H fun x H1 => ty σ H1 fun y H2 => ∃ a kvs k, x = .ref a ∧ H2 a = some (.dK kvs) ∧ y = kV k ∧ (valV kvs k).isSome = true ∧ D.nx σ (upd H2 a (.dK (dropK kvs k)))

section
variable {X : Cx} {o i e value : Expr} {pos pos' tpos : Pos} {td ty tv : TE}
theorem pe_dget (hu : X.A.units + 1 < cLine) (ho : PE X o td) (hi : PE X i ty) (hs : NoSl i) : PE X (.Subscript o i pos) (tDGet td ty) := by
  intro pins s σ H Q I h
  refine subD_of PySem.F.slot_dict_getitem.lookup hs (thn (ho pins s σ H _ I h) fun u s1 ⟨x, H1, I1, rx, q1⟩ => thn (hi pins s1 σ H1 _ I1 q1) fun iv s2 ⟨y, H2, I2, ry, a, v, ex, g, q2⟩ => ?_)
  subst ex
  obtain rfl : u = Value.ref a := rx
  exact ⟨dict_typeIs I2 g, d_getItem hu I2 g ry fun w' s3 I3 rw' => ⟨v, H2, I3, rw', q2⟩⟩
theorem pc_din (hu : X.A.units + 1 < cLine) (hi : PE X i ty) (ho : PE X o td) : PC X .In i o (tDIn ty td) := by
  intro pins s σ H Q I h
  refine thn (hi pins s σ H _ I h) fun iv s1 ⟨y, H1, I1, ry, q1⟩ => thn (ho pins s1 σ H1 _ I1 q1) fun u s2 ⟨x, H2, I2, rx, a, ov, ex, g, q2⟩ => ?_
  subst ex
  obtain rfl : u = Value.ref a := rx
  exact d_in hu I2 g ry fun s3 I3 => ⟨.bl ov.isSome, H2, I3, rfl, q2⟩
theorem pc_dnotin (hu : X.A.units + 1 < cLine) (hi : PE X i ty) (ho : PE X o td) : PC X .NotIn i o (tDNotIn ty td) := by
  intro pins s σ H Q I h
  refine thn (hi pins s σ H _ I h) fun iv s1 ⟨y, H1, I1, ry, q1⟩ => thn (ho pins s1 σ H1 _ I1 q1) fun u s2 ⟨x, H2, I2, rx, a, ov, ex, g, q2⟩ => ?_
  subst ex
  obtain rfl : u = Value.ref a := rx
  exact d_notIn hu I2 g ry fun s3 I3 => ⟨.bl (!ov.isSome), H2, I3, rfl, q2⟩
theorem ps_dput (hu : X.A.units + 1 < cLine) (ho : PE X o td) (hi : PE X i ty) (hv : PE X value tv) (hs : swapsWith value (some (.Subscript o i pos')) pos.line X.env = pure false) :
    PS X (.Assign [.Subscript o i pos'] value pos) (sDPut td ty tv) := by
  intro pins s σ H D I h
  refine wpAny_Assign_Subscript (thn (hv pins s σ H _ I h) fun r s1 ⟨v, H1, I1, rv, q1⟩ => thn (ho pins s1 σ H1 _ I1 q1) fun u s2 ⟨x, H2, I2, rx, q2⟩ => thn (hi pins s2 σ H2 _ I2 q2) fun iv s3 ⟨y, H3, I3, ry, a, H4, ex, g, q3⟩ => ?_) hs
  subst ex
  obtain rfl : u = Value.ref a := rx
  exact d_setItem hu I3 g ry rv fun s4 I4 => ⟨σ, H4, I4, q3⟩
theorem ps_daug {op : Operator} {rd : V → V → Hp → VK → Prop} (hu : X.A.units + 1 < cLine) (ho : PE X o td) (hi : PE X i ty) (hv : PE X value tv) (hop : InOp X op rd)
    (ha : ∀ ov iv new, augStore i ov iv new = (do holding [new, ov, iv] (setItem ov iv new); release [new, ov, iv] []; pure .next)) : PS X (.AugAssign (.Subscript o i tpos) op value pos) (sDAug td ty tv rd) := by
  intro pins s σ H D I h
  refine wpAny_AugAssign_SubscriptAny (thn (ho pins s σ H _ I h) fun u s1 ⟨x, H1, I1, rx, q1⟩ => thn (hi pins s1 σ H1 _ I1 q1) fun iv s2 ⟨y, H2, I2, ry, a, v, ex, g, q2⟩ => ?_) ha
  subst ex
  obtain rfl : u = Value.ref a := rx
  refine d_getItem hu I2 g ry fun w' s3 I3 rw' => thn (hv pins s3 σ H2 _ I3 q2) fun w2 s4 ⟨y2, H3, I4, ry2, q3⟩ => thn (hop pins s4 σ H3 v y2 w' w2 _ I4 rw' ry2 q3) fun w3 s5 ⟨z, H4, I5, rz, H5, g5, q4⟩ => ?_
  exact d_setItem hu I5 g5 ry rz fun s6 I6 => ⟨σ, H5, I6, q4⟩
theorem ps_ddel (ho : PE X o td) (hi : PE X i ty) : PS X (.Delete [.Subscript o i tpos] pos) (sDDel td ty) := by
  intro pins s σ H D I h
  refine wpAny_Delete (wpAny_deleteEach_cons (wpAny_delete_Subscript (thn (ho pins s σ H _ I h) fun u s1 ⟨x, H1, I1, rx, q1⟩ => thn (hi pins s1 σ H1 _ I1 q1) fun iv s2 ⟨y, H2, I2, ry, a, kvs, k, ex, e, ey, l, q2⟩ => ?_)))
  subst ex ey
  obtain rfl : u = Value.ref a := rx
  exact d_delItem I2 e ry l fun s3 I3 => wpAny_deleteEach_nil ⟨σ, _, I3, q2⟩
end


/-! ### displays -/
theorem dk_empty {P : Program} {w : World} {H : Hp} (h : Heap) (hb : sysModules < h.objs.size) : ObjOk P w H (h.push { cls := .type "dict", data := .dict #[] }) h.objs.size (.dK []) :=
  ⟨Nat.zero_le _, beq_eq_false_iff_ne.mpr (Ne.symm (Nat.ne_of_lt hb)), [], .nil, Heap.DictOf.new h⟩
theorem dt_empty {P : Program} {w : World} {H : Hp} (h : Heap) (hb : sysModules < h.objs.size) : ObjOk P w H (h.push { cls := .type "dict", data := .dict #[] }) h.objs.size (.dT []) :=
  ⟨Nat.zero_le _, beq_eq_false_iff_ne.mpr (Ne.symm (Nat.ne_of_lt hb)), [], .nil, _, #[], 0, Heap.get?_push_size _ rfl, ⟨rfl, rfl, rfl⟩, rfl, rfl, List.nodup_nil⟩
/-- {}, to be a dict of the kind that is wanted -/
def tDNewK : TE := fun _ H Q => ∀ p, H p = none → Q (.ref p) (upd H p (.dK []))
def tDNewT : TE := fun _ H Q => ∀ p, H p = none → Q (.ref p) (upd H p (.dT []))
section
variable {X : Cx} {pos : Pos}
theorem pe_dnewK : PE X (.Dict [] [] pos) tDNewK := fun pins s σ H Q I h =>
  wpAny_Dict_empty ⟨.ref s.heap.objs.size, _, I.laid (a := s.heap.objs.size) (o := .dK []) (t' := s.toks) (fun _ _ q => Heap.get?_push_of_some _ q) (Nat.le_refl _) (dk_empty s.heap I.big), rfl, h _ (I.hok.fresh (Nat.le_refl _))⟩
theorem pe_dnewT : PE X (.Dict [] [] pos) tDNewT := fun pins s σ H Q I h =>
  wpAny_Dict_empty ⟨.ref s.heap.objs.size, _, I.laid (a := s.heap.objs.size) (o := .dT []) (t' := s.toks) (fun _ _ q => Heap.get?_push_of_some _ q) (Nat.le_refl _) (dt_empty s.heap I.big), rfl, h _ (I.hok.fresh (Nat.le_refl _))⟩
end

/-- the pairs of a display, from the left -/
def tPairs : List (TE × TE) → St → Hp → (List (V × V) → Hp → Prop) → Prop
  | [], _, H, Q => Q [] H
  | (tk, tv) :: r, σ, H, Q => tk σ H fun x H1 => tv σ H1 fun y H2 => tPairs r σ H2 fun ps H3 => Q ((x, y) :: ps) H3
abbrev VV : List (V × V) → List (Value × Value) → Prop := Paired fun p q => RelV p.1 q.1 ∧ RelV p.2 q.2
def PPs (X : Cx) (pos : Pos) (keys : List (Option Expr)) (values : List Expr) (trs : List (TE × TE)) : Prop :=
  ∀ (pins : List (Addr × Obj)) (s : Shared) (σ : St) (H : Hp) (Q : List (V × V) → Hp → Prop), Inv X pins σ H s → tPairs trs σ H Q →
    wpAny (model X.prog X.w) X.A (evalPairs (pairTrees keys values X.env pos)) (fun vs s' => ∃ ps H', Inv X pins σ H' s' ∧ VV ps vs ∧ Q ps H') X.xe s
theorem pps_nil {X : Cx} {pos : Pos} : PPs X pos [] [] [] := fun pins s σ H Q I h => pairTrees_nil_walk ⟨[], H, I, .nil, h⟩
theorem pps_cons {X : Cx} {pos : Pos} {k v : Expr} {ks : List (Option Expr)} {vs : List Expr} {tk tv : TE} {trs : List (TE × TE)} (hk : PE X k tk) (hv : PE X v tv) (hr : PPs X pos ks vs trs) :
    PPs X pos (some k :: ks) (v :: vs) ((tk, tv) :: trs) := fun pins s σ H Q I h =>
  pairTrees_cons_walk (thn (hk pins s σ H _ I h) fun u s1 ⟨x, H1, I1, rx, q1⟩ => thn (hv pins s1 σ H1 _ I1 q1) fun w2 s2 ⟨y, H2, I2, ry, q2⟩ =>
    thn (hr pins s2 σ H2 _ I2 q2) fun ws s3 ⟨ps, H3, I3, rel, q3⟩ => ⟨(x, y) :: ps, H3, I3, .cons ⟨rx, ry⟩ rel, q3⟩)

def mergeK (kvs more : List (Key × V)) : List (Key × V) := more.foldl (fun acc kv => putK acc kv.1 kv.2) kvs
theorem KV.merge : ∀ {more : List (Key × V)} {rs : List (Key × Value)} {kvs : List (Key × V)} {vs : List (Key × Value)}, KV more rs → KV kvs vs → KV (mergeK kvs more) (merged vs rs) := by
  intro more rs kvs vs r
  unfold KV at r
  induction r generalizing kvs vs with
  | nil => intro q; exact q
  | @cons p q ps qs h t ih =>
    intro r0
    have e : KV (putK kvs p.1 p.2) (stored vs q.1 q.2) := by
      have := r0.put p.1 h.2
      rw [← h.1]; exact this
    exact ih e
theorem length_mergeK : ∀ (more kvs : List (Key × V)), (mergeK kvs more).length ≤ kvs.length + more.length
  | [], kvs => by show kvs.length ≤ kvs.length + 0; omega
  | p :: r, kvs => by
    have h1 := length_mergeK r (putK kvs p.1 p.2)
    have h2 := length_putK kvs p.1 p.2
    show (mergeK (putK kvs p.1 p.2) r).length ≤ _
    rw [List.length_cons]; omega
theorem carries_of {P : Program} {w : World} : ∀ {kvs : List (Key × V)} {ws : List (Value × Value)}, VV (kvs.map fun kv => (kV kv.1, kv.2)) ws → ∃ rs, Carries (mixKind P w) ws rs ∧ KV kvs rs
  | [], _, r => by rw [List.map_nil] at r; cases r; exact ⟨[], True.intro, .nil⟩
  | p :: kvs, _, r => by
    rw [List.map_cons] at r
    cases r with
    | @cons a b as bs h t =>
      obtain ⟨rs, c, q⟩ := carries_of (P := P) (w := w) t
      obtain ⟨b1, b2⟩ := b
      exact ⟨(p.1, b2) :: rs, ⟨kV_is h.1, rfl, c⟩, .cons ⟨rfl, h.2⟩ q⟩
/-- {k: v, ..} with keys ints and texts; the new dict stands empty while the pairs are made -/
def tDisp (trs : List (TE × TE)) : TE := fun σ H Q => ∀ p, H p = none → tPairs trs σ (upd H p (.dK [])) fun ps H2 => H2 p = some (.dK []) ∧ ∃ kvs : List (Key × V), ps = kvs.map (fun kv => (kV kv.1, kv.2)) ∧ kvs.length ≤ 15 ∧ Q (.ref p) (upd H2 p (.dK (mergeK [] kvs)))
theorem pe_disp {X : Cx} {pos : Pos} {keys : List (Option Expr)} {values : List Expr} {trs : List (TE × TE)} (h : PPs X pos keys values trs) (hall : keys.all (·.isSome) = true) (hl : keys.length = values.length) (h0 : keys ≠ [])
    (h15 : keys.length ≤ 15) : PE X (.Dict keys values pos) (tDisp trs) := by
  intro pins s σ H Q I q
  have hn := I.hok.fresh (Nat.le_refl s.heap.objs.size)
  have I1 := I.laid (a := s.heap.objs.size) (o := .dK []) (h' := s.heap.push { cls := .type "dict", data := .dict #[] }) (t' := s.toks) (fun _ _ q => Heap.get?_push_of_some _ q) (Nat.le_refl _) (dk_empty s.heap I.big)
  refine wpAny_Dict_walk (knd := mixKind X.prog X.w) hall hl h0 h15 (thn (h pins _ σ _ _ I1 (q _ hn)) fun ws s2 ⟨ps, H2, I2, rel, e, kvs, ep, lk, q2⟩ => ?_)
  subst ep
  obtain ⟨rs, c, rk⟩ := carries_of (P := X.prog) (w := X.w) rel
  obtain ⟨z, hd, vs0, r0, dd⟩ := dk_of I2.hok e
  cases r0
  refine ⟨rs, c, dd, fun h' dd' hs => ⟨.ref s.heap.objs.size, _, ?_, rfl, q2⟩⟩
  have hz : (mergeK [] kvs).length ≤ sizeLine := by
    have h1 := length_mergeK kvs []
    rw [List.length_nil] at h1
    rw [sizeLine_eq]; omega
  have he : ∃ q, h'.get? s.heap.objs.size = some q := let ⟨q, _, _, hq, _⟩ := dd'; ⟨q, hq⟩
  exact d_write I2 (by rw [e]; exact True.intro) hs he (dk_new hz hd (rk.merge .nil) dd')


/-! ### methods -/
/-- a method call o.m(e) of a built-in, with one argument: what must be seen of the text -/
structure M1 (X : Cx) (o : Expr) (m : Str) (apos : Pos) (e : Expr) (cpos : Pos) : Prop where
  base : attributeBase o m X.env (eval o X.env) = eval o X.env
  few : ((backTo cpos (starEach [e] X.env)).all (fun x => !x.1) && (backToKw cpos (keywordEach [] X.env)).all (fun x => x.1.isSome)
    && decide (([e] : List Expr).length + ([] : List Keyword).length + (if ([] : List Keyword).isEmpty then 0 else 1) < 30)) = true
  line : (apos.endLine == cpos.line) = true
  trees : backTo cpos (starEach [e] X.env) = [(false, eval e X.env)]
structure M2 (X : Cx) (o : Expr) (m : Str) (apos : Pos) (e f : Expr) (cpos : Pos) : Prop where
  base : attributeBase o m X.env (eval o X.env) = eval o X.env
  few : ((backTo cpos (starEach [e, f] X.env)).all (fun x => !x.1) && (backToKw cpos (keywordEach [] X.env)).all (fun x => x.1.isSome)
    && decide (([e, f] : List Expr).length + ([] : List Keyword).length + (if ([] : List Keyword).isEmpty then 0 else 1) < 30)) = true
  line : (apos.endLine == cpos.line) = true
  trees : backTo cpos (starEach [e, f] X.env) = [(false, eval e X.env), (false, eval f X.env)]

/-- a is a dict, whatever its keys -/
def IsD (H : Hp) (a : Addr) : Prop := (∃ kvs, Rd H a (.dK kvs)) ∨ ∃ kvs, Rd H a (.dT kvs)
theorem isD_at {X : Cx} {pins : List (Addr × Obj)} {σ : St} {H : Hp} {s : Shared} {a : Addr} (I : Inv X pins σ H s) (d : IsD H a) :
    s.TypeIs (.ref a) "dict" ∧ (∀ b, Value.ref a = .ref b → ∃ ob, s.heap.get? b = some ob ∧ ob.dict = none) ∧ (a == sysModules) = false := by
  rcases d with ⟨kvs, e⟩ | ⟨kvs, e⟩
  · obtain ⟨_, hd, vs, _, dd⟩ := dk_rd I.hok e
    refine ⟨dd.typeIs, fun b q => ?_, hd⟩
    cases q
    obtain ⟨ob, _, _, h1, h2, _⟩ := dd
    exact ⟨ob, h1, h2.2.1⟩
  · obtain ⟨_, hd, xs, _, dd⟩ := dt_rd I.hok e
    refine ⟨dd.typeIs, fun b q => ?_, hd⟩
    cases q
    obtain ⟨ob, _, _, h1, h2, _⟩ := dd
    exact ⟨ob, h1, h2.2.1⟩

section
variable {X : Cx} {pins : List (Addr × Obj)} {σ : St} {H : Hp} {s : Shared} {a : Addr} {y d : V} {u r : Value} {o : Option V} {A : Around} {E : Value → Shared → Prop}
/-- d.get(y) -/
theorem d_get1 {Q : Value → Shared → Prop} (hu : A.units + 1 < cLine) (I : Inv X pins σ H s) (g : DGet H a y o) (ry : RelV y u) (h : ∀ w' s', Inv X pins σ H s' → RelV (o.getD .non) w' → Q w' s') :
    wpAny (model X.prog X.w) A (call (.builtin "dict.get") [.ref a, u]) Q E s := by
  rcases g with ⟨kvs, k, e, ey, l⟩ | ⟨kvs, k, b, e, ey, eb, l⟩
  · subst ey
    obtain ⟨z, hd, vs, rel, dd⟩ := dk_rd I.hok e
    refine call_meetsIn PySem.F.slot_dict_get dd.typeIs PySem.F.entry_dict_get (PySem.F.args_dict_get_2 _ _) (meets_dict_get (mixKind X.prog X.w) a (kV_is ry) hd) ⟨_, dd.mapOf, h _ _ (I.tok _) ?_⟩
    rw [l]
    exact (rel.val k).getD rfl
  · subst ey
    cases (show u = Value.ref b from ry)
    obtain ⟨z, hd, xs, rel, dd⟩ := dt_rd I.hok e
    refine call_meetsIn PySem.F.slot_dict_get dd.typeIs PySem.F.entry_dict_get (PySem.F.args_dict_get_2 _ _) (meetsH_dict_get (tupleKind (mixKind X.prog X.w)) a b hd) ⟨tupleKind_room_in1 hu, k, xs, key_of I.hok eb, dd, h _ _ (I.tok _) ?_⟩
    rw [l]
    exact (rel.val k).getD rfl
/-- d.get(y, x) -/
theorem d_get2 {Q : Value → Shared → Prop} (hu : A.units + 1 < cLine) (I : Inv X pins σ H s) (g : DGet H a y o) (ry : RelV y u) (rd : RelV d r) (h : ∀ w' s', Inv X pins σ H s' → RelV (o.getD d) w' → Q w' s') :
    wpAny (model X.prog X.w) A (call (.builtin "dict.get") [.ref a, u, r]) Q E s := by
  rcases g with ⟨kvs, k, e, ey, l⟩ | ⟨kvs, k, b, e, ey, eb, l⟩
  · subst ey
    obtain ⟨z, hd, vs, rel, dd⟩ := dk_rd I.hok e
    refine call_meetsIn PySem.F.slot_dict_get dd.typeIs PySem.F.entry_dict_get (PySem.F.args_dict_get_3 _ _ _) (meets_dict_get_default (mixKind X.prog X.w) a (kV_is ry) hd r) ⟨_, dd.mapOf, h _ _ (I.tok _) ?_⟩
    rw [l]
    exact (rel.val k).getD rd
  · subst ey
    cases (show u = Value.ref b from ry)
    obtain ⟨z, hd, xs, rel, dd⟩ := dt_rd I.hok e
    refine call_meetsIn PySem.F.slot_dict_get dd.typeIs PySem.F.entry_dict_get (PySem.F.args_dict_get_3 _ _ _) (meetsH_dict_get_default (tupleKind (mixKind X.prog X.w)) a b hd r) ⟨tupleKind_room_in1 hu, k, xs, key_of I.hok eb, dd, h _ _ (I.tok _) ?_⟩
    rw [l]
    exact (rel.val k).getD rd
end

def tDGet1 (td ty : TE) : TE := fun σ H Q => td σ H fun x H1 => ∃ a, x = .ref a ∧ IsD H1 a ∧ ty σ H1 fun y H2 => ∃ o, DGet H2 a y o ∧ Q (o.getD .non) H2
def tDGet2 (td ty tx : TE) : TE := fun σ H Q => td σ H fun x H1 => ∃ a, x = .ref a ∧ IsD H1 a ∧ ty σ H1 fun y H2 => tx σ H2 fun z H3 => ∃ o, DGet H3 a y o ∧ Q (o.getD z) H3
/-- d.pop(k): there; d.pop(k, x): there or not -/
def tDPop1 (td ty : TE) : TE := fun σ H Q => td σ H fun x H1 => ∃ a, x = .ref a ∧ IsD H1 a ∧ ty σ H1 fun y H2 => ∃ kvs k v, H2 a = some (.dK kvs) ∧ y = kV k ∧ valV kvs k = some v ∧ Q v (upd H2 a (.dK (dropK kvs k)))
def tDPop2 (td ty tx : TE) : TE := fun σ H Q => td σ H fun x H1 => ∃ a, x = .ref a ∧ IsD H1 a ∧ ty σ H1 fun y H2 => tx σ H2 fun z H3 => ∃ kvs k, H3 a = some (.dK kvs) ∧ y = kV k ∧
  (∀ v, valV kvs k = some v → Q v (upd H3 a (.dK (dropK kvs k)))) ∧ (valV kvs k = none → Q z H3)
section
variable {X : Cx} {o e f : Expr} {apos cpos : Pos} {td ty tx : TE}
theorem pe_dget1 (hu : X.A.units + 1 < cLine) (ho : PE X o td) (he : PE X e ty) (m : M1 X o "get" apos e cpos) : PE X (.Call (.Attribute o "get" apos) [e] [] cpos) (tDGet1 td ty) := by
  intro pins s σ H Q I h
  refine wpAny_Call_method m.base m.few m.line PySem.F.plainAttrs_dict PySem.F.slot_dict_get PySem.F.type_dict_get (thn (ho pins s σ H _ I h) fun u s1 ⟨x, H1, I1, rx, a, ex, d, q1⟩ => ?_)
  subst ex
  obtain rfl : u = Value.ref a := rx
  obtain ⟨t1, t2, _⟩ := isD_at I1 d
  refine ⟨t1, t2, ?_⟩
  rw [m.trees]
  refine Calls.callWith_builtin rfl (Calls.evalArgs_plain (Calls.spliced_cons (thn (he pins s1 σ H1 _ I1 q1) fun iv s2 ⟨y, H2, I2, ry, ov, g, q2⟩ => Calls.spliced_nil ?_)))
  exact d_get1 hu I2 g ry fun w' s3 I3 rw' => ⟨_, H2, I3, rw', q2⟩
theorem pe_dget2 (hu : X.A.units + 1 < cLine) (ho : PE X o td) (he : PE X e ty) (hf : PE X f tx) (m : M2 X o "get" apos e f cpos) : PE X (.Call (.Attribute o "get" apos) [e, f] [] cpos) (tDGet2 td ty tx) := by
  intro pins s σ H Q I h
  refine wpAny_Call_method m.base m.few m.line PySem.F.plainAttrs_dict PySem.F.slot_dict_get PySem.F.type_dict_get (thn (ho pins s σ H _ I h) fun u s1 ⟨x, H1, I1, rx, a, ex, d, q1⟩ => ?_)
  subst ex
  obtain rfl : u = Value.ref a := rx
  obtain ⟨t1, t2, _⟩ := isD_at I1 d
  refine ⟨t1, t2, ?_⟩
  rw [m.trees]
  refine Calls.callWith_builtin rfl (Calls.evalArgs_plain (Calls.spliced_cons (thn (he pins s1 σ H1 _ I1 q1) fun iv s2 ⟨y, H2, I2, ry, q2⟩ =>
    Calls.spliced_cons (thn (hf pins s2 σ H2 _ I2 q2) fun fv s3 ⟨z, H3, I3, rz, ov, g, q3⟩ => Calls.spliced_nil ?_))))
  exact d_get2 hu I3 g ry rz fun w' s4 I4 rw' => ⟨_, H3, I4, rw', q3⟩
theorem pe_dpop1 (ho : PE X o td) (he : PE X e ty) (m : M1 X o "pop" apos e cpos) : PE X (.Call (.Attribute o "pop" apos) [e] [] cpos) (tDPop1 td ty) := by
  intro pins s σ H Q I h
  refine wpAny_Call_method m.base m.few m.line PySem.F.plainAttrs_dict PySem.F.slot_dict_pop PySem.F.type_dict_pop (thn (ho pins s σ H _ I h) fun u s1 ⟨x, H1, I1, rx, a, ex, d, q1⟩ => ?_)
  subst ex
  obtain rfl : u = Value.ref a := rx
  obtain ⟨t1, t2, _⟩ := isD_at I1 d
  refine ⟨t1, t2, ?_⟩
  rw [m.trees]
  refine Calls.callWith_builtin rfl (Calls.evalArgs_plain (Calls.spliced_cons (thn (he pins s1 σ H1 _ I1 q1) fun iv s2 ⟨y, H2, I2, ry, kvs, k, v, ea, ey, l, q2⟩ => Calls.spliced_nil ?_)))
  subst ey
  exact d_pop I2 ea ry l (.inl rfl) fun w' s3 I3 rw' => ⟨v, _, I3, rw', q2⟩
theorem pe_dpop2 (ho : PE X o td) (he : PE X e ty) (hf : PE X f tx) (m : M2 X o "pop" apos e f cpos) : PE X (.Call (.Attribute o "pop" apos) [e, f] [] cpos) (tDPop2 td ty tx) := by
  intro pins s σ H Q I h
  refine wpAny_Call_method m.base m.few m.line PySem.F.plainAttrs_dict PySem.F.slot_dict_pop PySem.F.type_dict_pop (thn (ho pins s σ H _ I h) fun u s1 ⟨x, H1, I1, rx, a, ex, d, q1⟩ => ?_)
  subst ex
  obtain rfl : u = Value.ref a := rx
  obtain ⟨t1, t2, _⟩ := isD_at I1 d
  refine ⟨t1, t2, ?_⟩
  rw [m.trees]
  refine Calls.callWith_builtin rfl (Calls.evalArgs_plain (Calls.spliced_cons (thn (he pins s1 σ H1 _ I1 q1) fun iv s2 ⟨y, H2, I2, ry, q2⟩ =>
    Calls.spliced_cons (thn (hf pins s2 σ H2 _ I2 q2) fun fv s3 ⟨z, H3, I3, rz, kvs, k, ea, ey, q3, q4⟩ => Calls.spliced_nil ?_))))
  subst ey
  cases l : valV kvs k with
  | some v => exact d_pop I3 ea ry l (.inr ⟨fv, rfl⟩) fun w' s4 I4 rw' => ⟨v, _, I4, rw', q3 v l⟩
  | none => exact d_popD I3 ea ry l fun s4 I4 => ⟨z, H3, I4, rz, q4 l⟩
end

/-! ### dict(d): a copy -/
section
variable {X : Cx} {pins : List (Addr × Obj)} {σ : St} {H : Hp} {s : Shared} {a : Addr} {kvs : List (Key × V)} {A : Around} {E : Value → Shared → Prop}
theorem d_copyOf {Q : Value → Shared → Prop} (I : Inv X pins σ H s) (e : Rd H a (.dK kvs)) (h : ∀ p s', H p = none → Inv X pins σ (upd H p (.dK kvs)) s' → Q (.ref p) s') : wpAny (model X.prog X.w) A (call (.type "dict") [.ref a]) Q E s := by
  obtain ⟨z, hd, vs, rel, dd⟩ := dk_rd I.hok e
  refine kt_call_dict hd dd (by rw [← rel.length]; exact z) fun h' dd' hs => ?_
  refine h _ _ (I.hok.fresh (Nat.le_refl _)) (I.laid (a := s.heap.objs.size) (o := .dK kvs) (t' := s.toks) (fun b q hq => ?_) (Nat.le_refl _) (dk_new z (beq_eq_false_iff_ne.mpr (Ne.symm (Nat.ne_of_lt I.big))) rel dd'))
  exact (hs.2 b (Nat.ne_of_lt (Heap.lt_size hq))).trans (Heap.get?_push_of_some _ hq)
end


section
variable {X : Cx} {pins : List (Addr × Obj)} {σ : St} {H : Hp} {s : Shared} {a : Addr} {y : V} {u : Value} {A : Around} {E : Value → Shared → Prop}
/-- d[y], not there: a KeyError -/
theorem d_missing {Q : Value → Shared → Prop} (hu : A.units + 1 < cLine) (hh : A.handled = none) (I : Inv X pins σ H s) (g : DGet H a y none) (ry : RelV y u)
    (h : ∀ h' e t', Heap.NewExc s.heap h' e "KeyError" → E (.ref e) { s with heap := h', toks := t' }) : wpAny (model X.prog X.w) A (getItem (.ref a) u) Q E s := by
  rcases g with ⟨kvs, k, e, ey, l⟩ | ⟨kvs, k, b, e, ey, eb, l⟩
  · subst ey
    obtain ⟨z, hd, vs, rel, dd⟩ := dk_rd I.hok e
    have hn : valueAt vs k = none := RelO.none_of (by rw [l]; exact rel.val k)
    exact wpAny_getItem_missing_of (kV_is ry) hd hh dd.mapOf hn fun h' ex ne => h h' ex _ ne
  · subst ey
    cases (show u = Value.ref b from ry)
    obtain ⟨z, hd, xs, rel, dd⟩ := dt_rd I.hok e
    have hn : (atKey xs k).map (·.2) = none := RelO.none_of (by rw [l]; exact rel.val k)
    exact wpAny_getItem_missing_heap (tupleKind_room_in1 hu) (key_of I.hok eb) hd hh dd (Option.map_eq_none_iff.mp hn) fun h' ex ne => h h' ex _ ne
end
end L2

namespace Att
open PySem PySem.W PySem.Calls PyProof.Rows

/-! ### the script -/
theorem ints_of_wellAll {P : Params} {h : Heap} : ∀ (ns : List Int) (vs : List Value), WellAll P h vs (ns.map WData.int) → IntsAre vs ns := by
  intro ns
  induction ns with
  | nil =>
    intro vs w
    rw [List.map_nil] at w
    cases w
    exact .nil
  | cons n ns ih =>
    intro vs w
    rw [List.map_cons] at w
    cases w with
    | cons a b =>
      cases a
      exact .cons _ _ (ih _ b)

theorem script_of {l : OpenLaw} {n : Nat} (hn : l.most = some n) {P : Params} {h : Heap} {args : List WData} {vals : List Value}
    (hpre : l.row.toRowW.claim.pre args = true) (hwl : WellAll P h vals args) :
    ∃ a vs ns, vals = [Value.ref a] ∧ args = [WData.list (ns.map WData.int)] ∧ h.get? a = some { cls := .type "list", data := .seq vs.toArray } ∧ IntsAre vs ns ∧ ns.length ≤ n := by
  have hsh : WShape.hasAll [] args [.list .int] = true := (pre_splitW hpre).1
  have hc : l.pre.holds [] { args := args } = true := (pre_splitW hpre).2
  obtain ⟨d, r, rfl, h1, h2⟩ := hasAllW_cons hsh
  obtain rfl := hasAllW_nil h2
  obtain ⟨xs, rfl, h3⟩ := hasW_list h1
  obtain ⟨ns, rfl⟩ := items_int h3
  have hlen : ns.length ≤ n := by
    unfold OpenLaw.pre at hc
    have h4 : (WTm.not (.lt (.lit (.int (n : Int))) (.len (.arg 0)))).holds [] { args := [.list (ns.map .int)] } = true := by
      have h4 := (holds_andW hc).1
      rw [hn] at h4
      exact h4
    have h5 := condW_of h4 (w_not (w_lt w_lit (w_len_list (w_arg rfl))))
    rw [List.length_map] at h5
    refine Nat.le_of_not_lt fun q => ?_
    have q' : (n : Int) < ((ns.length : Nat) : Int) := by omega
    first
      | (rw [decide_eq_true q'] at h5; exact absurd h5 (by decide))
      | (simp at h5; omega)
  cases hwl with
  | cons w1 w2 =>
    cases w2
    cases w1 with
    | list ho hall => exact ⟨_, _, ns, rfl, rfl, ho, ints_of_wellAll ns _ hall, hlen⟩

theorem post_true (l : OpenLaw) (args : List WData) : l.row.toRowW.claim.post args (.bool true) args = true :=
  postW_of (r := l.row.toRowW) (X := (true == true))
    (show WShape.has [] (.bool true) .bool = true by first | rfl | decide | simp [WShape.has, WShape.arms, WShape.armsAll])
    (show (WTm.eq .res (.lit (.bool true))).value [] { args := args, res := some (.bool true), after := args } = some (.bool (true == true)) from w_eq_bool (w_res rfl) w_lit) rfl

/-! ### the attachment: holds_open's last premise (the goal 'hc' behind k_head) from a wpAny of the law's body -/
theorem attach {l : OpenLaw} {n : Nat} {q : Program} {loose : List Str} {XP : (Str → Option Value) → Heap → Prop} {YP : World → Heap → Prop} {d : DefRec} {x : Str}
    (hn : l.most = some n) (hdf : d.params.defaults = [])
    (hbind : ∀ pm cd doc v : Value, bindArgs (docDef d.name d.params d.body d.scope pm cd doc) ⟨[v], []⟩ = pure [(x, v)])
    (hx : d.scope.names.lookup x = some .local ∨ d.scope.names.lookup x = some .cell)
    (hk : d.scope.kind = .function) (hco : d.scope.isCoroutine = false) (hgen : d.scope.isGenerator = false)
    (body : ∀ (w : World) (s₀ s₁ s : Shared) (mg mb : Str → Option Value) (fa : Addr) (o : Obj) (pm cd doc : Value) (a : Addr) (vs : List Value) (ns : List Int),
      Ground q loose [] XP w s₀ mg mb s₁.heap → YP w s₁.heap →
      s₁.heap.get? fa = some o → o.data = .func (docDef d.name d.params d.body d.scope pm cd doc) → s₁.heap.CodeRec cd d.name → mg d.name = some (.ref fa) →
      s₁.heap.get? a = some { cls := .type "list", data := .seq vs.toArray } → IntsAre vs ns → ns.length ≤ n →
      s.gens = #[] → s.os = s₁.os →
      Fr s₁.heap s₁.heap.objs.size s.heap (bindL (envOfC d.name d.scope s₁.heap.objs.size fa cd).kindOf [(x, .ref a)] fun _ => none) →
      Cl s₁.heap.objs.size (cellsFrom (s₁.heap.objs.size + 1) d.scope.names []) s.heap (bindC (envOfC d.name d.scope s₁.heap.objs.size fa cd).kindOf [(x, .ref a)] fun _ => none) →
      wpAny (model l.prog w) (callerA.deeper (envOfC d.name d.scope s₁.heap.objs.size fa cd)) (execs d.body (envOfC d.name d.scope s₁.heap.objs.size fa cd))
        (fun f s' => f = .ret (.bool true) ∧ OldK s₁.heap s'.heap ∧ s'.os = s₁.os ∧ AllBare s'.gens) (fun _ _ => False) s) :
    WalkO q loose XP YP l.row.toRowW d [] (fun f vs => PySem.call f vs) := by
  intro w s₀ s₁ mg mb G Y fa o pm cd doc dV kV ho hd hcd hD hmg hg args vals as hpre hlay hrd hwl hlo
  obtain rfl : dV = .none := Dflts.none hD hdf
  obtain rfl : kV = .none := Dflts.noKw hD
  obtain ⟨a, vs, ns, rfl, rfl, hobj, hints, hlen⟩ := script_of hn hpre hwl
  refine enter_call ?_
  refine call_cells_ret (o := o) (by rw [depth_caller]; decide) ho (fd_plain hd) G.T.nolimit hcd (hbind pm cd doc (.ref a)) (fun y hy => ?_) (fun h₁ tk F X => ?_) hco hgen hk
  · obtain rfl : y = (x, Value.ref a) := List.mem_singleton.mp hy
    rcases hx with e | e
    · exact .inl e
    · exact .inr ⟨e, cellsFrom_some _ _ _ (.inl e)⟩
  · refine wpAny_mono (body w s₀ s₁ { s₁ with heap := h₁, toks := tk } mg mb fa o pm cd doc a vs ns G Y ho (fd_plain hd) hcd hmg hobj hints hlen hg rfl F X) (fun f s' hq => ?_) (fun _ _ hq => hq)
    obtain ⟨rfl, h2, h3, h4⟩ := hq
    exact ⟨.inl ⟨.bool true, .bool true, [], rfl, fun _ => rfl, .bool true, post_true l _, fun _ => ⟨List.Pairwise.nil, fun _ hm => (nomatch hm)⟩⟩, h2, h3, h4⟩

/-- the same from a codeAny of the CALL (for a layer whose function contracts speak of calls) -/
theorem attach_call {l : OpenLaw} {n : Nat} {q : Program} {loose : List Str} {XP : (Str → Option Value) → Heap → Prop} {YP : World → Heap → Prop} {d : DefRec}
    (hn : l.most = some n) (hdf : d.params.defaults = [])
    (call : ∀ (w : World) (s₀ s₁ : Shared) (mg mb : Str → Option Value) (fa : Addr) (o : Obj) (pm cd doc : Value) (a : Addr) (vs : List Value) (ns : List Int),
      Ground q loose [] XP w s₀ mg mb s₁.heap → YP w s₁.heap →
      s₁.heap.get? fa = some o → o.data = .func (docDef d.name d.params d.body d.scope pm cd doc) → s₁.heap.CodeRec cd d.name → mg d.name = some (.ref fa) →
      s₁.heap.get? a = some { cls := .type "list", data := .seq vs.toArray } → IntsAre vs ns → ns.length ≤ n → s₁.gens = #[] →
      codeAny (model l.prog w) callerA (.call (.ref fa) ⟨[.ref a], []⟩) (fun r s' => r = .ok (.ret (.bool true)) ∧ OldK s₁.heap s'.heap ∧ s'.os = s₁.os ∧ AllBare s'.gens) s₁) :
    WalkO q loose XP YP l.row.toRowW d [] (fun f vs => PySem.call f vs) := by
  intro w s₀ s₁ mg mb G Y fa o pm cd doc dV kV ho hd hcd hD hmg hg args vals as hpre hlay hrd hwl hlo
  obtain rfl : dV = .none := Dflts.none hD hdf
  obtain rfl : kV = .none := Dflts.noKw hD
  obtain ⟨a, vs, ns, rfl, rfl, hobj, hints, hlen⟩ := script_of hn hpre hwl
  refine enter_call (codeAny_mono (call w s₀ s₁ mg mb fa o pm cd doc a vs ns G Y ho (fd_plain hd) hcd hmg hobj hints hlen hg) fun r s' hq => ?_)
  obtain ⟨rfl, h2, h3, h4⟩ := hq
  exact ⟨.inl ⟨.bool true, .bool true, [], rfl, fun _ => rfl, .bool true, post_true l _, fun _ => ⟨List.Pairwise.nil, fun _ hm => (nomatch hm)⟩⟩, h2, h3, h4⟩

/-- the same where the top left finished generators (o_head chose holds_openN): nothing may have changed at all and no generator may be left -/
theorem attachN {l : OpenLaw} {n : Nat} {q : Program} {loose : List Str} {XP : (Str → Option Value) → Heap → Prop} {YP : World → Heap → Prop} {d : DefRec} {x : Str}
    (hn : l.most = some n) (hdf : d.params.defaults = [])
    (hbind : ∀ pm cd doc v : Value, bindArgs (docDef d.name d.params d.body d.scope pm cd doc) ⟨[v], []⟩ = pure [(x, v)])
    (hx : d.scope.names.lookup x = some .local ∨ d.scope.names.lookup x = some .cell)
    (hk : d.scope.kind = .function) (hco : d.scope.isCoroutine = false) (hgen : d.scope.isGenerator = false)
    (body : ∀ (w : World) (s₀ s₁ s : Shared) (mg mb : Str → Option Value) (fa : Addr) (o : Obj) (pm cd doc : Value) (a : Addr) (vs : List Value) (ns : List Int),
      Ground q loose [] XP w s₀ mg mb s₁.heap → YP w s₁.heap →
      s₁.heap.get? fa = some o → o.data = .func (docDef d.name d.params d.body d.scope pm cd doc) → s₁.heap.CodeRec cd d.name → mg d.name = some (.ref fa) →
      s₁.heap.get? a = some { cls := .type "list", data := .seq vs.toArray } → IntsAre vs ns → ns.length ≤ n →
      s.gens = #[] → s.os = s₁.os →
      Fr s₁.heap s₁.heap.objs.size s.heap (bindL (envOfC d.name d.scope s₁.heap.objs.size fa cd).kindOf [(x, .ref a)] fun _ => none) →
      Cl s₁.heap.objs.size (cellsFrom (s₁.heap.objs.size + 1) d.scope.names []) s.heap (bindC (envOfC d.name d.scope s₁.heap.objs.size fa cd).kindOf [(x, .ref a)] fun _ => none) →
      wpAny (model l.prog w) (callerA.deeper (envOfC d.name d.scope s₁.heap.objs.size fa cd)) (execs d.body (envOfC d.name d.scope s₁.heap.objs.size fa cd))
        (fun f s' => f = .ret (.bool true) ∧ (∀ b o, s₁.heap.get? b = some o → s'.heap.get? b = some o) ∧ s'.os = s₁.os ∧ s'.gens = #[]) (fun _ _ => False) s) :
    WalkN q loose XP YP l.row.toRowW d [] (fun f vs => PySem.call f vs) := by
  intro w s₀ s₁ mg mb G Y fa o pm cd doc dV kV ho hd hcd hD hmg hg args vals as hpre hlay hrd hwl hlo
  obtain rfl : dV = .none := Dflts.none hD hdf
  obtain rfl : kV = .none := Dflts.noKw hD
  obtain ⟨a, vs, ns, rfl, rfl, hobj, hints, hlen⟩ := script_of hn hpre hwl
  refine enter_callW ?_
  refine call_cells_ret (o := o) (by rw [depth_caller]; decide) ho (fd_plain hd) G.T.nolimit hcd (hbind pm cd doc (.ref a)) (fun y hy => ?_) (fun h₁ tk F X => ?_) hco hgen hk
  · obtain rfl : y = (x, Value.ref a) := List.mem_singleton.mp hy
    rcases hx with e | e
    · exact .inl e
    · exact .inr ⟨e, cellsFrom_some _ _ _ (.inl e)⟩
  · refine wpAny_mono (body w s₀ s₁ { s₁ with heap := h₁, toks := tk } mg mb fa o pm cd doc a vs ns G Y ho (fd_plain hd) hcd hmg hobj hints hlen hg rfl F X) (fun f s' hq => ?_) (fun _ _ hq => hq)
    obtain ⟨rfl, h2, h3, h4⟩ := hq
    exact ⟨.inl ⟨.bool true, .bool true, [], rfl, fun _ => rfl, .bool true, post_true l _, fun _ => ⟨List.Pairwise.nil, fun _ hm => (nomatch hm)⟩⟩, h2, h3, h4⟩

/-! ### rules over ANY heap (no ledger) from facts about the written part K: the library's own take a ledger (News) for what they write -/
section
variable {prog : Program} {w : World} {A : Around} {E : Value → Shared → Prop} {s : Shared} {K : Frag}

/-- a def of the module, or a method (qual 'C.m'), entered: the frame is the next address; cells behind it -/
theorem call_fn {R : Result → Shared → Prop} {name qual : Str} {params : Arguments} {body : List Stmt} {scope : Scope} {dV kV doc pm cdv ct oc : Value} {an od : Option Addr} {osl : Array (Option Value)} {f : Addr} {args : Args} {binds : List (Str × Value)}
    (X : K.In s.heap) (hlim : s.heap.NoLimit) (ho : K.lookup f = some ⟨oc, od, .func (fnOf name qual params body scope dV kV doc pm an cdv ct), osl⟩) (hcd : codeIn K cdv qual = true) (hroom : A.depth < recursionLimit)
    (hbind : BindsTo s (fnOf name qual params body scope dV kV doc pm an cdv ct) args binds)
    (hkind : (binds.all fun y => scope.names.lookup y.1 == some .local || scope.names.lookup y.1 == some .cell) = true)
    (h : ∀ s₁, InCallC s s.heap.objs.size (bindL (envOfC qual scope s.heap.objs.size f cdv).kindOf binds fun _ => none) (cellsFrom (s.heap.objs.size + 1) scope.names [])
        (bindC (envOfC qual scope s.heap.objs.size f cdv).kindOf binds fun _ => none) s₁ →
      wpAny (model prog w) (A.deeper (envOfC qual scope s.heap.objs.size f cdv)) (execs body (envOfC qual scope s.heap.objs.size f cdv))
        (fun fl s' => R (.ok (.ret (match fl with | .ret v => v | _ => .none))) s')
        (fun e s' => wpAny (model prog w) (A.deeper (envOfC qual scope s.heap.objs.size f cdv)) (leaving (envOfC qual scope s.heap.objs.size f cdv) e) (fun _ s'' => R (.error e) s'') (fun e' s'' => R (.error e') s'') s') s₁)
    (hco : scope.isCoroutine = false) (hgen : scope.isGenerator = false) (hk : scope.kind = .function) : codeAny (model prog w) A (.call (.ref f) args) R s := by
  refine codeAny_call_function hroom (X _ _ ho) rfl hco hgen rfl (codeRec_of X hcd) (hbind _ _ _ _ ?_)
  refine wpAny_newFunctionEnv_cells hk (kindsX hkind _) fun env he s₁ x => ?_
  subst he
  exact ⟨hlim.keeps x.toInCall.keep, codeAny_func (h s₁ x)⟩

/-- C(..): dict at size, instance at size + 1, then __init__ -/
theorem make_obj {R : Result → Shared → Prop} {C fI : Addr} {rest : List Value} {kw : List (Str × Value)}
    (X : K.In s.heap) (hm : makesIn K C = true) (hi : findIn K (.ref C) "__init__" = some (some (.ref fI))) (hf : isFn K (.ref fI) = true)
    (h : codeAny (model prog w) (A.under (.builtin "type.__call__" ⟨.ref C :: rest, kw⟩)) (.call (.ref fI) ⟨.ref (s.heap.objs.size + 1) :: rest, kw⟩) (InitBack (s.heap.objs.size + 1) R)
      { s with heap := (s.heap.push emptyDict).push (instObj C s.heap.objs.size) }) : codeAny (model prog w) A (.call (.ref C) ⟨rest, kw⟩) R s := by
  obtain ⟨hh, g, d, t, os⟩ := s
  exact make_core (makes_of X hm) (looks_findIn X hi) (fun self => bind_fn X self (beq_iff_eq.mp hf)) (.inl rfl) h

/-- x.name where the instance's dict holds the name and the class does not -/
theorem get_field {x C : Addr} {ox : Obj} {es : List DictEntry} {n : Nat} {name : Str} {expr : Bool} {v : Value} {Q : Value → Shared → Prop}
    (X : K.In s.heap) (I : PySem.W.InstAt s.heap x ox C (some (dictOf es n))) (hg : plainGet K C name = true) (hh : hasDictIn K C = true) (ha : findIn K (.ref C) name = some none)
    (hl : getL name es = some (some v)) (hv : handedIn v = true) (h : Q v { s with toks := s.toks + 1 }) : wpAny (model prog w) A (getAttr (.ref x) name expr) Q E s :=
  get_value X I (plainGet_of hg).1 (findObj_own hh ha rfl hl) hv h

/-- x.m(..): the method found in the class -/
theorem get_method {x C f : Addr} {ox : Obj} {es : List DictEntry} {n : Nat} {name : Str} {pl : Sem Bool} {Q : Value × List Value → Shared → Prop}
    (X : K.In s.heap) (I : PySem.W.InstAt s.heap x ox C (some (dictOf es n))) (hg : plainGet K C name = true) (hf : findIn K (.ref C) name = some (some (.ref f))) (ht : isFn K (.ref f) = true)
    (hl : getL name es = some none) (h : Q (.ref f, [.ref x]) s) : wpAny (model prog w) A (getMethod (.ref x) name pl) Q E s :=
  method_fn X I (plainGet_of hg).1 (plainGet_of hg).2 hf (beq_iff_eq.mp ht) (by show (lookIn name (dictOf es n)).map _ = _; rw [lookIn_dict, hl]; rfl) h

/-! the whole heap as the ledger: makes every rule that writes through a ledger a rule over any heap -/
def noObjs (h : Heap) : Heap := { h with objs := #[] }
theorem noObjs_get (h : Heap) (b : Addr) : (noObjs h).get? b = none := by
  cases e : (noObjs h).get? b with
  | none => rfl
  | some o => exact absurd (Heap.lt_size e) (Nat.not_lt_zero _)
def ledger (h : Heap) (L d : Addr) : List (Addr × Obj) := (List.range h.objs.size).filterMap fun a => if a = L ∨ a = d then none else (h.get? a).map fun o => (a, o)
theorem mem_ledger {h : Heap} {L d a : Addr} {o : Obj} : (a, o) ∈ ledger h L d ↔ a ≠ L ∧ a ≠ d ∧ h.get? a = some o := by
  unfold ledger
  rw [List.mem_filterMap]
  constructor
  · rintro ⟨b, _, e⟩
    split at e
    · cases e
    · rename_i hb
      obtain ⟨o', ho, e'⟩ := Option.map_eq_some_iff.mp e
      cases e'
      exact ⟨fun q => hb (.inl q), fun q => hb (.inr q), ho⟩
  · rintro ⟨n1, n2, ho⟩
    refine ⟨a, List.mem_range.mpr (Heap.lt_size ho), ?_⟩
    rw [if_neg (show ¬ (a = L ∨ a = d) from fun q => q.elim n1 n2), ho] <;> rfl
theorem news_ledger {h : Heap} {L d : Addr} {od : Obj} (hne : d ≠ L) (ho : h.get? d = some od) : News (noObjs h) L h ([] ++ (d, od) :: ledger h L d) := by
  rintro ⟨a, o⟩ hp
  rcases List.mem_cons.mp hp with e | hp
  · cases e
    exact ⟨ho, hne, noObjs_get _ _⟩
  · obtain ⟨n1, n2, e⟩ := mem_ledger.mp hp
    exact ⟨e, n1, noObjs_get _ _⟩
theorem fr_all {h : Heap} {L : Addr} {m : Str → Option Value} (n : h.Ns L m) : Fr (noObjs h) L h m :=
  ⟨n, fun b o e => (by rw [noObjs_get] at e; cases e), Nat.zero_le _⟩
/-- Upd of the head entry (for append_K, setItem_K ..) -/
theorem upd_ledger {h : Heap} {L d : Addr} {o o' : Obj} : Upd d o o' ((d, o) :: ledger h L d) ((d, o') :: ledger h L d) :=
  .head fun ⟨_, _⟩ hp => (mem_ledger.mp hp).2.1

/-- x.name = v over any heap: L is any namespace of the heap (the frame's, say): its map stays, its object is not told; all else but the dict stays -/
theorem set_field {x C dx L : Addr} {ox : Obj} {m : Str → Option Value} {es es' : List DictEntry} {n n' : Nat} {name : Str} {v : Value} {Q : Unit → Shared → Prop}
    (X : K.In s.heap) (I : PySem.W.InstAt s.heap x ox C (some (dictOf es n))) (hd : ox.dict = some dx) (hL : s.heap.Ns L m) (hne : dx ≠ L)
    (hs : findIn K (.ref C) "__setattr__" = some (some (.builtin "object.__setattr__"))) (hp : plainOver K C = true) (ht : takerIn K C name = some none) (hh : hasDictIn K C = true) (hl : (getL name es).isSome = true)
    (e : (putL name (PyData.keyHash w.params name) (.str name (s.toks + 1)) v es, putN name es n) = (es', n')) (hz : es'.length ≤ 1000)
    (h : ∀ h' : Heap, h'.Ns L m → h'.get? dx = some (dictOf es' n') → (∀ b o, b ≠ dx → b ≠ L → s.heap.get? b = some o → h'.get? b = some o) → Q () { s with heap := h', toks := s.toks + 2 }) :
    wpAny (model prog w) A (setAttr (.ref x) name v) Q E s := by
  obtain ⟨e1, e2⟩ := Prod.mk.inj e
  have hdx : s.heap.get? dx = some (dictOf es n) := by
    have := I.dict
    rw [hd] at this
    exact this
  refine set_plain X I hs (osa_dict (s := { s with toks := s.toks + 1 }) (h₀ := noObjs s.heap) (L := L) (m := m) (od := dictOf es n) (od' := dictOf es' n') (es := es') (n := n') (pre := []) (post := ledger s.heap L dx)
    (fr_all hL) (news_ledger hne hdx) X I hd hp ht hh hl (fun _ q => nomatch q) (fun ⟨_, _⟩ q => (mem_ledger.mp q).2.1) (by rw [putName_dict, e1, e2]) rfl hz fun h' F' N' => ?_)
  exact h h' F'.ns (N'.get (List.Mem.head _)) fun b o n1 n2 ho => N'.get (List.Mem.tail _ (mem_ledger.mpr ⟨n2, n1, ho⟩))
end
end Att

namespace L2
open PySem PySem.Spec PyProof.Rows

theorem vals_ints : ∀ {vs : List Value} {ns : List Int}, IntsAre vs ns → Vals (ns.map V.int) vs
  | _, _, .nil => .nil
  | _, _, .cons n t h => .cons ⟨t, rfl⟩ (vals_ints h)

/-- nothing is tracked but the script, known to the object (or it is an object of the module) -/
def Only (H : Hp) : Prop := ∀ b, H b = none ∨ ∃ o xs, H b = some (.frz o (.lst xs))

/-- THE HEAD: the law's promise, at the heap behind the top. F, the promise of the law's def, may use that base is part of the heap (so K.In base, base.Ns mainGlobals mg stand in Mod) -/
theorem law_call {P : Program} {w : World} {K : PySem.W.Frag} {mg mb : Str → Option Value} {CX : CXT} {k : Nat} {fa a : Addr} {fd : FuncData} {x : Str} {sp : Sp} {s₁ : Shared} {vs : List Value} {ns : List Int}
    (KX : K.In s₁.heap) (hns : s₁.heap.Ns mainGlobals mg) (hb : s₁.heap.Ns builtinsNs mb) (hbb : ∀ x : Str, x ≠ "__name__" → mb x = bootBuiltins x) (hlim : s₁.heap.NoLimit) (hg : s₁.gens = #[])
    (ha : s₁.heap.get? a = some { cls := .type "list", data := .seq vs.toArray }) (hi : IntsAre vs ns) (hl : ns.length ≤ sizeLine) (hr : Room k callerA)
    (F : ∀ base : Heap, K.In base → base.Ns mainGlobals mg → FnOk P w K mg base CX k fa fd [x] sp) (hbind : ∀ (s : Shared) (u : Value), BindsTo s fd ⟨[u], []⟩ [(x, u)])
    (hsp : ∀ H : Hp, Only H → SqL K H a (ns.map V.int) → sp [.ref a] H (fun v _ => v = .bl true) fun _ _ _ => False)
    (hCX : ∀ H e s', CX [] H s₁ (fun _ _ _ => False) e s' → False) :
    codeAny (model P w) callerA (.call (.ref fa) ⟨[.ref a], []⟩) (fun r s' => r = .ok (.ret (.bool true)) ∧ OldK s₁.heap s'.heap ∧ s'.os = s₁.os ∧ AllBare s'.gens) s₁ := by
  have rv := vals_ints hi
  have lenV := hi.length
  -- from an abstract heap in which nothing but the script may be tracked
  have core : ∀ H : Hp, Only H → SqL K H a (ns.map V.int) → HOk P w H s₁.heap → (∀ b, H b ≠ none → b = a) → (H a ≠ none → K.lookup a = none) →
      codeAny (model P w) callerA (.call (.ref fa) ⟨[.ref a], []⟩) (fun r s' => r = .ok (.ret (.bool true)) ∧ OldK s₁.heap s'.heap ∧ s'.os = s₁.os ∧ AllBare s'.gens) s₁ := by
    intro H hO hS hok hA hK
    have base_of : ∀ {b : Addr} {o : Obj}, s₁.heap.get? b = some o → H b = none → (hidT s₁.heap H).get? b = some o := fun e n => hidT_get e n
    have noA : ∀ {b : Addr} {o : Obj} {es : Array DictEntry} {ep : Nat}, s₁.heap.get? b = some o → o.data = .dict es ep → H b = none := fun {b o es ep} e d => by
      cases q : H b with
      | none => rfl
      | some u =>
        have e' : b = a := hA b (by rw [q]; simp)
        subst e'
        rw [ha] at e; cases e
        have d' : Data.seq vs.toArray _ = Data.dict es ep := d
        cases d'
    have nsK : ∀ {b : Addr} {m : Str → Option Value}, s₁.heap.Ns b m → (hidT s₁.heap H).Ns b m := fun {b m} ⟨o, es, ep, e, d, r⟩ => ⟨o, es, ep, base_of e (noA e d), d, r⟩
    have hKb : K.In (hidT s₁.heap H) := fun b o e => base_of (KX b o e) (by
      cases q : H b with
      | none => rfl
      | some u =>
        have e' : b = a := hA b (by rw [q]; simp)
        subst e'
        rw [hK (by rw [q]; simp)] at e; cases e)
    have hM : Mod K mg (hidT s₁.heap H) := ⟨hKb, nsK hns, ⟨mb, nsK hb, hbb⟩, let ⟨mc, h1, h2⟩ := hlim; ⟨mc, nsK h1, h2⟩⟩
    have e0 : Env0 P w K mg (hidT s₁.heap H) callerA [] s₁ H := ⟨rfl, hM, fun b o e => of_hidT e, Nat.le_of_eq (hidT_size _ _), trivial, fun b hb => absurd (show b ∈ ([] : List Addr) from hb) (by simp), hok, .of_eq hg⟩
    refine codeAny_mono ((F _ hKb (nsK hns)).run callerA [] s₁ H ⟨[.ref a], []⟩ [.ref a] [.ref a] _ _ hr e0 (hbind s₁ (.ref a)) (.cons rfl .nil) (hsp H hO hS)) fun r s' h => ?_
    cases r with
    | error e => exact (hCX H e s' h).elim
    | ok fl =>
      cases fl with
      | next => exact False.elim h
      | brk => exact False.elim h
      | cont => exact False.elim h
      | ret u =>
        obtain ⟨v, H', os, bare, un, hok', r', q⟩ := h
        have q' : v = .bl true := q
        subst q'
        obtain rfl : u = Value.bool true := r'
        refine ⟨rfl, OldK.of_keep fun b o e => ?_, os, bare⟩
        cases q : H b with
        | none => exact un.keep b o e q (by intro z; exact absurd (show b ∈ ([] : List Addr) from z) (by simp)) (by simp)
        | some u =>
          rcases hO b with z | ⟨ob, xs, z⟩
          · rw [q] at z; cases z
          · have z2 := un.frzs b ob _ z
            obtain ⟨e1, _⟩ := hok b _ z
            obtain ⟨e2, _⟩ := hok' b _ z2
            rw [e] at e1; cases e1
            exact e2
  cases hk : K.lookup a with
  | some o =>
    -- the script is one of the module's own objects
    have e := KX a o hk
    rw [ha] at e
    cases e
    refine core (fun _ => none) (fun _ => .inl rfl) (.inr ⟨_, vs.toArray, _, hk, rfl, rfl, rfl, by rw [List.size_toArray, lenV]; exact hl, by simpa using rv⟩) (fun b u z => by have z' : (none : Option HO) = some u := z; cases z') (fun b z => absurd rfl z) fun z => absurd rfl z
  | none =>
    refine core (fun b => if b = a then some (.frz { cls := .type "list", data := .seq vs.toArray } (.lst (ns.map V.int))) else none) (fun b => ?_) (.inl (.inr ⟨{ cls := .type "list", data := .seq vs.toArray }, if_pos rfl⟩)) (fun b u z => ?_) (fun b z => ?_) fun _ => hk
    · by_cases hb : b = a
      · exact .inr ⟨_, _, if_pos hb⟩
      · exact .inl (if_neg hb)
    · by_cases hb : b = a
      · have z' := (if_pos hb).symm.trans z
        cases z'
        subst hb
        exact ⟨ha, by rw [List.length_map]; exact hl, vs, _, rv, ha⟩
      · have z' := (if_neg hb).symm.trans z
        cases z'
    · by_cases hb : b = a
      · exact hb
      · exact absurd (if_neg hb) z
end L2

namespace L2
open PySem PySem.Spec PyProof.Rows

abbrev KOf {K : PySem.W.Frag} {h : Heap} (_ : K.In h) : PySem.W.Frag := K

/-- the goal that k_head leaves (case hc), from the law's promise. F gives the function object fd (K's own) once, then the promise over every base -/
theorem walk_of {l : PySem.W.OpenLaw} {n k : Nat} {q : Program} {loose : List Str} {XP : (Str → Option Value) → Heap → Prop} {YP : World → Heap → Prop} {d : DefRec} {K : Params → PySem.W.Frag} {CX : World → CXT} {sp : World → Sp} {x : Str}
    (hn : l.most = some n) (hn2 : n ≤ sizeLine) (hdf : d.params.defaults = []) (hr : Room k callerA)
    (hY : ∀ (w : World) (h : Heap), YP w h → (K w.params).In h)
    (F : ∀ (w : World) (mg : Str → Option Value) (fa : Addr) (h : Heap), (K w.params).In h → h.Ns mainGlobals mg → mg d.name = some (.ref fa) →
      ∃ fd : FuncData, (∀ (s : Shared) (u : Value), BindsTo s fd ⟨[u], []⟩ [(x, u)]) ∧
        ∀ base : Heap, (K w.params).In base → base.Ns mainGlobals mg → FnOk l.prog w (K w.params) mg base (CX w) k fa fd [x] (sp w))
    (hsp : ∀ (w : World) (H : Hp) (a : Addr) (ns : List Int), ns.length ≤ n → Only H → SqL (K w.params) H a (ns.map V.int) → sp w [.ref a] H (fun v _ => v = .bl true) fun _ _ _ => False)
    (hCX : ∀ (w : World) (H : Hp) (s : Shared) (e : Value) (s' : Shared), CX w [] H s (fun _ _ _ => False) e s' → False) :
    PySem.W.WalkO q loose XP YP l.row.toRowW d [] (fun f vs => PySem.call f vs) := by
  refine Att.attach_call hn hdf fun w s₀ s₁ mg mb fa o pm cd doc a vs ns G Y ho hd hcd hmg hobj hints hlen hg => ?_
  have KX := hY w _ Y
  obtain ⟨fd, hb, hF⟩ := F w mg fa _ KX G.T.g hmg
  exact law_call KX G.T.g G.T.b G.T.builtins G.T.nolimit hg hobj hints (Nat.le_trans hlen hn2) hr hF hb (fun H hO hS => hsp w H a ns hlen hO hS) fun H e s' => hCX w H s₁ e s'
/-- the same where the promise hangs on the written part alone: (sp := My.sp_law), no hole under a binder -/
theorem walk_ofK {l : PySem.W.OpenLaw} {n k : Nat} {q : Program} {loose : List Str} {XP : (Str → Option Value) → Heap → Prop} {YP : World → Heap → Prop} {d : DefRec} {K : Params → PySem.W.Frag} {CX : CXT} {sp : PySem.W.Frag → Sp} {x : Str}
    (hn : l.most = some n) (hn2 : n ≤ sizeLine) (hdf : d.params.defaults = []) (hr : Room k callerA)
    (hY : ∀ (w : World) (h : Heap), YP w h → (K w.params).In h)
    (F : ∀ (w : World) (mg : Str → Option Value) (fa : Addr) (h : Heap), (K w.params).In h → h.Ns mainGlobals mg → mg d.name = some (.ref fa) →
      ∃ fd : FuncData, (∀ (s : Shared) (u : Value), BindsTo s fd ⟨[u], []⟩ [(x, u)]) ∧
        ∀ base : Heap, (K w.params).In base → base.Ns mainGlobals mg → FnOk l.prog w (K w.params) mg base CX k fa fd [x] (sp (K w.params)))
    (hsp : ∀ (K : PySem.W.Frag) (H : Hp) (a : Addr) (ns : List Int), ns.length ≤ n → Only H → SqL K H a (ns.map V.int) → sp K [.ref a] H (fun v _ => v = .bl true) fun _ _ _ => False)
    (hCX : ∀ (H : Hp) (s : Shared) (e : Value) (s' : Shared), CX [] H s (fun _ _ _ => False) e s' → False) :
    PySem.W.WalkO q loose XP YP l.row.toRowW d [] (fun f vs => PySem.call f vs) :=
  walk_of (K := K) (CX := fun _ => CX) (sp := fun w => sp (K w.params)) hn hn2 hdf hr hY F (fun w H a ns h1 h2 h3 => hsp (K w.params) H a ns h1 h2 h3) fun _ H s e s' => hCX H s e s'
end L2

/- THE LAST THEOREM (shape; LID, My.* are yours):
   My.Adr: a structure of the addresses that your layer names (classes, functions); My.Txt K t: a structure (Prop) of the equations over K;
   My.txt_mk : {K} {implicit addresses ..} (e1 : nsIn K mainGlobals "law" = some (some (.ref f))) (e2 : K.lookup f = some ⟨oc, od, .func (fnOf "law" "law" params body scope dV kV doc pm an cdv ct), sl⟩) (e3 : codeIn K cdv "law" = true) .. : ∃ t, My.Txt K t

set_option maxRecDepth 100000 in
set_option maxHeartbeats 0 in
theorem PySem.Challenge.cw_LID_holds : PySem.Challenge.rw_LID.Holds := by
  w_on; o_law; k_head; (case hw => w_witness2)
  k_fill
  refine L2.walk_of (l := PySem.Challenge.rw_LID) (n := 63) (k := 40) (x := "script") (CX := fun w => ..) (sp := fun _ => My.sp_law) rfl (by decide) rfl ⟨rfl, by decide, by decide⟩ (fun w h Y => PySem.W.kIn_of Y) ?F ?S ?C
  case F =>
    intro w mg fa h KX G hmg
    have T : ∃ t, My.Txt (L2.KOf KX) t := by
      dsimp only [L2.KOf]                          -- K must stand as «<heap const> w.params» for k_is
      refine' My.txt_mk ?e1 ?e2 ?e3 ..
      (case e1 => PySem.W.k_is)                    -- in the order: a name -> its address -> its object -> its parts
      (case e2 => PySem.W.k_is)
      ..
    obtain ⟨t, T⟩ := T
    have e0 := hmg.symm.trans (PySem.W.mg_of KX G T.law)
    cases e0                                       -- fa is the law's own address
    exact ⟨_, fun s u => .of_eq rfl, fun base kb nb => My.law_fn T kb nb⟩     -- if «.of_eq rfl» comes too early: refine' ⟨_, ?b, fun base kb nb => My.law_fn T kb nb⟩; exact fun s u => .of_eq rfl
  case S => exact fun w H a ns hl hO hS => ..
  case C => exact ..
(the tactic k_is has no namespace: write k_is) -/

/-! SHORT WORDS over the layer: a def of the text, its body, what a loop and a test want. -/
namespace L2
open PySem PySem.Spec PyProof.Rows

/-! ### the text by places -/
/-- the j-th statement of a class's body -/
def inClass (s : Stmt) (j : Nat) : Stmt := match s with
  | .ClassDef _ _ _ body _ _ _ _ _ _ _ => body.getD j (.Pass ⟨0, 0, 0, 0⟩)
  | _ => .Pass ⟨0, 0, 0, 0⟩
def defArgs (s : Stmt) : Arguments := match s with
  | .FunctionDef _ a _ _ _ _ _ _ _ _ => a
  | _ => { posonlyargs := [], args := [], vararg := none, kwonlyargs := [], kw_defaults := [], kwarg := none, defaults := [] }
def defBody (s : Stmt) : List Stmt := match s with
  | .FunctionDef _ _ b _ _ _ _ _ _ _ => b
  | _ => []
def defScope (s : Stmt) : Scope := match s with
  | .FunctionDef _ _ _ _ _ _ sc _ _ _ => sc
  | _ => { kind := .function, names := [], isGenerator := false, isCoroutine := false }

/-! ### no exception leaves a def -/
abbrev CX0 : CXT := fun _ _ _ _ _ _ => False
abbrev E0 : XK := fun _ _ _ => False
theorem pass0 {X : Cx} : Passes CX0 X E0 := fun _ _ _ _ _ _ _ h => h.elim

/-! ### a def (or method) of the text as it stands behind the top -/
structure Fun (K : PySem.W.Frag) (x qual : Str) (st : Stmt) (f : Addr) (fd : FuncData) : Prop where
  ex : ∃ (oc : Value) (od : Option Addr) (kV doc pm : Value) (an : Option Addr) (cdv ct : Value) (osl : Array (Option Value)),
    fd = PySem.W.fnOf x qual (defArgs st) (defBody st) (defScope st) .none kV doc pm an cdv ct ∧ K.lookup f = some ⟨oc, od, .func fd, osl⟩ ∧ PySem.W.codeIn K cdv qual = true
  kp : PySem.W.keepIn K (.ref f) = true
section
variable {P : Program} {w : World} {K : PySem.W.Frag} {mg : Str → Option Value} {base : Heap}
/-- THE RULE for a def: its body as a term of rules, and the reading of that term -/
theorem Fun.ok {x qual : Str} {st : Stmt} {f : Addr} {fd : FuncData} {N ps : List Str} {k : Nat} {sp : Sp} (F : Fun K x qual st f fd) (S : FnScope N ps (defScope st)) (len : ∀ vs H Q E, sp vs H Q E → vs.length = ps.length)
    (hbody : ∀ (cdv : Value) (A : Around) (outer : List Env) (s : Shared) (H : Hp) (vs : List V) (Q : VK) (E : XK), Room k (A.deeper (envOfC qual (defScope st) s.heap.objs.size f cdv)) → sp vs H Q E →
      ∃ t, PSs (cxOf CX0 P w K mg base N qual (defScope st) f cdv A outer s H E).nox (defBody st) t ∧ t { nx := fun _ H' => Q .non H', rt := Q } (start N vs) H) : FnOk P w K mg base CX0 (k + 1) f fd ps sp := by
  obtain ⟨oc, od, kV, doc, pm, an, cdv, ct, osl, rfl, lk, hcd⟩ := F.ex
  refine fn_of lk hcd S len fun A outer s H vs Q E hr hsp => ?_
  obtain ⟨t, h, q⟩ := hbody cdv A outer s H vs Q E hr hsp
  exact ⟨t, h.nox, q⟩
/-- how its arguments bind (no defaults): h is «fun _ _ _ _ _ _ us hl => match us, hl with | [_, _], _ => rfl», one _ a parameter -/
theorem Fun.binds {x qual : Str} {st : Stmt} {f : Addr} {fd : FuncData} {ps : List Str} (F : Fun K x qual st f fd)
    (h : ∀ (kV doc pm : Value) (an : Option Addr) (cdv ct : Value) (us : List Value), us.length = ps.length → bindArgs (PySem.W.fnOf x qual (defArgs st) (defBody st) (defScope st) .none kV doc pm an cdv ct) ⟨us, []⟩ = pure (ps.zip us)) : Binds K fd ps [] := by
  obtain ⟨oc, od, kV, doc, pm, an, cdv, ct, osl, rfl, lk, hcd⟩ := F.ex
  exact .all (h kV doc pm an cdv ct)
theorem fun_mk {x qual : Str} {st : Stmt} {f : Addr} {oc : Value} {od an : Option Addr} {osl : Array (Option Value)} {kV doc pm cdv ct : Value} (l : K.lookup f = some ⟨oc, od, .func (PySem.W.fnOf x qual (defArgs st) (defBody st) (defScope st) .none kV doc pm an cdv ct), osl⟩)
    (c : PySem.W.codeIn K cdv qual = true) (k : PySem.W.keepIn K (.ref f) = true) : Fun K x qual st f (PySem.W.fnOf x qual (defArgs st) (defBody st) (defScope st) .none kV doc pm an cdv ct) := ⟨⟨oc, od, kV, doc, pm, an, cdv, ct, osl, rfl, l, c⟩, k⟩
end
theorem hu_of {A : Around} {k : Nat} (hr : Room k A) : A.units + 1 < cLine := Nat.lt_of_le_of_lt (Nat.add_le_add_left (by decide : 1 ≤ 64) _) hr.units
theorem small1000 {n : Nat} (h : n ≤ 1000) : n < sizeLine := Nat.lt_of_le_of_lt h (by decide)

/-! ### expressions in short: the name that stands in the i-th slot -/
section
variable {X : Cx}
theorem pv (i : Nat) {x : Str} {pos : Pos} (hN : X.N[i]? = some x := by rfl) (hv : Vis X.env.scope x := by first | exact Or.inl rfl | exact Or.inr (Or.inl rfl) | exact Or.inr (Or.inr rfl)) (hd : (x == ("__debug__" : Str)) = false := by decide)
    (hcd : (x == ("__classdict__" : Str)) = false := by decide) : PE X (.Name x pos) (tVar i) := pe_var hN hv hd hcd
end

/-! ### tests -/
theorem iteF {A B : Prop} (h : B) : if false = true then A else B := by
  rw [if_neg Bool.false_ne_true]
  exact h
theorem iteT {A B : Prop} (h : A) : if true = true then A else B := by
  rw [if_pos rfl]
  exact h
theorem ite2 {c A B : Prop} [Decidable c] (h1 : c → A) (h2 : ¬ c → B) : if c then A else B := by
  by_cases h : c
  · rw [if_pos h]
    exact h1 h
  · rw [if_neg h]
    exact h2 h
theorem iteNS {c A B : Prop} [Decidable c] (hc : c) (h : B) : if (!decide c) = true then A else B := by
  rw [decide_eq_true hc]
  exact iteF h

/-! ### heaps -/
/-- all that was tracked is as it was -/
def Same (H H' : Hp) : Prop := ∀ b o, H b = some o → H' b = some o
theorem Same.refl (H : Hp) : Same H H := fun _ _ h => h
theorem Same.trans {H H1 H2 : Hp} (a : Same H H1) (b : Same H1 H2) : Same H H2 := fun c o h => b c o (a c o h)
theorem Same.free {H H' : Hp} (e : Same H H') {l : Addr} (h : H' l = Option.none) : H l = Option.none := by
  cases q : H l with
  | none => rfl
  | some o =>
    rw [e l o q] at h
    cases h
theorem Same.seq {K : PySem.W.Frag} {H H' : Hp} {a : Addr} {xs : List V} (e : Same H H') (h : SqL K H a xs) : SqL K H' a xs := by
  rcases h with (h | ⟨o, h⟩) | h
  · exact .inl (.inl (e _ _ h))
  · exact .inl (.inr ⟨o, e _ _ h⟩)
  · exact .inr h

section
variable {X : Cx}
/-- len of a dict -/
theorem call_lenD : CallR X (.builtin "len") (fun xs H Q => ∃ a kvs, xs = [V.ref a] ∧ H a = some (.dK kvs) ∧ Q (.int kvs.length) H) := by
  intro pins s σ H xs us Q I r h
  obtain ⟨a, kvs, rfl, ha, q⟩ := h
  obtain ⟨u, rfl, ru⟩ := vals1 r
  cases ru
  exact d_len I (.inl ha) fun t s' I' => ⟨.int kvs.length, H, I', ⟨t, rfl⟩, q⟩
end
/-! ### a dict's pairs: keys that differ -/
section
variable {κ : Type} [DecidableEq κ]
theorem valV_not {kvs : List (κ × V)} {k : κ} (h : valV kvs k = none) : ¬ k ∈ kvs.map (·.1) := by
  intro m
  obtain ⟨p, hp, e⟩ := List.mem_map.mp m
  have q : (kvs.any fun kv => decide (kv.1 = k)) = true := List.any_eq_true.mpr ⟨p, hp, decide_eq_true e⟩
  rw [valV_any, h] at q
  exact absurd q (by simp)
theorem valV_in {kvs : List (κ × V)} {k : κ} {v : V} (h : valV kvs k = some v) : k ∈ kvs.map (·.1) := by
  have q : (kvs.any fun kv => decide (kv.1 = k)) = true := by
    rw [valV_any, h]
    all_goals rfl
  obtain ⟨p, hp, e⟩ := List.any_eq_true.mp q
  exact List.mem_map.mpr ⟨p, hp, of_decide_eq_true e⟩
theorem nd_snoc : ∀ {l : List κ} {k : κ}, l.Nodup → ¬ k ∈ l → (l ++ [k]).Nodup
  | [], k, _, _ => by simp
  | a :: r, k, h, hk => by
    obtain ⟨h1, h2⟩ := List.nodup_cons.mp h
    show (a :: (r ++ [k])).Nodup
    refine List.nodup_cons.mpr ⟨fun m => ?_, nd_snoc h2 fun m => hk (List.mem_cons.mpr (Or.inr m))⟩
    rcases List.mem_append.mp m with q | q
    · exact h1 q
    · exact hk (List.mem_cons.mpr (Or.inl (List.mem_singleton.mp q).symm))
theorem nd_putK {kvs : List (κ × V)} {k : κ} (v : V) (hn : (kvs.map (·.1)).Nodup) (h : valV kvs k = none) : ((putK kvs k v).map (·.1)).Nodup := by
  rw [putK_new v h, List.map_append]
  exact nd_snoc hn (valV_not h)
theorem dropK_pos {p : κ × V} {r : List (κ × V)} {k : κ} (e : p.1 = k) : dropK (p :: r) k = dropK r k := by
  unfold dropK
  rw [List.filter_cons, if_neg (by simp [e])]
theorem dropK_neg {p : κ × V} {r : List (κ × V)} {k : κ} (e : ¬ p.1 = k) : dropK (p :: r) k = p :: dropK r k := by
  unfold dropK
  rw [List.filter_cons, if_pos (by simp [e])]
theorem dropK_no : ∀ {kvs : List (κ × V)} {k : κ}, ¬ k ∈ kvs.map (·.1) → dropK kvs k = kvs
  | [], _, _ => rfl
  | p :: r, k, h => by
    have h' : ¬ k ∈ r.map (·.1) := fun m => by
      obtain ⟨q, hq, e⟩ := List.mem_map.mp m
      exact h (List.mem_map.mpr ⟨q, List.mem_cons.mpr (Or.inr hq), e⟩)
    rw [dropK_neg fun e => h (List.mem_map.mpr ⟨p, List.mem_cons.mpr (Or.inl rfl), e⟩), dropK_no h']
theorem dropK_mem {kvs : List (κ × V)} {k : κ} {p : κ × V} (h : p ∈ dropK kvs k) : p ∈ kvs := (List.mem_filter.mp h).1
theorem nd_dropK : ∀ {kvs : List (κ × V)} {k : κ}, (kvs.map (·.1)).Nodup → ((dropK kvs k).map (·.1)).Nodup
  | [], _, _ => List.nodup_nil
  | p :: r, k, h => by
    have h : (p.1 :: r.map (·.1)).Nodup := h
    obtain ⟨h1, h2⟩ := List.nodup_cons.mp h
    by_cases e : p.1 = k
    · rw [dropK_pos e]
      exact nd_dropK h2
    · rw [dropK_neg e]
      show (p.1 :: (dropK r k).map (·.1)).Nodup
      refine List.nodup_cons.mpr ⟨fun m => h1 ?_, nd_dropK h2⟩
      obtain ⟨q, hq, eq⟩ := List.mem_map.mp m
      exact List.mem_map.mpr ⟨q, dropK_mem hq, eq⟩
theorem dropK_len : ∀ {kvs : List (κ × V)} {k : κ}, (kvs.map (·.1)).Nodup → k ∈ kvs.map (·.1) → (dropK kvs k).length + 1 = kvs.length
  | [], _, _, m => by simp at m
  | p :: r, k, h, m => by
    have h : (p.1 :: r.map (·.1)).Nodup := h
    have m : k = p.1 ∨ k ∈ r.map (·.1) := List.mem_cons.mp m
    obtain ⟨h1, h2⟩ := List.nodup_cons.mp h
    by_cases e : p.1 = k
    · subst e
      rw [dropK_pos rfl, dropK_no h1]
      all_goals rfl
    · have m' : k ∈ r.map (·.1) := m.resolve_left fun z => e z.symm
      have q := dropK_len h2 m'
      rw [dropK_neg e, List.length_cons, List.length_cons]
      omega
end
end L2

namespace L2
open PySem PySem.Spec PyProof.Rows

/-! ### texts as lists of codes -/
abbrev ts (x : Str) : List Nat := x.cps.toList
abbrev tx (l : List Nat) : Str := ⟨l.toArray⟩
theorem ts_tx (l : List Nat) : ts (tx l) = l := rfl
theorem tx_ts (x : Str) : tx (ts x) = x := by cases x; simp [tx, ts]
theorem ts_len (x : Str) : x.length = (ts x).length := by simp [Str.length, ts]
theorem tx_len (l : List Nat) : (tx l).length = l.length := by simp [Str.length, tx]
theorem str_ext {x y : Str} (h : ts x = ts y) : x = y := by rw [← tx_ts x, ← tx_ts y, h]
theorem app_tx (a b : List Nat) : tx a ++ tx b = tx (a ++ b) := by
  apply str_ext
  show (a.toArray ++ b.toArray).toList = a ++ b
  simp

theorem foldl_app (xs : Array Nat) : ∀ (k : Nat) (acc : Array Nat), ((List.replicate k xs).foldl (· ++ ·) acc).toList = acc.toList ++ (List.replicate k xs.toList).flatten
  | 0, acc => by simp
  | k + 1, acc => by
    rw [List.replicate_succ, List.foldl_cons, foldl_app xs k (acc ++ xs)]
    simp [List.replicate_succ]
theorem mul_tx (x : Str) (n : Int) : Txt.mul x n = tx (List.replicate n.toNat (ts x)).flatten := by
  apply str_ext
  rw [ts_tx]
  unfold Txt.mul
  by_cases h1 : n < 1
  · rw [if_pos h1]
    have e : n.toNat = 0 := by omega
    rw [e]; rfl
  · rw [if_neg h1]
    by_cases h2 : (n == 1 || x.length == 0) = true
    · rw [if_pos h2]
      rcases (Bool.or_eq_true _ _).mp h2 with h3 | h3
      · have e : n = 1 := by simpa using h3
        subst e; simp
      · have e : x.length = 0 := by simpa using h3
        rw [ts_len] at e
        have e2 : ts x = [] := List.eq_nil_of_length_eq_zero e
        show ts x = _
        rw [e2]; simp
    · rw [if_neg h2]
      show ((List.replicate n.toNat x.cps).foldl (· ++ ·) #[]).toList = _
      rw [foldl_app]; simp

section
variable {X : Cx}
def rMulS : R2 := fun x y H Q => ∃ z n, x = .str z ∧ y = .int n ∧ z.length ≤ 1000 ∧ -1000 ≤ n ∧ n ≤ 1000 ∧ Q (.str (tx (List.replicate n.toNat (ts z)).flatten)) H
theorem op_mul_str : OpR X (binaryOp .Mult) rMulS := by
  intro pins s σ H x y v u Q I rx ry h
  obtain ⟨z, n, rfl, rfl, hz, h0, h1, q⟩ := h
  obtain ⟨t, rfl⟩ := rx
  obtain ⟨t', rfl⟩ := ry
  refine SB.mul ⟨by rw [decide_eq_false (by omega), decide_eq_false (by omega)]; rfl, fun a _ b => ?_, fun a _ => ?_⟩ fun t' k => ⟨.str (Txt.mul z n), H, I.tok _, ⟨_, rfl⟩, by rw [mul_tx]; exact q⟩
  · have h2 : (9223372036854775 : Int) ≤ (2 ^ 63 - 1 : Int) / n := Int.le_ediv_of_mul_le (by omega) (by omega)
    omega
  · unfold PySem.Builtin.Str.tooLong
    have e : z.length * n.toNat ≤ 1000 * 1000 := Nat.mul_le_mul hz (by omega)
    exact decide_eq_false (by rw [sizeLine_eq]; omega)

/-! ### join with no sign between -/
theorem strsAre_of {ys : List Str} : ∀ {us : List Value}, Vals (ys.map V.str) us → StrsAre us ys := by
  induction ys with
  | nil => intro us r; rw [List.map_nil] at r; cases r; exact .nil
  | cons n ns ih =>
    intro us r
    rw [List.map_cons] at r
    cases r with
    | cons r1 r2 =>
      obtain ⟨t, e⟩ := r1
      subst e
      exact .cons n t (ih r2)
theorem glue_foldl (g : Str) : ∀ (ps : List Str) (acc : Array Nat), (ps.foldl (fun a p => a ++ g.cps ++ p.cps) acc).toList = acc.toList ++ (ps.map fun p => ts g ++ ts p).flatten
  | [], acc => by simp
  | p :: ps, acc => by
    rw [List.foldl_cons, glue_foldl g ps]
    simp
theorem join_nil (ys : List Str) : Txt.join (tx []) ys = tx (ys.map ts).flatten := by
  apply str_ext
  show ((ys.drop 1).foldl (fun acc p => acc ++ (tx []).cps ++ p.cps) (ys.headD Str.empty).cps).toList = _
  rw [glue_foldl]
  cases ys with
  | nil => rfl
  | cons y r =>
    show ts y ++ (List.map (fun p => ts (tx []) ++ ts p) r).flatten = ts y ++ (List.map ts r).flatten
    simp only [ts_tx, List.nil_append]
def rJoin (K : PySem.W.Frag) : V → List V → Hp → VK → Prop := fun x vs H Q => ∃ (p : Addr) (ys : List Str), x = .str (tx []) ∧ vs = [.ref p] ∧ SqL K H p (ys.map V.str) ∧ ((ys.map ts).flatten).length ≤ 100000 ∧ Q (.str (tx (ys.map ts).flatten)) H
theorem sum_len (ys : List Str) : (ys.map (·.length)).sum = ((ys.map ts).flatten).length := by
  induction ys with
  | nil => rfl
  | cons y r ih => rw [List.map_cons, List.sum_cons, ih, List.map_cons, List.flatten_cons, List.length_append, ts_len]
theorem mt_join : MtR X "str.join" (rJoin X.K) := by
  intro pins s σ H x vs v us Q I rx rv h
  obtain ⟨p, ys, rfl, rfl, hq, hz, q⟩ := h
  obtain ⟨t, rfl⟩ := rx
  obtain ⟨u, rfl, ru⟩ := rv.one
  cases ru
  obtain ⟨its, r, pl, _⟩ := I.list hq
  refine join_list (ys := ys) pl.isList (by simpa using strsAre_of r) ?_ fun t' k => ⟨.str (Txt.join (tx []) ys), H, I.tok _, ⟨_, rfl⟩, by rw [join_nil]; exact q⟩
  rw [sum_len, show (tx []).length = 0 from rfl, Nat.mul_zero]
  omega

/-! ### slices of texts -/
theorem idx_clip (a b n : Nat) : PySem.Builtin.Str.strSliceIndices (some (a : Int)) (some (b : Int)) 1 n = PySem.Builtin.Str.strSliceIndices (some ((min a n : Nat) : Int)) (some ((min b n : Nat) : Int)) 1 n := by
  have h1 : ¬ ((a : Int) < 0) := by omega
  have h2 : ¬ ((b : Int) < 0) := by omega
  have h3 : ¬ (((min a n : Nat) : Int) < 0) := by omega
  have h4 : ¬ (((min b n : Nat) : Int) < 0) := by omega
  have e1 : max (0 : Int) (min (a : Int) (n : Int)) = max (0 : Int) (min ((min a n : Nat) : Int) (n : Int)) := by omega
  have e2 : max (0 : Int) (min (b : Int) (n : Int)) = max (0 : Int) (min ((min b n : Nat) : Int) (n : Int)) := by omega
  unfold PySem.Builtin.Str.strSliceIndices
  simp only [h1, h2, h3, h4, if_false, show ((1 : Int) > 0) = True from by simp, if_true]
  rw [e1, e2]
theorem idx_none {a b n : Nat} (h : b < a) (hb : a ≤ n) : PySem.Builtin.Str.strSliceIndices (some (a : Int)) (some (b : Int)) 1 n = [] := by
  have h1 : ¬ ((a : Int) < 0) := by omega
  have h2 : ¬ ((b : Int) < 0) := by omega
  have e1 : max (0 : Int) (min (a : Int) (n : Int)) = a := by omega
  have e2 : max (0 : Int) (min (b : Int) (n : Int)) = b := by omega
  have h3 : ¬ ((a : Int) < (b : Int)) := by omega
  simp only [PySem.Builtin.Str.strSliceIndices, PySem.sliceRange, h1, h2, if_false, e1, e2, show ((1 : Int) > 0) = True from by simp, if_true, h3]
  rfl
theorem cut_min {α : Type} (l : List α) (a b : Nat) : (l.drop (min a l.length)).take (min b l.length - min a l.length) = (l.take b).drop a := by
  rw [List.drop_take]
  by_cases ha : a ≤ l.length
  · rw [Nat.min_eq_left ha]
    by_cases hb : b ≤ l.length
    · rw [Nat.min_eq_left hb]
    · rw [Nat.min_eq_right (by omega), List.take_of_length_le (by rw [List.length_drop]; omega), List.take_of_length_le (by rw [List.length_drop]; omega)]
  · have e1 : min a l.length = l.length := Nat.min_eq_right (by omega)
    rw [e1, List.drop_eq_nil_of_le (Nat.le_refl _), List.drop_eq_nil_of_le (as := l) (i := a) (by omega), List.take_nil, List.take_nil]
theorem slice_nat (x : Str) (a b : Nat) : Txt.slice x (some (a : Int)) (some (b : Int)) = tx (((ts x).take b).drop a) := by
  have hl : x.length = (ts x).length := ts_len x
  by_cases h : min a x.length ≤ min b x.length
  · have e := StrLaws.sliceText_nat x h (Nat.min_le_right _ _)
    have e2 : Txt.slice x (some (a : Int)) (some (b : Int)) = StrLaws.sliceText x (some ((min a x.length : Nat) : Int)) (some ((min b x.length : Nat) : Int)) := by
      unfold Txt.slice StrLaws.sliceText
      rw [idx_clip a b]
    rw [e2, e, hl, cut_min]
  · have h1 : min b x.length = b := by omega
    have h2 : b < a := by omega
    have e : PySem.Builtin.Str.strSliceIndices (some (a : Int)) (some (b : Int)) 1 x.length = [] := by
      rw [idx_clip a b, h1]
      exact idx_none (by omega) (Nat.min_le_right _ _)
    unfold Txt.slice
    rw [e, if_neg (by simp; omega)]
    apply str_ext
    rw [ts_tx, List.drop_eq_nil_of_le (by rw [List.length_take]; omega)]
    rfl
theorem slice_to (x : Str) (j : Nat) : Txt.slice x none (some (j : Int)) = tx ((ts x).take j) := by
  have e : Txt.slice x none (some (j : Int)) = Txt.slice x (some ((0 : Nat) : Int)) (some (j : Int)) := by
    unfold Txt.slice
    rw [StrLaws.sliceIdx_none_lo]; rfl
  rw [e, slice_nat, List.drop_zero]
theorem slice_from (x : Str) (i : Nat) : Txt.slice x (some (i : Int)) none = tx ((ts x).drop i) := by
  have e : Txt.slice x (some (i : Int)) none = Txt.slice x (some (i : Int)) (some (x.length : Int)) := by
    unfold Txt.slice
    rw [StrLaws.sliceIdx_none_hi]
  rw [e, slice_nat, List.take_of_length_le (by rw [← ts_len]; exact Nat.le_refl _)]
def rSlS : V → Option Int → Option Int → Hp → VK → Prop := fun x lo hi H Q => ∃ z, x = .str z ∧ z.length ≤ sizeLine ∧ Q (.str (Txt.slice z lo hi)) H
theorem sl_str : SlR X rSlS := by
  intro pins s σ H x v vl vu lo hi sl Q I rx hs pl pu h
  obtain ⟨z, rfl, hz, q⟩ := h
  obtain ⟨t, rfl⟩ := rx
  refine ⟨"str", _, F.slot_str_getitem.lookup, typeIs_str _ _ _, ?_⟩
  have fin : ∀ t' k, EP X pins σ Q (.str (Txt.slice z lo hi) t') { s with toks := k } := fun t' k => ⟨.str (Txt.slice z lo hi), H, I.tok _, ⟨_, rfl⟩, q⟩
  obtain ⟨o, ho, hc, hd⟩ := hs
  cases pl with
  | none =>
    cases pu with
    | none => exact wpAny_getItem_str_slice (l := none) (u := none) (st := none) ⟨o, ho, hc, hd⟩ rfl (post_val_or_str ⟨Nat.le_trans (Txt.slice_le z _ _) hz, fin⟩)
    | int j uj => exact wpAny_getItem_str_slice (l := none) (u := some (j, uj)) (st := none) ⟨o, ho, hc, hd⟩ rfl (post_val_or_str ⟨Nat.le_trans (Txt.slice_le z _ _) hz, fin⟩)
  | int i ui =>
    cases pu with
    | none => exact wpAny_getItem_str_slice (l := some (i, ui)) (u := none) (st := none) ⟨o, ho, hc, hd⟩ rfl (post_val_or_str ⟨Nat.le_trans (Txt.slice_le z _ _) hz, fin⟩)
    | int j uj => exact wpAny_getItem_str_slice (l := some (i, ui)) (u := some (j, uj)) (st := none) ⟨o, ho, hc, hd⟩ rfl (post_val_or_str ⟨Nat.le_trans (Txt.slice_le z _ _) hz, fin⟩)

/-! ### a sign in a text -/
def rInC (neg : Bool) : R2 := fun x y H Q => ∃ c j, x = .str (tx [c]) ∧ y = .str j ∧ Q (.bl (if neg then !decide (c ∈ ts j) else decide (c ∈ ts j))) H
theorem op_in_c : OpR X (compareOp .In) (rInC false) := by
  intro pins s σ H x y v u Q I rx ry h
  obtain ⟨c, j, rfl, rfl, q⟩ := h
  refine op_in_str pins s σ H _ _ v u Q I rx ry ⟨_, _, rfl, rfl, ?_⟩
  have e := StrLaws.found_one j c
  rw [show (tx [c] : Str) = ⟨#[c]⟩ from rfl, e]
  exact q
theorem op_notin_c : OpR X (compareOp .NotIn) (rInC true) := by
  intro pins s σ H x y v u Q I rx ry h
  obtain ⟨c, j, rfl, rfl, q⟩ := h
  refine op_notin_str pins s σ H _ _ v u Q I rx ry ⟨_, _, rfl, rfl, ?_⟩
  have e := StrLaws.found_one j c
  rw [show (tx [c] : Str) = ⟨#[c]⟩ from rfl, e]
  exact q

/-! ### a text, sign by sign -/
def Its (x : Str) : It := ⟨fun i _ => i < (ts x).length, fun i H y H' => H' = H ∧ ∃ c, (ts x)[i]? = some c ∧ y = .str (tx [c]), fun i _ => (ts x).length ≤ i⟩
theorem turn_str {P : Program} {w : World} {K : PySem.W.Frag} {tg : Expr} (x : Str) (t : Tok) (it : Addr) (ty : String) (hty : ty = "str_ascii_iterator" ∨ ty = "str_iterator") : Turn P w K tg (Its x) [it] it (fun i h => h.IsStrIter it ty x t i) where
  mem := by simp
  obj := fun i h st b hb => by
    have e : b = it := by simpa using hb
    subst e
    obtain ⟨o, e, c, d⟩ := st
    exact ⟨o, e, fun v z => by rw [d] at z; cases z⟩
  keep := fun i h h' st k => by
    obtain ⟨o, e, c, d⟩ := st
    exact ⟨o, k it (by simp) o e, c, d⟩
  item := by
    intro X hP hw hK hc i pins s σ H E I hf st hg
    subst hP hw hK
    obtain ⟨f0, f1, f2, f3, f4, f5⟩ := hf it (by simp)
    have hi : i < (ts x).length := hg
    have hx : x.cps[i]? = some (ts x)[i] := by
      rw [← Array.getElem?_toList]; simp [hi]
    have fin : ∀ h', h'.IsStrIter it ty x t (i + 1) → Heap.SameBut it s.heap h' → ∃ u, some (Value.str ⟨#[(ts x)[i]]⟩ s.toks) = some u ∧
        wpAny (model X.prog X.w) X.A (letOwnedTupleGo tg (.ref it) u) (fun _ s2 => ∃ x' H', Inv X pins σ H' s2 ∧ RelV x' u ∧ (Its x).yld i H x' H' ∧ s2.heap.IsStrIter it ty x t (i + 1) ∧ ∀ b ∈ [it], H' b = none) E { s with heap := h', toks := s.toks + 1 } := fun h' st' sb => by
      have I1 : Inv X pins σ H { s with heap := h', toks := s.toks + 1 } := I.turned (t' := s.toks + 1) (fun b o hb e => (sb.2 b hb).trans e) f0 f1 f3 f4 f5
      obtain ⟨o, e, c, d⟩ := id st'
      refine ⟨_, rfl, go_of (s := { s with heap := h', toks := s.toks + 1 }) e c d ?_ ⟨.str (tx [(ts x)[i]]), H, I1, ⟨_, rfl⟩, ⟨rfl, _, by simp [hi], rfl⟩, st', fun b hb => (hf b hb).1⟩⟩
      rcases hty with z | z <;> (rw [z]; decide)
    rcases hty with z | z
    · subst z; exact wpAny_pyNext_ascii_item st hx fun h' st' sb => fin h' st' sb
    · subst z; exact wpAny_pyNext_wide_item st hx fun h' st' sb => fin h' st' sb
  done := by
    intro X hP hw hK hc i pins s σ H E I hf st hg
    subst hP hw hK
    obtain ⟨f0, f1, f2, f3, f4, f5⟩ := hf it (by simp)
    have hi : (ts x).length ≤ i := hg
    have hx : x.cps[i]? = none := by
      rw [← Array.getElem?_toList]; exact List.getElem?_eq_none hi
    rcases hty with z | z
    · subst z; exact wpAny_pyNext_ascii_end (I.ok.hd hc) st hx fun h' eb => ⟨rfl, I.turned (t' := s.toks) (fun b o hb e => eb b o hb e) f0 f1 f3 f4 f5⟩
    · subst z; exact wpAny_pyNext_wide_end (I.ok.hd hc) st hx fun h' eb => ⟨rfl, I.turned (t' := s.toks) (fun b o hb e => eb b o hb e) f0 f1 f3 f4 f5⟩
  self := fun _ _ _ _ _ st h => by
    rcases hty with z | z
    · subst z; exact wpAny_pyIter_striter_ascii st h
    · subst z; exact wpAny_pyIter_striter_wide st h
def iStr (tl : TE) : TI := fun σ H R => tl σ H fun x H1 => ∃ z, x = .str z ∧ R (Its z) H1
theorem pi_str {tg l : Expr} {tl : TE} (hl : PE X l tl) : PI X tg l (iStr tl) := by
  intro pins s σ H R I h
  refine thn (hl pins s σ H _ I h) fun v s1 ⟨x, H1, I1, r1, q1⟩ => ?_
  obtain ⟨z, rfl, q⟩ := q1
  obtain ⟨t, rfl⟩ := r1
  have fin : ∀ ty, (ty = "str_ascii_iterator" ∨ ty = "str_iterator") → PIE X pins σ tg R (.ref s1.heap.objs.size) { s1 with heap := s1.heap.push { cls := .type ty, data := .fields #[.str z t, .int 0 0] } } := fun ty hty => by
    refine ⟨s1.heap.objs.size, [s1.heap.objs.size], _, _, H1, rfl, I1.kept (t' := s1.toks) fun b o e => Heap.get?_push_of_some _ e, turn_str z t _ ty hty, ⟨_, Heap.get?_push_size _ rfl, rfl, rfl⟩, fun b hb => ?_, q⟩
    have e : b = s1.heap.objs.size := by simpa using hb
    subst e
    exact I1.fpOk (Nat.le_refl _) (I1.hok.fresh (Nat.le_refl _))
  cases ha : z.cps.all (· < 128) with
  | true => exact wpAny_pyIter_ascii ha (fin _ (.inl rfl))
  | false => exact wpAny_pyIter_wide ha (fin _ (.inr rfl))

/-! ### all, sum -/
theorem boolsAre_of {bs : List Bool} : ∀ {us : List Value}, Vals (bs.map V.bl) us → PyProof.Rows.LSm.BoolsAre us bs := by
  induction bs with
  | nil => intro us r; rw [List.map_nil] at r; cases r; exact .nil
  | cons n ns ih =>
    intro us r
    rw [List.map_cons] at r
    cases r with
    | cons r1 r2 =>
      cases (show _ = Value.bool n from r1)
      exact .cons n (ih r2)
theorem call_all (hc : X.calm = true) : CallR X (.builtin "all") (fun xs H Q => ∃ (p : Addr) (bs : List Bool), xs = [.ref p] ∧ SqL X.K H p (bs.map V.bl) ∧ Q (.bl (bs.all id)) H) := by
  intro pins s σ H xs us Q I r h
  obtain ⟨p, bs, rfl, hq, q⟩ := h
  obtain ⟨u, rfl, rx⟩ := vals1 r
  cases rx
  obtain ⟨its, rv, pl, hz⟩ := I.list hq
  have hl := pl.isList
  have hb := boolsAre_of rv
  have hlt : p < s.heap.objs.size := by obtain ⟨_, e, _⟩ := hl; exact Heap.lt_size e
  refine call_all_walk (wpAny_pyIter_list hl ?_)
  refine ⟨s.heap.objs.size, [s.heap.objs.size, p], [s.heap.objs.size], its.toArray.size, _, _, fun i => (bs[i]?).getD true, rfl, Walks.list (A := X.A.in1) (I.ok.hd hc) _ p (Nat.ne_of_lt hlt) its.toArray,
    ⟨⟨_, Heap.get?_push_size _ rfl, rfl, rfl⟩, hl.push _⟩, fun i v s' Q' E' hP hQ => ?_, fun h' tk hk => ?_⟩
  · obtain ⟨b, e, rfl⟩ := hb.get i v (by simpa using hP)
    simp only [e, Option.getD_some] at hQ
    exact wpAny_truthy_bool hQ
  · have e : ((List.range its.toArray.size).all fun i => (bs[i]?).getD true) = bs.all id := by
      rw [List.size_toArray, hb.length]; exact PyProof.Rows.LSm.range_all bs
    rw [e]
    exact ⟨.bl _, H, I.kept (PyProof.Rows.LSm.kept_iter hk), rfl, q⟩
theorem call_sum (hc : X.calm = true) : CallR X (.builtin "sum") (fun xs H Q => ∃ (p : Addr) (ns : List Int), xs = [.ref p] ∧ SqL X.K H p (ns.map V.int) ∧ Q (.int ns.sum) H) := by
  intro pins s σ H xs us Q I r h
  obtain ⟨p, ns, rfl, hq, q⟩ := h
  obtain ⟨u, rfl, rx⟩ := vals1 r
  cases rx
  obtain ⟨its, rv, pl, hz⟩ := I.list hq
  have hi := intsAre_of rv
  obtain ⟨xs, hx⟩ := hi.allInts.items
  have hl' : s.heap.IsList p (intItems xs) := hx ▸ pl.isList
  refine sum_intListG (I.ok.hd hc) hl' fun h' tk t' hk => ?_
  have e1 : ns = xs.toList.map (·.1) := by
    rw [← nums_intItems, ← hx]
    exact (show numsOf its.toArray.toList = ns from hi.numsOf).symm
  have e2 : preSum (numAt xs) xs.size = ns.sum := by
    rw [preSum_eq, List.take_of_length_le (by simp), e1]
  rw [e2]
  exact ⟨.int _, H, I.kept hk, ⟨_, rfl⟩, q⟩

/-! ### lists of flat values compared -/
def eqLs : List V → List V → Bool
  | [], [] => true
  | x :: xs, y :: ys => eqV x y && eqLs xs ys
  | _, _ => false
theorem eqLs_range : ∀ (xs ys : List V), xs.length = ys.length → (List.range xs.length).all (fun j => match xs[j]?, ys[j]? with | some a, some b => eqV a b | _, _ => true) = eqLs xs ys
  | [], [], _ => rfl
  | x :: xs, y :: ys, h => by
    have ih := eqLs_range xs ys (by simpa using h)
    rw [List.length_cons, List.range_succ_eq_map, List.all_cons, List.all_map]
    show (eqV x y && _) = (eqV x y && eqLs xs ys)
    rw [← ih]
    congr 1
theorem eqLs_len : ∀ {xs ys : List V}, xs.length ≠ ys.length → eqLs xs ys = false
  | [], [], h => absurd rfl h
  | [], _ :: _, _ => rfl
  | _ :: _, [], _ => rfl
  | x :: xs, y :: ys, h => by
    have ih := eqLs_len (xs := xs) (ys := ys) (by simpa using h)
    show (eqV x y && eqLs xs ys) = false
    rw [ih, Bool.and_false]
def rEqL (K : PySem.W.Frag) (neg : Bool) : R2 := fun x y H Q => ∃ a b xs ys, x = .ref a ∧ y = .ref b ∧ SqL K H a xs ∧ SqL K H b ys ∧ xs.all flatV = true ∧ ys.all flatV = true ∧ Q (.bl (if neg then !eqLs xs ys else eqLs xs ys)) H
theorem Vals.some_at {xs : List V} {us : List Value} (r : Vals xs us) {j : Nat} (h : j < us.length) : ∃ x, xs[j]? = some x ∧ RelV x us[j] := by
  have hl := r.length
  obtain ⟨x, e⟩ : ∃ x, xs[j]? = some x := ⟨xs[j], by simp [hl, h]⟩
  obtain ⟨u, hu, ru⟩ := r.get e
  have e2 : us[j]? = some us[j] := by simp [h]
  rw [e2] at hu
  cases hu
  exact ⟨x, e, ru⟩
theorem lists_he {A : Around} {s : Shared} {xs ys : List V} {us ws : List Value} (r : Vals xs us) (q : Vals ys ws) (fx : xs.all flatV = true) (fy : ys.all flatV = true) :
    ∀ j (h1 : j < us.toArray.size) (h2 : j < ws.toArray.size), SeqAt.EqAt A s us.toArray[j] ws.toArray[j] ((fun j => match xs[j]?, ys[j]? with | some a, some b => eqV a b | _, _ => true) j) := fun j h1 h2 => by
  obtain ⟨x, e1, r1⟩ := r.some_at (j := j) (by simpa using h1)
  obtain ⟨y, e2, r2⟩ := q.some_at (j := j) (by simpa using h2)
  have f1 : flatV x = true := List.all_eq_true.mp fx x (List.mem_of_getElem? e1)
  have f2 : flatV y = true := List.all_eq_true.mp fy y (List.mem_of_getElem? e2)
  have z := eqAt_V (A := A) (s := s) r1 r2 f1 f2
  simp only [e1, e2]
  simpa using z
theorem op_eq_l (hu : X.A.units < cLine) : OpR X (compareOp .Eq) (rEqL X.K false) := by
  intro pins s σ H x y v u Q I rx ry h
  obtain ⟨a, b, xs, ys, rfl, rfl, ha, hb, fx, fy, q⟩ := h
  cases rx
  cases ry
  obtain ⟨its, r1, pl1, _⟩ := I.list ha
  obtain ⟨its2, r2, pl2, _⟩ := I.list hb
  have l1 := r1.length
  have l2 := r2.length
  by_cases e : xs.length = ys.length
  · refine SeqAt.eq_listAt pl1.isList pl2.isList (by simp only [List.size_toArray]; omega) hu (lists_he r1 r2 fx fy) ⟨.bl _, H, I, rfl, ?_⟩
    rw [List.size_toArray, ← l1, eqLs_range xs ys e]
    exact q
  · refine SeqAt.eq_list_lengthsAt pl1.isList pl2.isList (by simp only [List.size_toArray]; simpa [← l1, ← l2] using e) hu ⟨.bl _, H, I, rfl, ?_⟩
    have z := eqLs_len e
    simpa [z] using q
theorem op_ne_l (hu : X.A.units < cLine) : OpR X (compareOp .NotEq) (rEqL X.K true) := by
  intro pins s σ H x y v u Q I rx ry h
  obtain ⟨a, b, xs, ys, rfl, rfl, ha, hb, fx, fy, q⟩ := h
  cases rx
  cases ry
  obtain ⟨its, r1, pl1, _⟩ := I.list ha
  obtain ⟨its2, r2, pl2, _⟩ := I.list hb
  have l1 := r1.length
  have l2 := r2.length
  by_cases e : xs.length = ys.length
  · refine SeqAt.RcNeAt.lists pl1.isList pl2.isList (by simp only [List.size_toArray]; omega) hu (lists_he r1 r2 fx fy) X.prog X.w X.xe _ ⟨.bl _, H, I, rfl, ?_⟩
    rw [List.size_toArray, ← l1, eqLs_range xs ys e]
    exact q
  · refine SeqAt.RcNeAt.lists_lengths pl1.isList pl2.isList (by simp only [List.size_toArray]; simpa [← l1, ← l2] using e) hu X.prog X.w X.xe _ ⟨.bl _, H, I, rfl, ?_⟩
    have z := eqLs_len e
    simpa [z] using q

/-! ### isinstance against built-in types -/
def tyS (H : Hp) : V → Option String
  | .non => some "NoneType"
  | .bl _ => some "bool"
  | .int _ => some "int"
  | .str _ => some "str"
  | .ref a => match H a with
    | some (.lst _) => some "list"
    | some (.tup _) => some "tuple"
    | some (.dK _) => some "dict"
    | _ => none
  | _ => none
def isSub (t T : String) : Bool := t == T || (t == "bool" && T == "int")
theorem tyS_of {K : PySem.W.Frag} {H : Hp} {x : V} {t : String} (h : tyS H x = some t) : TyOf K H x (.type t) := by
  cases x with
  | non => cases h; exact .non
  | bl b => cases h; exact .bl b
  | int i => cases h; exact .int i
  | str z => cases h; exact .str z
  | ref a =>
    have h' : (match H a with | some (.lst _) => some "list" | some (.tup _) => some "tuple" | some (.dK _) => some "dict" | _ => none) = some t := h
    cases e : H a with
    | none => rw [e] at h'; cases h'
    | some o =>
      rw [e] at h'
      cases o with
      | lst xs => cases h'; exact .lst e
      | tup xs => cases h'; exact .tup e
      | dK kvs => cases h'; exact .dK e
      | _ => cases h'
  | byt b => cases h
  | flt b => cases h
  | ty n => cases h
def tyL : List String := ["NoneType", "bool", "int", "str", "list", "tuple", "dict"]
def kitB (t T : String) : Option Bool := if (Value.type t == Value.type T) = true then some true else if PySem.W.kitMeta T = true then (fastBuiltinMro t).map (·.contains (.type T)) else none
theorem kitB_ok : (tyL.all fun t => tyL.all fun T => kitB t T == some (isSub t T)) = true := by decide +kernel
theorem kit_bi {K : PySem.W.Frag} {t T : String} (h1 : t ∈ tyL) (h2 : T ∈ tyL) : PySem.W.kitOne K (.type t) (.type T) = some (isSub t T) := by
  have a := List.all_eq_true.mp (List.all_eq_true.mp kitB_ok t h1) T h2
  have b : kitB t T = some (isSub t T) := by simpa using a
  exact b
theorem tyS_mem {H : Hp} {x : V} {t : String} (h : tyS H x = some t) : t ∈ tyL := by
  cases x <;> first | (cases h; simp [tyL]; done) | (cases h; done) | skip
  rename_i a
  have h' : (match H a with | some (.lst _) => some "list" | some (.tup _) => some "tuple" | some (.dK _) => some "dict" | _ => none) = some t := h
  split at h' <;> first | (cases h'; simp [tyL]; done) | (cases h'; done)
theorem kitx_ty {pins : List (Addr × Obj)} {σ : St} {H : Hp} {s : Shared} {x : V} {u : Value} {t : String} (I : Inv X pins σ H s) (rx : RelV x u) (h : tyS H x = some t) :
    ∃ φ : Heap → Prop, PySem.W.KitX X.K u (.type t) φ ∧ φ s.heap ∧ u ≠ .builtin "__main__.__loader__#opaque" := by
  cases tyS_of (K := X.K) h with
  | non => cases (show u = Value.none from rx); exact ⟨_, PySem.W.kitx_none, True.intro, fun z => nomatch z⟩
  | bl y => cases (show u = Value.bool y from rx); exact ⟨_, PySem.W.kitx_bool, True.intro, fun z => nomatch z⟩
  | int i => obtain ⟨t, q⟩ := (show ∃ t, u = Value.int i t from rx); cases q; exact ⟨_, PySem.W.kitx_int, True.intro, fun z => nomatch z⟩
  | str y => obtain ⟨t, q⟩ := (show ∃ t, u = Value.str y t from rx); cases q; exact ⟨_, PySem.W.kitx_str, True.intro, fun z => nomatch z⟩
  | flt y => obtain ⟨t, q⟩ := (show ∃ t, u = Value.float y t from rx); cases q; exact ⟨_, PySem.W.kitx_float, True.intro, fun z => nomatch z⟩
  | @lst a xs ea =>
    cases (show u = Value.ref a from rx)
    obtain ⟨_, _, n, _, h1⟩ := (show ObjOk X.prog X.w H s.heap a (.lst xs) from I.hok a _ ea)
    exact ⟨_, PySem.W.kitx_list, ⟨_, h1, rfl⟩, fun z => nomatch z⟩
  | @frz a ob xs ea =>
    cases (show u = Value.ref a from rx)
    obtain ⟨_, _, _, n, _, h1⟩ := (show ObjOk X.prog X.w H s.heap a (.frz ob (.lst xs)) from I.hok a _ ea)
    exact ⟨_, PySem.W.kitx_list, ⟨_, h1, rfl⟩, fun z => nomatch z⟩
  | @tup a xs ea =>
    cases (show u = Value.ref a from rx)
    obtain ⟨_, _, _, p⟩ := (show ObjOk X.prog X.w H s.heap a (.tup xs) from I.hok a _ ea)
    obtain ⟨o, h1, h2, _⟩ := p
    exact ⟨_, PySem.W.kitx_tuple, ⟨o, h1, h2⟩, fun z => nomatch z⟩
  | @dK a kvs ea =>
    cases (show u = Value.ref a from rx)
    obtain ⟨_, _, vs, _, p⟩ := (show ObjOk X.prog X.w H s.heap a (.dK kvs) from I.hok a _ ea)
    obtain ⟨o, es, ep, h1, h2, _⟩ := p
    exact ⟨_, PySem.W.kitx_dict, ⟨o, h1, h2.1⟩, fun z => nomatch z⟩
  | @dT a kvs ea =>
    cases (show u = Value.ref a from rx)
    obtain ⟨_, _, xs, _, o, es, ep, h1, h2, _⟩ := (show ObjOk X.prog X.w H s.heap a (.dT kvs) from I.hok a _ ea)
    exact ⟨_, PySem.W.kitx_dict, ⟨o, h1, h2.1⟩, fun z => nomatch z⟩
theorem call_isi2 {T U : String} (hT : T ∈ tyL) (hU : U ∈ tyL) : CallR X (.builtin "isinstance") (fun xs H Q => ∃ x t p, xs = [x, .ref p] ∧ H p = some (.tup [.ty T, .ty U]) ∧ tyS H x = some t ∧ Q (.bl (isSub t T || isSub t U)) H) := by
  intro pins s σ H xs us Q I r h
  obtain ⟨x, t, p, rfl, hp, ht, q⟩ := h
  obtain ⟨u, w', rfl, ru, rw'⟩ := vals2 r
  cases (show w' = Value.ref p from rw')
  obtain ⟨φ, Z, hφ, hne⟩ := kitx_ty I ru ht
  obtain ⟨_, its, rv, pl⟩ := (show ObjOk X.prog X.w H s.heap p (.tup [.ty T, .ty U]) from I.hok p _ hp)
  obtain ⟨v1, v2, e, r1, r2⟩ := vals2 rv
  subst e
  cases (show v1 = Value.type T from r1)
  cases (show v2 = Value.type U from r2)
  obtain ⟨o, ho, hc, n, hd⟩ := pl
  obtain ⟨oc, od, odt, osl⟩ := o
  cases (show oc = Value.type "tuple" from hc)
  cases (show odt = Data.seq _ n from hd)
  refine PySem.W.kia_tup Z I.kIn hφ ho (b := isSub t T || isSub t U) ?_ hne fun tk => ⟨.bl _, H, I.tok _, rfl, q⟩
  have k1 := kit_bi (K := X.K) (tyS_mem ht) hT
  have k2 := kit_bi (K := X.K) (tyS_mem ht) hU
  simp only [PySem.W.kitAny, k1, k2]
  cases isSub t T <;> cases isSub t U <;> rfl
theorem call_isi {T : String} (hT : T ∈ tyL) : CallR X (.builtin "isinstance") (fun xs H Q => ∃ x t, xs = [x, .ty T] ∧ tyS H x = some t ∧ Q (.bl (isSub t T)) H) := by
  intro pins s σ H xs us Q I r h
  obtain ⟨x, t, rfl, ht, q⟩ := h
  obtain ⟨u, w', rfl, ru, rw'⟩ := vals2 r
  cases (show w' = Value.type T from rw')
  exact isinst_ok I ru (tyS_of ht) (kit_bi (tyS_mem ht) hT) fun tk => ⟨.bl _, H, I.tok _, rfl, q⟩
end

/-! ### boot facts under names of mine -/
theorem bt_len : bootBuiltins "len" = some (.builtin "len") := by decide +kernel
theorem bt_isinstance : bootBuiltins "isinstance" = some (.builtin "isinstance") := by decide +kernel
theorem bt_all : bootBuiltins "all" = some (.builtin "all") := by decide +kernel
theorem bt_sum : bootBuiltins "sum" = some (.builtin "sum") := by decide +kernel
theorem bt_abs : bootBuiltins "abs" = some (.builtin "abs") := by decide +kernel
theorem bt_ord : bootBuiltins "ord" = some (.builtin "ord") := by decide +kernel
theorem bt_min : bootBuiltins "min" = some (.builtin "min") := by decide +kernel
theorem bt_max : bootBuiltins "max" = some (.builtin "max") := by decide +kernel
theorem bt_sorted : bootBuiltins "sorted" = some (.builtin "sorted") := by decide +kernel
theorem bt_int : bootBuiltins "int" = some (.type "int") := by decide +kernel
theorem bt_str : bootBuiltins "str" = some (.type "str") := by decide +kernel
theorem bt_bool : bootBuiltins "bool" = some (.type "bool") := by decide +kernel
theorem bt_list : bootBuiltins "list" = some (.type "list") := by decide +kernel
theorem bt_dict : bootBuiltins "dict" = some (.type "dict") := by decide +kernel
theorem bt_tuple : bootBuiltins "tuple" = some (.type "tuple") := by decide +kernel

/-- which names of the text are Python's own -/
structure Bl (mg : Str → Option Value) : Prop where
  len : mg "len" = none
  range : mg "range" = none
  isinstance : mg "isinstance" = none
  all : mg "all" = none
  sum : mg "sum" = none
  int : mg "int" = none
  str : mg "str" = none
  bool : mg "bool" = none
  list : mg "list" = none
  dict : mg "dict" = none
  tuple : mg "tuple" = none

/-! ### a def of the text as a bundle -/
structure Dn (P : Program) (w : World) (K : PySem.W.Frag) (mg : Str → Option Value) (base : Heap) (k : Nat) (x : Str) (ps : List Str) (sp : Sp) : Prop where
  ex : ∃ (f : Addr) (fd : FuncData), FnOk P w K mg base CX0 k f fd ps sp ∧ Binds K fd ps [] ∧ PySem.W.keepIn K (.ref f) = true ∧ mg x = some (.ref f)
section
variable {X : Cx} {k j : Nat} {x : Str} {ps : List Str} {sp : Sp} {e : Expr} {es : List Expr} {t : TA} {p pos : Pos}
theorem pe_cd (D : Dn X.prog X.w X.K X.mg X.base k x ps sp) (hr : Room j X.A) (hj : k ≤ j) (hg : Gl X x) (ha : PA X (e :: es) t) (hdb : (x == ("__debug__" : Str)) = false := by decide)
    (he : starEach (e :: es) X.env = (false, eval e X.env) :: starEach es X.env := by rfl) (hpl : (backTo pos (starEach es X.env)).any (·.1) = false := by rfl) : PE X (.Call (.Name x p) (e :: es) [] pos) (tCall sp [] E0 t) := by
  obtain ⟨f, fd, h1, h2, h3, h4⟩ := D.ex
  exact pe_call h1 (hr.mono hj) hg h4 h3 h2 .nil pass0 ha hdb he hpl
theorem pe_cd0 (D : Dn X.prog X.w X.K X.mg X.base k x ps sp) (hr : Room j X.A) (hj : k ≤ j) (hg : Gl X x) (hdb : (x == ("__debug__" : Str)) = false := by decide) : PE X (.Call (.Name x p) [] [] pos) (tCall sp [] E0 tNil) := by
  obtain ⟨f, fd, h1, h2, h3, h4⟩ := D.ex
  exact pe_call0 h1 (hr.mono hj) hg h4 h3 h2 .nil pass0 hdb
end
end L2

namespace L2
open PySem PySem.Spec PyProof.Rows

/-! ### comprehensions: my own rule -/
theorem forIn_fold {α β : Type} {l : List α} {f : α → β → Sem (ForInStep β)} (g : β → α → β) (h : ∀ x ∈ l, ∀ c, f x c = pure (.yield (g c x))) : ∀ b : β, forIn l b f = pure (l.foldl g b) := by
  induction l with
  | nil => intro b; rfl
  | cons a r ih =>
    intro b
    rw [List.forIn_cons, h a List.mem_cons_self]
    show forIn r (g b a) f = _
    rw [ih (fun x hx => h x (List.mem_cons_of_mem _ hx)) (g b a)]
    rfl

def cloStep (env : Env) (cs : List (Str × Addr)) (x : Str × NameKind) : List (Str × Addr) :=
  if (x.2 == NameKind.free) = true then (match env.cells.lookup x.1 with | some a => (x.1, a) :: cs | none => cs) else cs
def clo (env : Env) (names : List (Str × NameKind)) : List (Str × Addr) := names.foldl (cloStep env) []

theorem closureFor_clo {scope : Scope} {env : Env} (h : ∀ x ∈ scope.names, x.2 = .free → ∃ c, env.cells.lookup x.1 = some c) : closureFor scope env = pure (clo env scope.names) := by
  simp only [closureFor]
  rw [forIn_fold (cloStep env) (fun x hx c => by
    obtain ⟨n, k⟩ := x
    by_cases hk : k = .free
    · subst hk
      obtain ⟨a, e⟩ := h _ hx rfl
      have e' : env.cells.lookup n = some a := e
      simp [cloStep, cellOf, e']
    · have e : (k == NameKind.free) = false := by simpa using hk
      simp [cloStep, e])]
  rfl

theorem clo_mem {env : Env} : ∀ (names : List (Str × NameKind)) (cs : List (Str × Addr)), (∀ p ∈ cs, env.cells.lookup p.1 = some p.2) → ∀ p ∈ names.foldl (cloStep env) cs, env.cells.lookup p.1 = some p.2
  | [], _, h => h
  | x :: r, cs, h => by
    refine clo_mem r (cloStep env cs x) fun p hp => ?_
    unfold cloStep at hp
    split at hp
    · split at hp
      · rename_i a e
        rcases List.mem_cons.mp hp with z | z
        · rw [z]; exact e
        · exact h p z
      · exact h p hp
    · exact h p hp
theorem clo_keep {env : Env} {p : Str × Addr} : ∀ (names : List (Str × NameKind)) (cs : List (Str × Addr)), p ∈ cs → p ∈ names.foldl (cloStep env) cs
  | [], _, h => h
  | x :: r, cs, h => by
    refine clo_keep r (cloStep env cs x) ?_
    unfold cloStep
    split
    · split
      · exact List.mem_cons_of_mem _ h
      · exact h
    · exact h
theorem clo_has {env : Env} {n : Str} {c : Addr} (e : env.cells.lookup n = some c) : ∀ (names : List (Str × NameKind)) (cs : List (Str × Addr)), (n, NameKind.free) ∈ names → (n, c) ∈ names.foldl (cloStep env) cs
  | [], _, h => nomatch h
  | x :: r, cs, h => by
    rcases List.mem_cons.mp h with z | z
    · subst z
      refine clo_keep r _ ?_
      unfold cloStep
      rw [if_pos (by rfl)]
      show (n, c) ∈ (match env.cells.lookup n with | some a => (n, a) :: cs | none => cs)
      rw [e]
      exact List.mem_cons_self
    · exact clo_has e r _ z
theorem lookup_some_of_mem {α : Type} {n : Str} {c : α} : ∀ {l : List (Str × α)}, (n, c) ∈ l → ∃ c', l.lookup n = some c'
  | [], h => nomatch h
  | (m, d) :: r, h => by
    by_cases e : n = m
    · subst e; exact ⟨d, by simp [List.lookup_cons]⟩
    · rcases List.mem_cons.mp h with z | z
      · cases z; exact absurd rfl e
      · obtain ⟨c', q⟩ := lookup_some_of_mem z
        have e2 : (n == m) = false := by simpa using e
        exact ⟨c', by rw [List.lookup_cons, e2]; exact q⟩
theorem clo_of {env : Env} {names : List (Str × NameKind)} {n : Str} {c : Addr} (h : (clo env names).lookup n = some c) : env.cells.lookup n = some c :=
  clo_mem names [] (fun _ z => nomatch z) (n, c) (PySem.mem_of_lookup h)
theorem clo_lookup {env : Env} {names : List (Str × NameKind)} {n : Str} {c : Addr} (e : env.cells.lookup n = some c) (h : (n, NameKind.free) ∈ names) : (clo env names).lookup n = some c := by
  obtain ⟨c', q⟩ := lookup_some_of_mem (clo_has e names [] h)
  have q' : (clo env names).lookup n = some c' := q
  have z := clo_of q'
  rw [e] at z
  rw [q', ← z]

/-- the outer names that the block sees: their slots -/
inductive FreeOk (X : Cx) (scope : Scope) : List (Str × Nat) → Prop where
  | nil : FreeOk X scope []
  | cons {x : Str} {i : Nat} {r : List (Str × Nat)} (h1 : X.N[i]? = some x) (h2 : X.env.kindOf x = some .cell) (h3 : scope.names.lookup x = some .free) (h : FreeOk X scope r) : FreeOk X scope ((x, i) :: r)
theorem FreeOk.mem {X : Cx} {scope : Scope} : ∀ {F : List (Str × Nat)}, FreeOk X scope F → ∀ p ∈ F, X.N[p.2]? = some p.1 ∧ X.env.kindOf p.1 = some .cell ∧ scope.names.lookup p.1 = some .free
  | _, .nil, _, h => nomatch h
  | _, .cons h1 h2 h3 h, p, hp => by
    rcases List.mem_cons.mp hp with z | z
    · subst z; exact ⟨h1, h2, h3⟩
    · exact h.mem p z

structure CompSc (X : Cx) (scope : Scope) (own : List Str) (F : List (Str × Nat)) : Prop where
  kind : scope.kind = .function
  nocell : (scope.names.all fun y => !(y.2 == NameKind.cell)) = true
  loc : (scope.names.all fun y => !(y.2 == NameKind.local) || (scope.names.lookup y.1 == some NameKind.local)) = true
  fr : (scope.names.all fun y => !(y.2 == NameKind.free) || (X.env.scope.names.lookup y.1 == some NameKind.cell)) = true
  free : FreeOk X scope F

def compN (own : List Str) (F : List (Str × Nat)) : List Str := own ++ F.map (·.1)
def compσ (own : List Str) (F : List (Str × Nat)) (σ : St) : St := own.map (fun _ => Option.none) ++ F.map (fun p => (σ[p.2]?).join)
def compCx (X : Cx) (own : List Str) (F : List (Str × Nat)) (scope : Scope) (C : Addr) (s₃ : Shared) (H₃ : Hp) (ex : List Addr) : Cx where
  prog := X.prog
  w := X.w
  K := X.K
  mg := X.mg
  base := X.base
  A := X.A
  N := compN own F
  s₀ := s₃
  H₀ := H₃
  env := compEnvC scope (clo X.env scope.names) C X.env
  outer := X.stack
  stack := X.stack
  ex := ex
  fn := fun _ => false
  calm := X.calm
  pn := []
  xe := fun _ _ => False

theorem CompSc.nc {X : Cx} {scope : Scope} {own : List Str} {F : List (Str × Nat)} (S : CompSc X scope own F) : ∀ y ∈ scope.names, y.2 ≠ .cell := fun y hy e => by
  have q := List.all_eq_true.mp S.nocell y hy
  rw [e] at q
  exact absurd q (by decide)
theorem CompSc.lc {X : Cx} {scope : Scope} {own : List Str} {F : List (Str × Nat)} (S : CompSc X scope own F) : ∀ y ∈ scope.names, y.2 = .local → scope.names.lookup y.1 = some .local := fun y hy e => by
  have q := List.all_eq_true.mp S.loc y hy
  rw [e] at q
  simpa using q
theorem CompSc.fc {X : Cx} {scope : Scope} {own : List Str} {F : List (Str × Nat)} (S : CompSc X scope own F) : ∀ y ∈ scope.names, y.2 = .free → X.env.kindOf y.1 = some .cell := fun y hy e => by
  have q := List.all_eq_true.mp S.fr y hy
  rw [e] at q
  have q' : X.env.scope.names.lookup y.1 = some NameKind.cell := by simpa using q
  exact q'

/-- a name of the relabelled scope that is a cell or free was free -/
theorem relabel_free {scope : Scope} {env : Env} (hc : ∀ y ∈ scope.names, y.2 ≠ .cell) {x : Str} (h : (relabel scope env).names.lookup x = some .cell ∨ (relabel scope env).names.lookup x = some .free) : (x, NameKind.free) ∈ scope.names := by
  have go : ∀ k, (relabel scope env).names.lookup x = some k → k = .cell ∨ k = .free → (x, NameKind.free) ∈ scope.names := fun k e hk => by
    have m := PySem.mem_of_lookup e
    unfold relabel at m
    obtain ⟨⟨n, k0⟩, hm, e2⟩ := List.mem_map.mp m
    by_cases hf : k0 = .free
    · subst hf
      dsimp only at e2
      split at e2 <;> (cases e2; exact hm)
    · have e3 : (k0 == NameKind.free) = false := by simpa using hf
      simp only [e3, Bool.false_and, Bool.false_eq_true, if_false] at e2
      cases e2
      rcases hk with z | z
      · exact absurd z (hc _ hm)
      · exact absurd z hf
  rcases h with h | h
  · exact go _ h (.inl rfl)
  · exact go _ h (.inr rfl)
theorem lookup_relabel_free {env : Env} (hf : env.scope.kind = .function) : ∀ {names : List (Str × NameKind)} {x : Str}, names.lookup x = some .free → env.kindOf x = some .cell →
    (names.map fun (n, k) => if (k == NameKind.free && env.scope.kind == .function && env.kindOf n == some .cell) then (n, NameKind.cell) else (n, k)).lookup x = some .cell
  | [], _, h, _ => by simp at h
  | (n, k) :: r, x, h, hx => by
    have ih := @lookup_relabel_free env hf r x
    rw [List.map_cons]
    by_cases e : x = n
    · subst e
      have hk : k = .free := by simpa [List.lookup_cons] using h
      subst hk
      have c : (NameKind.free == NameKind.free && env.scope.kind == .function && env.kindOf x == some .cell) = true := by rw [hf, hx]; rfl
      show List.lookup x ((if (NameKind.free == NameKind.free && env.scope.kind == .function && env.kindOf x == some .cell) = true then (x, NameKind.cell) else (x, NameKind.free)) :: _) = _
      rw [if_pos c]
      simp [List.lookup_cons]
    · have e2 : (x == n) = false := by simpa using e
      have h' : r.lookup x = some .free := by rw [List.lookup_cons, e2] at h; exact h
      have q := ih h' hx
      dsimp only
      split
      · rw [List.lookup_cons, e2]; exact q
      · rw [List.lookup_cons, e2]; exact q

section
variable {X : Cx} {pins : List (Addr × Obj)} {σ : St} {H : Hp} {s : Shared}
theorem Inv.freeCells {scope : Scope} {own : List Str} {F : List (Str × Nat)} (I : Inv X pins σ H s) (S : CompSc X scope own F) : ∀ x ∈ scope.names, x.2 = .free → ∃ c, X.env.cells.lookup x.1 = some c := fun x hx e =>
  I.ok.has x.1 (.inl (S.fc x hx e))
theorem Inv.notStk (I : Inv X pins σ H s) {b : Addr} (h1 : b ≠ X.env.locals) (h2 : b ∉ X.fs) : b ∉ frs X.stack := fun z => (List.mem_cons.mp (I.stkSub b z)).elim h1 h2

/-- the block begins -/
theorem comp_start {scope : Scope} {own : List Str} {F : List (Str × Nat)} {fp : List Addr} {h1 : Heap} {tk : Nat} (I : Inv X pins σ H s) (S : CompSc X scope own F) (hf : ∀ b ∈ fp, FpOk X pins H b) (hlt : ∀ b ∈ fp, b < s.heap.objs.size) {s3 : Shared}
    (e3 : s3 = { s with heap := s.heap.push { cls := .type "list", data := .seq ([] : List Value).toArray } })
    (hns : h1.Ns s3.heap.objs.size (fun _ => none)) (hk : ∀ b o, s3.heap.get? b = some o → h1.get? b = some o) :
    Inv (compCx X own F scope s3.heap.objs.size s3 H (s.heap.objs.size :: fp)) [] (compσ own F σ) H { s3 with heap := h1, toks := tk } := by
  have sz3 : s3.heap.objs.size = s.heap.objs.size + 1 := by rw [e3]; exact Heap.size_push ..
  have k3 : ∀ b o, s.heap.get? b = some o → s3.heap.get? b = some o := fun b o e => by rw [e3]; exact Heap.get?_push_of_some _ e
  have I3 : Inv X pins σ H s3 := by rw [e3]; exact I.kept (t' := s.toks) fun b o e => Heap.get?_push_of_some _ e
  have lkup : ∀ x c, (clo X.env scope.names).lookup x = some c → X.env.cells.lookup x = some c := fun x c e => clo_of e
  have base_lt : ∀ b o, X.base.get? b = some o → b < X.s₀.heap.objs.size := fun b o e => Nat.lt_of_lt_of_le (Heap.lt_size e) I.ok.bsz
  have kf : X.env.scope.kind = .function := I.ok.kind
  refine ⟨⟨I.ok.mod, S.kind, I.ok.glob, I.ok.blt, Nat.le_refl _, fun x y c h1 h2 => I.ok.inj x y c (lkup x c h1) (lkup y c h2), fun x hx => ?_, fun x c hx _ => (nomatch hx), I.ok.hd, I.ok.frames, .inl rfl, fun b hb => ?_, fun b o e => ?_, ?_, fun b o e hb => ?_, fun b hb => ?_, I3.stack, fun b hb => I.stkFree b hb⟩,
    rfl, I3.bare, Un.kept hk, ⟨_, hns, fun i x v e1 e2 e3' => ?_⟩, fun x c e => ?_, ?_, fun x c e => I.freeC x c (lkup x c e), fun p hp => absurd (show p ∈ ([] : List (Addr × Obj)) from hp) (by simp), I3.hok.kept hk, ?_⟩
  · have hm := relabel_free S.nc hx
    obtain ⟨c, e⟩ := I.freeCells S _ hm rfl
    exact ⟨c, clo_lookup e hm⟩
  · rcases List.mem_cons.mp hb with z | z
    · subst z
      refine ⟨fun q => ?_, fun x c e q => ?_⟩
      · have q' : s.heap.objs.size = s3.heap.objs.size := q
        omega
      · obtain ⟨v, u⟩ := I.cell x c (lkup x c e)
        exact absurd u.lt (by rw [q]; exact Nat.lt_irrefl _)
    · refine ⟨fun q => ?_, fun x c e => (hf b z).2.2.2.2.1 x c (lkup x c e)⟩
      exact Nat.ne_of_lt (Nat.lt_of_lt_of_le (hlt b z) (show s.heap.objs.size ≤ s3.heap.objs.size by omega)) q
  · obtain ⟨a1, a2⟩ := I.bs b o e
    exact ⟨k3 b o a1, a2⟩
  · exact Nat.le_trans (Nat.le_trans I.ok.bsz I.sz) (by show s.heap.objs.size ≤ s3.heap.objs.size; omega)
  · have l1 := base_lt b o e
    rcases List.mem_cons.mp hb with z | z
    · exact absurd (Nat.lt_of_lt_of_le l1 I.sz) (by rw [z]; exact Nat.lt_irrefl _)
    · rcases (hf b z).2.2.2.1 with q | q
      · exact I.ok.noex b o e q
      · exact absurd l1 (Nat.not_lt.mpr q)
  · rcases List.mem_cons.mp hb with z | z
    · subst z
      exact I.notStk (Nat.ne_of_gt I.lt) (I.nofs (Nat.le_refl _))
    · exact I.notStk (hf b z).2.1 (hf b z).2.2.1
  · -- a name that is seen
    have hi : own.length ≤ i := by
      by_cases z : i < own.length
      · rw [compσ, List.getElem?_append_left (by simpa using z), List.getElem?_map] at e2
        cases q : own[i]? with
        | none => rw [q] at e2; cases e2
        | some y => rw [q] at e2; cases e2
      · omega
    rw [compσ, List.getElem?_append_right (by simpa using hi), List.getElem?_map] at e2
    have e1' : (own ++ F.map (·.1))[i]? = some x := e1
    rw [List.getElem?_append_right hi, List.getElem?_map] at e1'
    simp only [List.length_map] at e2
    cases q : F[i - own.length]? with
    | none => rw [q] at e2; cases e2
    | some p =>
      rw [q] at e1' e2
      simp only [Option.map_some, Option.some.injEq] at e1' e2
      obtain ⟨f1, f2, f3⟩ := S.free.mem p (List.mem_of_getElem? q)
      subst e1'
      obtain ⟨m, hn, hl⟩ := I.loc
      have e4 : σ[p.2]? = some (some v) := by
        cases r : σ[p.2]? with
        | none => rw [r] at e2; cases e2
        | some o => rw [r] at e2; exact congrArg some e2
      obtain ⟨u, ru, l⟩ := hl p.2 p.1 v f1 e4 (.inr (.inl f2))
      refine ⟨u, ru, .inr ⟨.inl (lookup_relabel_free kf f3 f2), ?_⟩⟩
      rcases l with ⟨l, _⟩ | ⟨_, c, ec, z⟩
      · rw [f2] at l; cases l
      · refine ⟨c, clo_lookup ec (PySem.mem_of_lookup f3), ?_⟩
        obtain ⟨oc, ho, hd⟩ := z
        exact ⟨oc, hk _ _ (k3 _ _ ho), hd⟩
  · obtain ⟨v, oc, ho, hd⟩ := I.cell x c (lkup x c e)
    exact ⟨v, oc, hk _ _ (k3 _ _ ho), hd⟩
  · exact I.hok.fresh (by show s.heap.objs.size ≤ s3.heap.objs.size; omega)
  · show (compσ own F σ).length = (compN own F).length
    simp [compσ, compN]

/-- the block is through: the list is told -/
theorem comp_back {scope : Scope} {own : List Str} {F : List (Str × Nat)} {fp : List Addr} {s3 s4 : Shared} {σ' : St} {H' : Hp} {ys : List V} {its : List Value} {n : Nat} (I : Inv X pins σ H s) (hf : ∀ b ∈ fp, FpOk X pins H b)
    (e3 : s3 = { s with heap := s.heap.push { cls := .type "list", data := .seq ([] : List Value).toArray } })
    (J : Inv (compCx X own F scope s3.heap.objs.size s3 H (s.heap.objs.size :: fp)) [] σ' H' s4) (hz : ys.length ≤ sizeLine) (hv : Vals ys its)
    (ha : s4.heap.get? s.heap.objs.size = some { cls := .type "list", data := .seq its.toArray n }) (hn : H' s.heap.objs.size = none) : Inv X pins σ (upd H' s.heap.objs.size (.lst ys)) s4 := by
  have sz3 : s3.heap.objs.size = s.heap.objs.size + 1 := by rw [e3]; exact Heap.size_push ..
  have k3 : ∀ b o, s.heap.get? b = some o → s3.heap.get? b = some o := fun b o e => by rw [e3]; exact Heap.get?_push_of_some _ e
  have U : Un (frs X.stack) (s.heap.objs.size :: fp) H H' s3.heap s4.heap := J.base
  have ne : ∀ b o, s.heap.get? b = some o → b ≠ s.heap.objs.size := fun b o e => Nat.ne_of_lt (Heap.lt_size e)
  have nx : ∀ b o, s.heap.get? b = some o → b ∉ fp → b ∉ s.heap.objs.size :: fp := fun b o e h z => (List.mem_cons.mp z).elim (ne b o e) h
  have os4 : s4.os = s.os := by
    have q : s4.os = s3.os := J.os
    rw [q, e3]
  refine I.call' (ch := fp) os4 ⟨fun b o e z hb hx => U.keep b o (k3 b o e) z hb (nx b o e hx), fun b o e z hb hx => U.slot b o (k3 b o e) z hb (nx b o e hx), fun b o e z hx => ?_, fun b o e hx => U.there b o (k3 b o e) (nx b o e hx), fun b xs e => ?_, fun b o u e => ?_, fun b ps e => ?_⟩ (fun b u e => ?_) J.bare fun b hb => ?_
  · rw [upd_ne (ne b o e)]
    exact U.free b o (k3 b o e) z (nx b o e hx)
  · have q := U.tups b xs e
    rw [upd_ne (ne_of_none q hn)]; exact q
  · have q := U.frzs b o u e
    rw [upd_ne (ne_of_none q hn)]; exact q
  · obtain ⟨more, q⟩ := U.tbls b ps e
    exact ⟨more, by rw [upd_ne (ne_of_none q hn)]; exact q⟩
  · by_cases hb : b = s.heap.objs.size
    · subst hb
      rw [upd_same] at e
      cases e
      exact ⟨hz, its, n, hv, ha⟩
    · rw [upd_ne hb] at e
      exact (J.hok b u e).stay (fun _ _ _ q => q) (fun c q => by rw [upd_ne (ne_of_none q hn)]; exact q) fun c xs q => by rw [upd_ne (ne_of_none q hn)]; exact q
  · obtain ⟨_, f1, _, f3, f4, f5⟩ := hf b hb
    exact ⟨f3, f1, f4, f5⟩

/-- the block's own names are let go -/
theorem comp_letgo {H' : Hp} {s4 : Shared} {C : Addr} {h' : Heap} {σ4 : St} (I : Inv X pins σ H s) (hC : s.heap.objs.size ≤ C) (I4 : Inv X pins σ4 H' s4) (hn : H' C = none) (hs : Heap.SameBut C s4.heap h') : Inv X pins σ4 H' { s4 with heap := h' } := by
  have q := I4.turned (it := C) (t' := s4.toks) (h' := h') (fun b o hb e => (hs.2 b hb).trans e) hn (Nat.ne_of_gt (Nat.lt_of_lt_of_le I.lt hC)) (.inr (Nat.le_trans I.sz hC)) (fun x c e z => ?_) (fun p hp z => ?_)
  · exact q
  · obtain ⟨v, u⟩ := I.cell x c e
    exact absurd (Nat.lt_of_lt_of_le u.lt (by rw [z]; exact hC)) (Nat.lt_irrefl _)
  · exact absurd (Nat.lt_of_lt_of_le (Heap.lt_size (I.pin p hp).1) (by rw [z]; exact hC)) (Nat.lt_irrefl _)
end

/-! ### the tests of a comprehension -/
def PTs (X : Cx) (ifs : List Expr) (t : TT) : Prop :=
  ∀ (pins : List (Addr × Obj)) (s : Shared) (σ : St) (H : Hp) (Q : Bool → Hp → Prop), Inv X pins σ H s → t σ H Q →
    wpAny (model X.prog X.w) X.A (forIn ifs true fun c r => if r = true then do let ok ← isTrue c X.env (eval c X.env); pure (ForInStep.yield ok) else pure (ForInStep.yield r)) (TP X pins σ Q) X.xe s
def tTrue : TT := fun _ H Q => Q true H
theorem pts_nil {X : Cx} : PTs X [] tTrue := fun _ _ _ H _ I h => wpAny_tests_nil ⟨H, I, h⟩
theorem pts_one {X : Cx} {c : Expr} {t : TT} (h : PT X c t) : PTs X [c] t := fun pins s σ H Q I q => wpAny_tests_one (h pins s σ H Q I q)

theorem compLoop_go {prog : Program} {w : World} {A : Around} {R : Result → Shared → Prop} {s : Shared} {elt target iter : Expr} {ifs : List Expr} {scope : Scope} {pos : Pos} {it acc : Value} {env : Env} (I : Nat → Shared → Prop)
    (turn : ∀ n s, I n s → wpAny (model prog w) A (pyNext it) (fun r s₁ => match r with
      | none => R (.ok .next) s₁
      | some v => wpAny (model prog w) A (letOwnedTupleGo target it v) (fun _ s₂ => wpAny (model prog w) A (assign target env v) (fun _ s₃ =>
          wpAny (model prog w) A (forIn ifs true fun c r => if r = true then do let ok ← isTrue c env (eval c env); pure (ForInStep.yield ok) else pure (ForInStep.yield r)) (fun ok s₄ =>
            if ok = true then wpAny (model prog w) A (eval elt env) (fun x s₅ =>
              wpAny (model prog w) A (call (.builtin "list.append") [acc, x]) (fun _ s₆ => ∃ m, m < n ∧ I m s₆) (fun _ _ => False) s₅) (fun _ _ => False) s₄
            else ∃ m, m < n ∧ I m s₄) (fun _ _ => False) s₃) (fun _ _ => False) s₂) (fun _ _ => False) s₁) (fun _ _ => False) s)
    (n : Nat) (h : I n s) : codeAny (model prog w) A (.compLoop (.ListComp elt [⟨target, iter, ifs, 0⟩] scope pos) 0 it acc env) R s := by
  refine codeAny_loop rfl I (fun n s hI => ?_) n h
  show wpAny _ A ((compTurn (.ListComp elt [⟨target, iter, ifs, 0⟩] scope pos) 0 it acc env).onRaise (fun x => do noteFrame x env; theTreesLotGoes x)) _ _ s
  refine wpAny_noted ?_
  rw [compTurn_list]
  refine wpAny_bind (wpAny_standAt (wpAny_bind (wpAny_mono (turn n s hI) (fun r s₁ h₁ => ?_) fun _ _ f => f.elim)))
  cases r with
  | none => exact wpAny_pure h₁
  | some v =>
    refine wpAny_bind (wpAny_mono h₁ (fun _ s₂ h₂ => wpAny_bind (wpAny_mono h₂ (fun _ s₃ h₃ => wpAny_bind (wpAny_mono h₃ (fun ok s₄ h₄ => ?_) fun _ _ f => f.elim)) fun _ _ f => f.elim)) fun _ _ f => f.elim)
    cases ok with
    | false => exact wpAny_pure ⟨rfl, h₄⟩
    | true => exact wpAny_bind (wpAny_bind (wpAny_mono h₄ (fun x s₅ h₅ => wpAny_bind (wpAny_mono h₅ (fun _ s₆ h₆ => wpAny_pure (wpAny_pure ⟨rfl, h₆⟩)) fun _ _ f => f.elim)) fun _ _ f => f.elim))

/-- the slots of σ' stand in σ too -/
def Weak (σ σ' : St) : Prop := σ'.length = σ.length ∧ ∀ (i : Nat) v, σ'[i]? = some (some v) → σ[i]? = some (some v)
theorem weak_set {σ : St} {i : Nat} {v : Option V} (h : σ[i]? = some none) : Weak (σ.set i v) σ := by
  refine ⟨by simp, fun j u e => ?_⟩
  by_cases hj : i = j
  · subst hj; rw [h] at e; cases e
  · rw [List.getElem?_set_ne hj]; exact e

/-- [elt for tg in iter if ..]: W is the word between two turns: the turn, a measure, what was told so far, the heap -/
def CompBody (own : List Str) (F : List (Str × Nat)) (g : TG) (tt : TT) (te : TE) (σ : St) (Q : VK) (J : It) (H1 : Hp) : Prop := ∃ W : Nat → Nat → List V → Hp → Prop, (∃ m, W 0 m [] H1) ∧ ∀ i m ys H', W i m ys H' → ys.length ≤ i →
  (J.stop i H' ∧ i ≤ sizeLine ∧ ∀ p, H' p = none → Q (.ref p) (upd H' p (.lst ys))) ∨
  (J.go i H' ∧ i < sizeLine ∧ ∃ N : List V → Hp → Prop, (∀ ys' H'', N ys' H'' → ∃ m', m' < m ∧ W (i + 1) m' ys' H'') ∧
    ∀ x H2, J.yld i H' x H2 → g x (compσ own F σ) H2 fun σ3 H3 => Weak σ3 (compσ own F σ) ∧ tt σ3 H3 fun b H4 => if b = true then te σ3 H4 fun y H5 => N (ys ++ [y]) H5 else N ys H4)
def tComp (own : List Str) (F : List (Str × Nat)) (wi : TI) (g : TG) (tt : TT) (te : TE) : TE := fun σ H Q => wi σ H fun J H1 => CompBody own F g tt te σ Q J H1

section
variable {X : Cx} {scope : Scope} {own : List Str} {F : List (Str × Nat)} {elt tg iter : Expr} {ifs : List Expr} {pos : Pos} {wi : TI} {g : TG} {tt : TT} {te : TE}

/-- a new empty list is laid -/
abbrev pushed (s : Shared) : Shared := { s with heap := s.heap.push { cls := .type "list", data := .seq ([] : List Value).toArray } }
/-- the block's run, up to its end -/
theorem comp_run {pins : List (Addr × Obj)} {σ : St} {H : Hp} {s : Shared} {Q : VK} {RR : Addr → Result → Shared → Prop} {it : Addr} {fp : List Addr} {tn : Nat → Heap → Prop} {J : It} (S : CompSc X scope own F) (hc : X.calm = true)
    (hg : ∀ C s₃ H₃ ex, PG (compCx X own F scope C s₃ H₃ ex) tg g) (ht : ∀ C s₃ H₃ ex, PTs (compCx X own F scope C s₃ H₃ ex) ifs tt) (he : ∀ C s₃ H₃ ex, PE (compCx X own F scope C s₃ H₃ ex) elt te)
    (I : Inv X pins σ H s) (T : Turn X.prog X.w X.K tg J fp it tn) (st : tn 0 s.heap) (hf : ∀ b ∈ fp, FpOk X pins H b)
    (h : CompBody own F g tt te σ Q J H)
    (hR : ∀ C s4 H4, s.heap.objs.size ≤ C → C ≠ s.heap.objs.size → Inv X pins σ H4 s4 → Q (.ref s.heap.objs.size) H4 → H4 C = none → (∃ m, s4.heap.Ns C m) → RR C (.ok .next) s4) :
    wpAny (model X.prog X.w) X.A (newList []) (fun acc s₃ => wpAny (model X.prog X.w) X.A (newFunctionEnv scope X.env.globals (clo X.env scope.names) [] X.env.qual none .none (some X.env)) (fun cenv s₄ =>
      codeAny (model X.prog X.w) X.A (.compStart (.ListComp elt [⟨tg, iter, ifs, 0⟩] scope pos) 0 (.ref it) acc { cenv with scope := relabel scope X.env }) (fun r s' => acc = .ref s.heap.objs.size ∧ RR cenv.locals r s') s₄) X.xe s₃) X.xe s := by
  obtain ⟨W, ⟨m0, w0⟩, turn⟩ := h
  have hlt : ∀ b ∈ fp, b < s.heap.objs.size := fun b hb => by
    obtain ⟨o, e, _⟩ := T.obj _ _ st b hb
    exact Heap.lt_size e
  refine wpAny_newObj_type (wpAny_newFunctionEnv S.nc (by intro y hy; simp at hy) (fun h₁ hns₁ hsb₁ => ?_) S.kind)
  dsimp only at hns₁ hsb₁ ⊢
  have e3' : pushed s = { s with heap := s.heap.push { cls := .type "list", data := .seq ([] : List Value).toArray } } := rfl
  have sz3 : (pushed s).heap.objs.size = s.heap.objs.size + 1 := Heap.size_push ..
  have k3 : ∀ b o, (pushed s).heap.get? b = some o → h₁.get? b = some o := fun b o e => hsb₁.extBut b o (Nat.ne_of_lt (Heap.lt_size e)) (Heap.get?_push_of_some _ e)
  have k2 : ∀ b o, s.heap.get? b = some o → (pushed s).heap.get? b = some o := fun b o e => Heap.get?_push_of_some _ e
  have hns : h₁.Ns (pushed s).heap.objs.size (fun _ => none) := by simpa using hns₁
  have I0 : Inv (compCx X own F scope (pushed s).heap.objs.size (pushed s) H (s.heap.objs.size :: fp)) [] (compσ own F σ) H { pushed s with heap := h₁, toks := (pushed s).toks + ([] : List (Str × Value)).length } := comp_start I S hf hlt e3' hns k3
  have acc0 : h₁.get? s.heap.objs.size = some { cls := .type "list", data := .seq ([] : List Value).toArray 0 } := k3 _ _ (Heap.get?_push_size _ rfl)
  have ht0 : tn 0 h₁ := T.keep _ _ _ st fun b _ o e => k3 b o (k2 b o e)
  have loop : codeAny (model X.prog X.w) X.A (.compLoop (.ListComp elt [⟨tg, iter, ifs, 0⟩] scope pos) 0 (.ref it) (.ref s.heap.objs.size) (compEnvC scope (clo X.env scope.names) (pushed s).heap.objs.size X.env)) (RR (pushed s).heap.objs.size) { pushed s with heap := h₁, toks := (pushed s).toks + ([] : List (Str × Value)).length } := by
    refine compLoop_go (fun n s' => ∃ i ys H' its k, Inv (compCx X own F scope (pushed s).heap.objs.size (pushed s) H (s.heap.objs.size :: fp)) [] (compσ own F σ) H' s' ∧ tn i s'.heap ∧ (∀ b ∈ fp, H' b = none) ∧ H' s.heap.objs.size = none ∧
      Vals ys its ∧ s'.heap.get? s.heap.objs.size = some { cls := .type "list", data := .seq its.toArray k } ∧ ys.length ≤ i ∧ W i n ys H') ?_ m0 ⟨0, [], H, [], 0, I0, ht0, fun b hb => (hf b hb).1, I.hok.fresh (Nat.le_refl _), .nil, acc0, Nat.le_refl _, w0⟩
    rintro n s5 ⟨i, ys, H5, its, k, I5, t5, fr5, ha5, v5, o5, l5, w5⟩
    have pn5 : Inv (compCx X own F scope (pushed s).heap.objs.size (pushed s) H (s.heap.objs.size :: fp)) [(s.heap.objs.size, { cls := .type "list", data := .seq its.toArray k })] (compσ own F σ) H5 s5 := I5.pins_of fun p hp => by
      have z : p = (s.heap.objs.size, { cls := .type "list", data := .seq its.toArray k }) := by simpa using hp
      subst z
      obtain ⟨x1, x2⟩ := I0.ok.exf s.heap.objs.size List.mem_cons_self
      exact ⟨o5, ha5, x1, I0.ok.exfs _ List.mem_cons_self, fun v z => by cases z⟩
    have fp5 : ∀ {H' : Hp}, (∀ b ∈ fp, H' b = none) → ∀ b ∈ fp, FpOk (compCx X own F scope (pushed s).heap.objs.size (pushed s) H (s.heap.objs.size :: fp)) [(s.heap.objs.size, { cls := .type "list", data := .seq its.toArray k })] H' b := fun {H'} hn b hb => by
      obtain ⟨x1, x2⟩ := I0.ok.exf b (List.mem_cons_of_mem _ hb)
      refine ⟨hn b hb, x1, I0.ok.exfs b (List.mem_cons_of_mem _ hb), .inl (List.mem_cons_of_mem _ hb), x2, fun p hp => ?_⟩
      have z : p = (s.heap.objs.size, { cls := .type "list", data := .seq its.toArray k }) := by
        have hp' : p ∈ ([] : List (Addr × Obj)) ++ [(s.heap.objs.size, { cls := .type "list", data := .seq its.toArray k })] := hp
        simpa using hp'
      subst z
      exact Nat.ne_of_gt (hlt b hb)
    rcases turn i n ys H5 w5 l5 with ⟨stop, hz, q⟩ | ⟨go, hz, N, hN, step⟩
    · refine thn (T.done (compCx X own F scope (pushed s).heap.objs.size (pushed s) H (s.heap.objs.size :: fp)) rfl rfl rfl hc i _ s5 _ H5 (fun _ _ => False) pn5 (fp5 fr5) t5 stop) fun r s6 ⟨hr, I6⟩ => ?_
      subst hr
      obtain ⟨a6, b6, _⟩ := I6.pin (s.heap.objs.size, { cls := .type "list", data := .seq its.toArray k }) (List.mem_append_right _ (List.mem_singleton.mpr rfl))
      have J6 := I6.pins_of (pins' := []) (fun p hp => nomatch hp)
      have I7 := comp_back I hf e3' J6 (Nat.le_trans l5 hz) v5 a6 b6
      have hC : H5 (pushed s).heap.objs.size = none := J6.free
      refine hR _ s6 _ (show s.heap.objs.size ≤ (pushed s).heap.objs.size by omega) (fun z => by have z' : (pushed s).heap.objs.size = s.heap.objs.size := z; omega) I7 (q _ b6) (by rw [upd_ne (fun z => by have z' : (pushed s).heap.objs.size = s.heap.objs.size := z; omega)]; exact hC) ?_
      obtain ⟨m, hn, _⟩ := J6.loc
      exact ⟨m, hn⟩
    · refine thn (T.item (compCx X own F scope (pushed s).heap.objs.size (pushed s) H (s.heap.objs.size :: fp)) rfl rfl rfl hc i _ s5 _ H5 (fun _ _ => False) pn5 (fp5 fr5) t5 go) fun r s6 ⟨u, hr, h6⟩ => ?_
      subst hr
      refine thn h6 fun _ s7 ⟨x, H7, I7, r7, y7, t7, fr7⟩ => ?_
      have J7 := I7.pinned (fp5 fr7) (T.obj _ _ t7)
      refine thn (hg _ _ _ _ _ s7 _ H7 x u _ J7 r7 (step x H7 y7)) fun _ s8 ⟨σ8, H8, I8, wk, q8⟩ => ?_
      refine thn (ht _ _ _ _ _ s8 σ8 H8 _ I8 q8) fun ok s9 ⟨H9, I9, q9⟩ => ?_
      have keep : ∀ {σ' : St} {H' : Hp} {s' : Shared}, Inv (compCx X own F scope (pushed s).heap.objs.size (pushed s) H (s.heap.objs.size :: fp)) ([(s.heap.objs.size, { cls := .type "list", data := .seq its.toArray k })] ++ pinsAt fp s7.heap) σ' H' s' →
          tn (i + 1) s'.heap ∧ (∀ b ∈ fp, H' b = none) ∧ H' s.heap.objs.size = none ∧ s'.heap.get? s.heap.objs.size = some { cls := .type "list", data := .seq its.toArray k } := fun {σ' H' s'} J => by
        have pa := J.pin (s.heap.objs.size, { cls := .type "list", data := .seq its.toArray k }) (List.mem_append_right _ (List.mem_append_left _ (List.mem_singleton.mpr rfl)))
        refine ⟨T.keep _ _ _ t7 fun b hb o e => (J.pin (b, o) (List.mem_append_right _ (List.mem_append_right _ (mem_pinsAt hb e)))).1, fun b hb => ?_, pa.2.1, pa.1⟩
        obtain ⟨o, e, d⟩ := T.obj _ _ t7 b hb
        exact (J.pin (b, o) (List.mem_append_right _ (List.mem_append_right _ (mem_pinsAt hb e)))).2.1
      cases ok with
      | false =>
        rw [if_neg Bool.false_ne_true] at q9 ⊢
        obtain ⟨m', hm, w9⟩ := hN _ _ q9
        obtain ⟨a1, a2, a3, a4⟩ := keep I9
        exact ⟨m', hm, i + 1, ys, H9, its, k, (I9.pins_of (pins' := []) (fun p hp => nomatch hp)).weak wk.1 wk.2, a1, a2, a3, v5, a4, Nat.le_succ_of_le l5, w9⟩
      | true =>
        rw [if_pos rfl] at q9 ⊢
        refine thn (he _ _ _ _ _ s9 σ8 H9 _ I9 q9) fun u' s10 ⟨y, H10, I10, r10, q10⟩ => ?_
        obtain ⟨m', hm, w10⟩ := hN _ _ q10
        obtain ⟨a1, a2, a3, a4⟩ := keep I10
        have hl := v5.length
        refine call_meets PySem.F.slot_list_append ⟨_, a4, rfl⟩ PySem.F.entry_list_append (PySem.F.args_list_append_2 _ _) (PySem.list_append s.heap.objs.size its.toArray k u' (by rw [List.size_toArray]; omega)) ⟨a4, ?_⟩
        have q := PySem.IsL.update a4 (fun xs : Array Value => xs.push u')
        have eq : its.toArray.push u' = (its ++ [u']).toArray := by simp
        rw [eq] at q
        obtain ⟨x1, x2⟩ := I0.ok.exf s.heap.objs.size List.mem_cons_self
        have I11 := (I10.pins_of (pins' := []) (fun p hp => nomatch hp)).turned (it := s.heap.objs.size) (t' := s10.toks) (h' := s10.heap.update s.heap.objs.size (Obj.mapSeq (fun xs : Array Value => xs.push u'))) (fun b o hb e => (Heap.get?_update_other s10.heap _ (Ne.symm hb)).trans e) a3 x1 (.inl List.mem_cons_self) x2 (fun p hp => absurd (show p ∈ ([] : List (Addr × Obj)) from hp) (by simp))
        refine ⟨m', hm, i + 1, ys ++ [y], H10, its ++ [u'], _, I11.weak wk.1 wk.2, ?_, a2, a3, v5.append (.cons r10 .nil), q, by rw [List.length_append, List.length_singleton]; omega, w10⟩
        exact T.keep _ _ _ a1 fun b hb o e => (Heap.get?_update_other s10.heap _ (Nat.ne_of_gt (hlt b hb))).trans e
  have loop' := codeAny_mono loop (R' := fun r s' => Value.ref s.heap.objs.size = .ref s.heap.objs.size ∧ RR (pushed s).heap.objs.size r s') fun r s' z => ⟨rfl, z⟩
  exact codeAny_compStart_list loop' (T.self X.A 0 _ _ _ ht0 loop')

theorem pe_comp (S : CompSc X scope own F) (hc : X.calm = true) (hi : PI X tg iter wi)
    (hg : ∀ C s₃ H₃ ex, PG (compCx X own F scope C s₃ H₃ ex) tg g) (ht : ∀ C s₃ H₃ ex, PTs (compCx X own F scope C s₃ H₃ ex) ifs tt) (he : ∀ C s₃ H₃ ex, PE (compCx X own F scope C s₃ H₃ ex) elt te)
    (hs : ∀ x, foldedSetIterable iter X.env x = pure x := by intro _; rfl) : PE X (.ListComp elt [⟨tg, iter, ifs, 0⟩] scope pos) (tComp own F wi g tt te) := by
  intro pins s σ H Q I h
  rw [eval_ListComp]
  refine wpAny_comprehension_free (use := none) rfl hs (closureFor_clo (I.freeCells S)) S.kind S.lc ?_
  refine thn (hi pins s σ H _ I h) fun v s1 h1 => thn h1 fun itv s2 ⟨it, fp, tn, J, H2, e, I2, T, st2, f2, q2⟩ => ?_
  subst e
  refine thn (comp_run (Q := Q) (RR := fun C r s' => compPost (model X.prog X.w) X.A X.xe none (EP X pins σ Q) (.ref s2.heap.objs.size) C r s') S hc hg ht he I2 T st2 f2 q2 fun C s4 H4 c1 c2 I4 q4 n4 hm => ?_) fun acc s3 h3 => thn h3 fun cenv s4 h4 => codeAny_mono h4 fun r s' ⟨ea, hr⟩ => ?_
  · obtain ⟨m, hn⟩ := hm
    exact ⟨m, hn, fun h' hs' => ⟨.ref s2.heap.objs.size, H4, comp_letgo I2 c1 I4 n4 hs', rfl, q4⟩⟩
  · rw [ea]; exact hr

/-- x = [..], where the store comes ahead of the letting go -/
theorem ps_comp {i : Nat} {x : Str} {pos' spos : Pos} (hN : X.N.Nodup) (hi' : X.N[i]? = some x) (hx : Loc X.env.scope x) (S : CompSc X scope own F) (hc : X.calm = true) (hi : PI X tg iter wi)
    (hg : ∀ C s₃ H₃ ex, PG (compCx X own F scope C s₃ H₃ ex) tg g) (ht : ∀ C s₃ H₃ ex, PTs (compCx X own F scope C s₃ H₃ ex) ifs tt) (he : ∀ C s₃ H₃ ex, PE (compCx X own F scope C s₃ H₃ ex) elt te)
    (hsw : swapsWith (.ListComp elt [⟨tg, iter, ifs, 0⟩] scope pos) (some (.Name x pos')) spos.line X.env = pure true := by rfl)
    (hs : ∀ x, foldedSetIterable iter X.env x = pure x := by intro _; rfl) (hf : X.fn x = true ∨ X.env.scope.names.lookup x = some .local := by first | exact .inl rfl | exact .inr rfl | assumption) :
    PS X (.Assign [.Name x pos'] (.ListComp elt [⟨tg, iter, ifs, 0⟩] scope pos) spos) (tAsg (tComp own F wi g tt te) (gName i)) := by
  intro pins s σ H D I h
  rw [exec_Assign_Name_used x pos' _ _ hsw]
  refine wpAny_bind (wpAny_standAt (wpAny_bind ?_))
  refine wpAny_bind ?_
  refine wpAny_mono (Q := fun _ s' => SP X pins D .next s') ?_ (fun _ s' q => wpAny_pure (wpAny_pure q)) fun _ _ z => z
  refine wpAny_comprehension_free (use := some (assign (.Name x pos') X.env)) rfl hs (closureFor_clo (I.freeCells S)) S.kind S.lc ?_
  refine thn (hi pins s σ H _ I h) fun v s1 h1 => thn h1 fun itv s2 ⟨it, fp, tn, J, H2, e, I2, T, st2, f2, q2⟩ => ?_
  subst e
  refine thn (comp_run (Q := fun x H1 => gName i x σ H1 D.nx) (RR := fun C r s' => compPost (model X.prog X.w) X.A X.xe (some (assign (.Name x pos') X.env)) (fun _ s' => SP X pins D .next s') (.ref s2.heap.objs.size) C r s') S hc hg ht he I2 T st2 f2 q2 fun C s4 H4 c1 c2 I4 q4 n4 hm => ?_) fun acc s3 h3 => thn h3 fun cenv s4 h4 => codeAny_mono h4 fun r s' ⟨ea, hr⟩ => ?_
  · obtain ⟨m, hn⟩ := hm
    refine wpAny_assign_Name (store_ok2 I4 hN hi' hx (v := .ref s2.heap.objs.size) rfl (fun s5 I5 ⟨a, sb, ha⟩ => ?_) hf)
    have aC : a ≠ C := by
      rcases ha with z | z
      · rw [z]; exact Nat.ne_of_lt (Nat.lt_of_lt_of_le I2.lt c1)
      · obtain ⟨v, u⟩ := I2.cell _ _ z
        exact Nat.ne_of_lt (Nat.lt_of_lt_of_le u.lt c1)
    exact ⟨m, hn.sameBut sb (Ne.symm aC), fun h' hs' => ⟨_, H4, comp_letgo I2 c1 I5 n4 hs', q4⟩⟩
  · rw [ea]; exact hr
end
end L2

namespace L2
open PySem PySem.Spec PyProof.Rows

/-! ### things as trees -/
inductive T where
  | non | bl (b : Bool) | int (i : Int) | str (x : List Nat) | lst (ts : List T) | dic (ks : List (List Nat)) (ts : List T) | tup (ts : List T)

mutual
/-- the value stands for the tree -/
def Rep (H : Hp) : V → T → Prop
  | v, .non => v = .non
  | v, .bl b => v = .bl b
  | v, .int i => v = .int i
  | v, .str x => v = .str (tx x)
  | v, .lst ts => ∃ a vs, v = .ref a ∧ H a = some (.lst vs) ∧ Reps H vs ts
  | v, .dic ks ts => ∃ a ps, v = .ref a ∧ H a = some (.dK ps) ∧ ps.map (·.1) = ks.map (fun k => (Sum.inr (tx k) : Key)) ∧ Reps H (ps.map (·.2)) ts
  | v, .tup ts => ∃ a vs, v = .ref a ∧ H a = some (.tup vs) ∧ Reps H vs ts
def Reps (H : Hp) : List V → List T → Prop
  | vs, [] => vs = []
  | vs, t :: ts => ∃ v r, vs = v :: r ∧ Rep H v t ∧ Reps H r ts
end
mutual
theorem Rep.same {H H' : Hp} (e : Same H H') : ∀ (v : V) (t : T), Rep H v t → Rep H' v t
  | _, .non, h => h
  | _, .bl _, h => h
  | _, .int _, h => h
  | _, .str _, h => h
  | _, .lst ts, ⟨a, vs, h1, h2, h3⟩ => ⟨a, vs, h1, e _ _ h2, Reps.same e vs ts h3⟩
  | _, .dic ks ts, ⟨a, ps, h1, h2, h3, h4⟩ => ⟨a, ps, h1, e _ _ h2, h3, Reps.same e _ ts h4⟩
  | _, .tup ts, ⟨a, vs, h1, h2, h3⟩ => ⟨a, vs, h1, e _ _ h2, Reps.same e vs ts h3⟩
theorem Reps.same {H H' : Hp} (e : Same H H') : ∀ (vs : List V) (ts : List T), Reps H vs ts → Reps H' vs ts
  | _, [], h => h
  | _, t :: ts, ⟨v, r, h1, h2, h3⟩ => ⟨v, r, h1, Rep.same e v t h2, Reps.same e r ts h3⟩
end
theorem Reps.snoc {H : Hp} {v : V} {t : T} (h : Rep H v t) : ∀ {vs : List V} {ts : List T}, Reps H vs ts → Reps H (vs ++ [v]) (ts ++ [t])
  | _, [], e => by
    have e' : _ = [] := e
    subst e'
    exact ⟨v, [], rfl, h, rfl⟩
  | _, t' :: ts, ⟨v', r, h1, h2, h3⟩ => by
    subst h1
    exact ⟨v', r ++ [v], rfl, h2, Reps.snoc h h3⟩
theorem Reps.length {H : Hp} : ∀ {vs : List V} {ts : List T}, Reps H vs ts → vs.length = ts.length
  | _, [], e => by
    have e' : _ = [] := e
    subst e'; rfl
  | _, t' :: ts, ⟨v', r, h1, h2, h3⟩ => by
    subst h1
    simp [Reps.length h3]
theorem Reps.get {H : Hp} : ∀ {vs : List V} {ts : List T} {i : Nat} {v : V}, Reps H vs ts → vs[i]? = some v → ∃ t, ts[i]? = some t ∧ Rep H v t
  | _, [], i, v, e, h => by
    have e' : _ = [] := e
    subst e'; simp at h
  | _, t' :: ts, 0, v, ⟨v', r, h1, h2, h3⟩, h => by
    subst h1
    simp at h; subst h
    exact ⟨t', rfl, h2⟩
  | _, t' :: ts, i + 1, v, ⟨v', r, h1, h2, h3⟩, h => by
    subst h1
    obtain ⟨t, e, q⟩ := Reps.get (i := i) (v := v) h3 (by simpa using h)
    exact ⟨t, by simpa using e, q⟩
def tyT : T → String
  | .non => "NoneType"
  | .bl _ => "bool"
  | .int _ => "int"
  | .str _ => "str"
  | .lst _ => "list"
  | .dic _ _ => "dict"
  | .tup _ => "tuple"
theorem Rep.ty {H : Hp} {v : V} : ∀ {t : T}, Rep H v t → tyS H v = some (tyT t)
  | .non, h => by cases (show v = .non from h); rfl
  | .bl b, h => by cases (show v = .bl b from h); rfl
  | .int i, h => by cases (show v = .int i from h); rfl
  | .str x, h => by cases (show v = .str (tx x) from h); rfl
  | .lst ts, h => by obtain ⟨a, vs, e, h2, _⟩ := h; subst e; show (match H a with | some (.lst _) => some "list" | some (.tup _) => some "tuple" | some (.dK _) => some "dict" | _ => none) = _; rw [h2]; rfl
  | .dic ks ts, h => by obtain ⟨a, vs, e, h2, _⟩ := h; subst e; show (match H a with | some (.lst _) => some "list" | some (.tup _) => some "tuple" | some (.dK _) => some "dict" | _ => none) = _; rw [h2]; rfl
  | .tup ts, h => by obtain ⟨a, vs, e, h2, _⟩ := h; subst e; show (match H a with | some (.lst _) => some "list" | some (.tup _) => some "tuple" | some (.dK _) => some "dict" | _ => none) = _; rw [h2]; rfl

/-! ### what the drawn things are -/
def letL : List Nat := (List.range 26).map (· + 97)
def figL : List Nat := (List.range 10).map (· + 48)
/-- the signs of texts: from the blank to ~ but the percent sign -/
def sgnL : List Nat := ((List.range 95).map (· + 32)).filter (· != 37)
def okName (w : List Nat) : Bool := decide (1 ≤ w.length) && decide (w.length ≤ 12) && (match w with | [] => false | c :: _ => decide (c ∈ letL)) && w.all (fun c => decide (c ∈ letL ++ figL))
def okText (w : List Nat) : Bool := decide (w.length ≤ 30) && w.all (fun c => decide (c ∈ sgnL))
mutual
def Nice : Nat → T → Prop
  | _, .non => True
  | _, .bl _ => True
  | _, .int i => -(10 ^ 12) ≤ i ∧ i ≤ 10 ^ 12
  | _, .str x => okText x = true
  | d, .lst ts => 1 ≤ d ∧ ts.length ≤ 4 ∧ NiceL (d - 1) ts
  | d, .dic ks ts => 1 ≤ d ∧ ts.length ≤ 4 ∧ ks.length = ts.length ∧ ks.Nodup ∧ (∀ k ∈ ks, okName k = true) ∧ NiceL (d - 1) ts
  | _, .tup _ => False
def NiceL : Nat → List T → Prop
  | _, [] => True
  | d, t :: ts => Nice d t ∧ NiceL d ts
end
theorem NiceL.snoc {d : Nat} {t : T} (h : Nice d t) : ∀ {ts : List T}, NiceL d ts → NiceL d (ts ++ [t])
  | [], _ => ⟨h, trivial⟩
  | _ :: ts, ⟨a, b⟩ => ⟨a, NiceL.snoc h b⟩
end L2

namespace L2
open PySem PySem.Spec PyProof.Rows
/-! ### readings, opened by rewriting -/
theorem same_new {H : Hp} {p : Addr} (h : H p = none) (o : HO) : Same H (upd H p o) := fun b u q => by rw [upd_ne (ne_of_none q h)]; exact q
section
variable {K : PySem.W.Frag} {H : Hp} {Q : VK} {a b : Addr} {xs ys : List V}
theorem rEqL_i {neg : Bool} (h1 : SqL K H a xs) (h2 : SqL K H b ys) (f1 : xs.all flatV = true) (f2 : ys.all flatV = true) (q : Q (.bl (if neg then !eqLs xs ys else eqLs xs ys)) H) : rEqL K neg (.ref a) (.ref b) H Q :=
  ⟨a, b, xs, ys, rfl, rfl, h1, h2, f1, f2, q⟩
theorem rIxL_i {i : Int} {v : V} (h1 : SqL K H a xs) (h2 : atI xs i = some v) (q : Q v H) : rIxL K (.ref a) (.int i) H Q := ⟨a, xs, i, v, rfl, rfl, h1, h2, q⟩
theorem rIxT_i {i : Int} {v : V} (h1 : SqT K H a xs) (h2 : atI xs i = some v) (q : Q v H) : rIxT K (.ref a) (.int i) H Q := ⟨a, xs, i, v, rfl, rfl, h1, h2, q⟩
theorem rIxS_i {z : Str} {i : Int} {c : Nat} (h1 : z.length ≤ sizeLine) (h2 : atI (ts z) i = some c) (q : Q (.str (tx [c])) H) : rIxS (.str z) (.int i) H Q := ⟨z, i, c, rfl, rfl, h1, h2, q⟩
end
/-- an item at a place that is not written -/
theorem atI_of {α : Type} {xs : List α} {i : Int} (h0 : 0 ≤ i) (h1 : i < xs.length) : ∃ v, atI xs i = some v ∧ v ∈ xs := by
  obtain ⟨j, rfl⟩ := Int.eq_ofNat_of_zero_le h0
  have hj : j < xs.length := by omega
  exact ⟨xs[j], atI_nat (by simp [hj]), List.getElem_mem hj⟩
theorem atI_getD {α : Type} {xs : List α} {i : Int} {d : α} (h0 : 0 ≤ i) (h1 : i < xs.length) : atI xs i = some (xs.getD i.toNat d) := by
  obtain ⟨j, rfl⟩ := Int.eq_ofNat_of_zero_le h0
  have hj : j < xs.length := by omega
  refine atI_nat ?_
  simp [List.getD, hj]

/-- a comprehension over one name: Pv holds between two turns -/
theorem comp_by {x : Str} {F : List (Str × Nat)} {J : It} {n : Nat} {tt : TT} {te : TE} {σ : St} {Q : VK} {H1 : Hp} (Pv : Nat → List V → Hp → Prop) (hn : n ≤ sizeLine) (h0 : Pv 0 [] H1) (hgo : ∀ i ys H, i < n → Pv i ys H → J.go i H)
    (hst : ∀ ys H, Pv n ys H → J.stop n H)
    (hs : ∀ i ys H y H2, i < n → ys.length ≤ i → Pv i ys H → J.yld i H y H2 → tt (some y :: F.map (fun p => (σ[p.2]?).join)) H2 fun b H3 => if b = true then te (some y :: F.map (fun p => (σ[p.2]?).join)) H3 fun z H4 => Pv (i + 1) (ys ++ [z]) H4 else Pv (i + 1) ys H3)
    (hd : ∀ ys H, ys.length ≤ n → Pv n ys H → ∀ p, H p = none → Q (.ref p) (upd H p (.lst ys))) : CompBody [x] F (gName 0) tt te σ Q J H1 := by
  refine ⟨fun i m ys H => m = n - i ∧ i ≤ n ∧ Pv i ys H, ⟨n, by simp, Nat.zero_le _, h0⟩, ?_⟩
  rintro i m ys H ⟨rfl, hi, p⟩ hl
  by_cases hlt : i < n
  · refine .inr ⟨hgo i ys H hlt p, by omega, Pv (i + 1), fun ys' H'' q => ⟨n - (i + 1), by omega, rfl, hlt, q⟩, fun y H2 hy => ?_⟩
    exact ⟨weak_set (i := 0) rfl, hs i ys H y H2 hlt hl p hy⟩
  · have e : i = n := by omega
    subst e
    exact .inl ⟨hst ys H p, hn, hd ys H hl p⟩
/-- .. over a range, without a test -/
theorem comp_rng {x : Str} {F : List (Str × Nat)} {lo : Int} {n : Nat} {te : TE} {σ : St} {Q : VK} {H1 : Hp} (Pv : Nat → List V → Hp → Prop) (hn : n ≤ sizeLine) (h0 : Pv 0 [] H1)
    (hs : ∀ (i : Nat) ys H, i < n → ys.length ≤ i → Pv i ys H → te (some (.int (lo + i)) :: F.map (fun p => (σ[p.2]?).join)) H fun z H4 => Pv (i + 1) (ys ++ [z]) H4)
    (hd : ∀ ys H, ys.length ≤ n → Pv n ys H → ∀ p, H p = none → Q (.ref p) (upd H p (.lst ys))) : CompBody [x] F (gName 0) tTrue te σ Q (Itr lo n) H1 :=
  comp_by Pv hn h0 (fun i _ _ h _ => h) (fun _ _ _ => Nat.le_refl _) (fun i ys H y H2 h1 h2 h3 h4 => by
    obtain ⟨rfl, rfl⟩ := h4
    exact hs i ys _ h1 h2 h3) hd
/-- .. over a text -/
theorem comp_str {x : Str} {F : List (Str × Nat)} {w : Str} {tt : TT} {te : TE} {σ : St} {Q : VK} {H1 : Hp} (Pv : Nat → List V → Hp → Prop) (hn : (ts w).length ≤ sizeLine) (h0 : Pv 0 [] H1)
    (hs : ∀ i c ys H, (ts w)[i]? = some c → ys.length ≤ i → Pv i ys H → tt (some (.str (tx [c])) :: F.map (fun p => (σ[p.2]?).join)) H fun b H3 => if b = true then te (some (.str (tx [c])) :: F.map (fun p => (σ[p.2]?).join)) H3 fun z H4 => Pv (i + 1) (ys ++ [z]) H4 else Pv (i + 1) ys H3)
    (hd : ∀ ys H, ys.length ≤ (ts w).length → Pv (ts w).length ys H → ∀ p, H p = none → Q (.ref p) (upd H p (.lst ys))) : CompBody [x] F (gName 0) tt te σ Q (Its w) H1 :=
  comp_by Pv hn h0 (fun i _ _ h _ => h) (fun _ _ _ => Nat.le_refl _) (fun i ys H y H2 h1 h2 h3 h4 => by
    obtain ⟨rfl, c, hc, rfl⟩ := h4
    exact hs i c ys _ hc h2 h3) hd
end L2
namespace L2
open PySem PySem.Spec PyProof.Rows
section
variable {X : Cx} {x : Str} {pos : Pos}
theorem pe_gs {z : Str} (hg : Gl X x) (h : ∃ t, X.mg x = some (.str z t)) (hd : (x == ("__debug__" : Str)) = false := by decide) : PE X (.Name x pos) (tC (.str z)) := by
  obtain ⟨t, h⟩ := h
  exact pe_glob hg h ⟨t, rfl⟩ hd
theorem pe_gi {z : Int} (hg : Gl X x) (h : ∃ t, X.mg x = some (.int z t)) (hd : (x == ("__debug__" : Str)) = false := by decide) : PE X (.Name x pos) (tC (.int z)) := by
  obtain ⟨t, h⟩ := h
  exact pe_glob hg h ⟨t, rfl⟩ hd
end
end L2
namespace L2
open PySem PySem.Spec PyProof.Rows
theorem cxOf_K {CX : CXT} {P : Program} {w : World} {K : PySem.W.Frag} {mg : Str → Option Value} {base : Heap} {N : List Str} {qual : Str} {scope : Scope} {f : Addr} {cd : Value} {A : Around} {outer : List Env} {s : Shared} {H : Hp} {E : XK} : (cxOf CX P w K mg base N qual scope f cd A outer s H E).K = K := rfl
theorem nox_K {X : Cx} : X.nox.K = X.K := rfl
theorem compCx_K {X : Cx} {own : List Str} {F : List (Str × Nat)} {scope : Scope} {C : Addr} {s₃ : Shared} {H₃ : Hp} {ex : List Addr} : (compCx X own F scope C s₃ H₃ ex).K = X.K := rfl
theorem flat_ints (ns : List Int) : (ns.map V.int).all flatV = true := by
  rw [List.all_map]; exact List.all_eq_true.mpr fun _ _ => rfl
theorem flat_strs (ns : List Str) : (ns.map V.str).all flatV = true := by
  rw [List.all_map]; exact List.all_eq_true.mpr fun _ _ => rfl
theorem eqLs_nil (xs : List V) : eqLs xs [] = xs.isEmpty := by cases xs <;> rfl
end L2
namespace L2
theorem natAbs10 : Int.natAbs 10 = 10 := rfl
end L2
namespace L2
open PySem PySem.Spec PyProof.Rows
/-! ### for: the word between two turns -/
def ForB (g : TG) (tb : TS) (D : Ends) (σ : St) (J : It) (H1 : Hp) : Prop := ∃ W : Nat → Nat → St → Hp → Prop, (∃ m, W 0 m σ H1) ∧ ∀ i m σ H, W i m σ H →
  (J.stop i H ∧ D.nx σ H) ∨ (J.go i H ∧ ∃ N : St → Hp → Prop, (∀ σ' H', N σ' H' → ∃ m', m' < m ∧ W (i + 1) m' σ' H') ∧ ∀ x H', J.yld i H x H' → g x σ H' fun σ2 H2 => tb { D with nx := N, ct := N, bk := D.nx } σ2 H2)
theorem tFor_eq (wi : TI) (g : TG) (tb : TS) (D : Ends) (σ : St) (H : Hp) : tFor wi g tb D σ H = wi σ H fun J H1 => ForB g tb D σ J H1 := rfl
theorem forB_rng {lo : Int} {n : Nat} {g : TG} {tb : TS} {D : Ends} {σ : St} {H : Hp} (Pv : Nat → St → Hp → Prop) (h0 : Pv 0 σ H)
    (hs : ∀ i σ H, i < n → Pv i σ H → g (.int (lo + i)) σ H fun σ2 H2 => tb { D with nx := Pv (i + 1), ct := Pv (i + 1), bk := D.nx } σ2 H2) (hd : ∀ σ H, Pv n σ H → D.nx σ H) : ForB g tb D σ (Itr lo n) H := for_range Pv h0 hs hd
theorem forB_list {K : PySem.W.Frag} {a : Addr} {xs : List V} {g : TG} {tb : TS} {D : Ends} {σ : St} {H : Hp} (Pv : Nat → St → Hp → Prop) (h0 : Pv 0 σ H) (hl : ∀ i σ H, i ≤ xs.length → Pv i σ H → SqL K H a xs)
    (hs : ∀ i x σ H, xs[i]? = some x → Pv i σ H → g x σ H fun σ2 H2 => tb { D with nx := Pv (i + 1), ct := Pv (i + 1), bk := D.nx } σ2 H2) (hd : ∀ σ H, Pv xs.length σ H → D.nx σ H) : ForB g tb D σ (Itl K a) H := for_list Pv h0 hl hs hd
section
variable {X : Cx}
theorem call_intB : CallR X (.type "int") (fun xs H Q => ∃ k, xs = [.bl k] ∧ Q (.int (if k then 1 else 0)) H) := fun pins s σ H xs us Q I r h => call_int1 pins s σ H xs us Q I r (.inr h)
theorem call_len_l : CallR X (.builtin "len") (fun xs H Q => ∃ p, xs = [.ref p] ∧ ∃ ys, SqL X.K H p ys ∧ Q (.int ys.length) H) := fun pins s σ H xs us Q I r ⟨p, e, ys, h, q⟩ => call_len_seq pins s σ H xs us Q I r ⟨p, ys, e, .inl h, q⟩
end
/-! ### a record's pairs -/
abbrev nK (k : List Nat) : Key := Sum.inr (tx k)
theorem nK_inj {a b : List Nat} (h : nK a = nK b) : a = b := by
  have e : tx a = tx b := Sum.inr.inj h
  rw [← ts_tx a, e, ts_tx]
theorem Reps.repl {H : Hp} {k : Key} {v : V} {t : T} (hv : Rep H v t) : ∀ {ps : List (Key × V)} {ts : List T}, Reps H (ps.map (·.2)) ts → ∃ ts', Reps H ((ps.map fun kv => if kv.1 = k then (kv.1, v) else kv).map (·.2)) ts' ∧ ts'.length = ts.length ∧ ∀ u ∈ ts', u ∈ ts ∨ u = t
  | [], ts, h => ⟨ts, h, rfl, fun u hu => .inl hu⟩
  | p :: ps, [], h => by
    have h' : (p :: ps).map (·.2) = [] := h
    cases h'
  | p :: ps, u :: ts, ⟨v', r, e, h1, h2⟩ => by
    have e' : p.2 :: ps.map (·.2) = v' :: r := e
    injection e' with e1 e2
    subst e1 e2
    obtain ⟨ts', r', l', m'⟩ := Reps.repl hv h2
    by_cases hk : p.1 = k
    · refine ⟨t :: ts', ⟨v, _, ?_, hv, r'⟩, by simp [l'], fun z hz => ?_⟩
      · rw [List.map_cons, if_pos hk, List.map_cons]
      · rcases List.mem_cons.mp hz with q | q
        · exact .inr q
        · exact (m' z q).imp (List.mem_cons_of_mem _) id
    · refine ⟨u :: ts', ⟨p.2, _, ?_, h1, r'⟩, by simp [l'], fun z hz => ?_⟩
      · rw [List.map_cons, if_neg hk, List.map_cons]
      · rcases List.mem_cons.mp hz with q | q
        · exact .inl (by rw [q]; exact List.mem_cons_self)
        · exact (m' z q).imp (List.mem_cons_of_mem _) id
theorem put_rep {H : Hp} {ps : List (Key × V)} {ks : List (List Nat)} {ts : List T} {n : List Nat} {v : V} {t : T} (hk : ps.map (·.1) = ks.map nK) (hR : Reps H (ps.map (·.2)) ts) (nd : ks.Nodup) (hv : Rep H v t) :
    ∃ (ks' : List (List Nat)) (ts' : List T), (putK ps (nK n) v).map (·.1) = ks'.map nK ∧ Reps H ((putK ps (nK n) v).map (·.2)) ts' ∧ ks'.Nodup ∧ (∀ k ∈ ks', k ∈ ks ∨ k = n) ∧ (∀ u ∈ ts', u ∈ ts ∨ u = t) ∧ ks'.length ≤ ks.length + 1 := by
  unfold putK
  by_cases h : (ps.any fun kv => decide (kv.1 = nK n)) = true
  · rw [if_pos h]
    obtain ⟨ts', r', l', m'⟩ := Reps.repl (k := nK n) hv hR
    refine ⟨ks, ts', ?_, r', nd, fun k hk => .inl hk, m', Nat.le_succ _⟩
    rw [← hk, List.map_map]
    apply List.map_congr_left
    intro p _
    show (if p.1 = nK n then (p.1, v) else p).1 = p.1
    split <;> rfl
  · rw [if_neg h]
    refine ⟨ks ++ [n], ts ++ [t], by rw [List.map_append, hk, List.map_append]; rfl, by rw [List.map_append]; exact Reps.snoc hv hR, ?_, fun k hk => ?_, fun u hu => ?_, by simp⟩
    · refine nd_snoc nd fun hm => h (List.any_eq_true.mpr ?_)
      have hm' : nK n ∈ ps.map (·.1) := by rw [hk]; exact List.mem_map.mpr ⟨n, hm, rfl⟩
      obtain ⟨p, hp, e⟩ := List.mem_map.mp hm'
      exact ⟨p, hp, decide_eq_true e⟩
    · rcases List.mem_append.mp hk with q | q
      · exact .inl q
      · exact .inr (List.mem_singleton.mp q)
    · rcases List.mem_append.mp hu with q | q
      · exact .inl q
      · exact .inr (List.mem_singleton.mp q)
theorem NiceL_iff {d : Nat} : ∀ {ts : List T}, NiceL d ts ↔ ∀ t ∈ ts, Nice d t
  | [] => ⟨fun _ _ h => (nomatch h), fun _ => trivial⟩
  | u :: ts => by
    show (Nice d u ∧ NiceL d ts) ↔ _
    rw [NiceL_iff (ts := ts)]
    exact ⟨fun h t ht => (List.mem_cons.mp ht).elim (fun e => e ▸ h.1) (h.2 t), fun h => ⟨h u List.mem_cons_self, fun t ht => h t (List.mem_cons_of_mem _ ht)⟩⟩
end L2

namespace L2
open PySem PySem.Spec PyProof.Rows
/-! ### the law's own helpers: facts about the signs that they draw from -/
theorem ts_l36 : ts (Str.ofString "abcdefghijklmnopqrstuvwxyz0123456789") = letL ++ figL := by decide +kernel
theorem ts_l26 : ts (Str.ofString "abcdefghijklmnopqrstuvwxyz") = letL := by decide +kernel
theorem ts_f10 : ts (Str.ofString "0123456789") = figL := by decide +kernel
theorem ts_a : ts (Str.ofString "a") = [97] := by decide +kernel
theorem ts_q : ts (Str.ofString "'") = [39] := by decide +kernel
theorem of_nil : Str.ofString "" = tx [] := by decide +kernel
theorem rep_one (c k : Nat) : (List.replicate k [c]).flatten = List.replicate k c := by
  induction k with
  | zero => rfl
  | succ k ih => rw [List.replicate_succ, List.flatten_cons, ih, List.replicate_succ]; rfl
theorem okName_of {w : List Nat} (h1 : w.length ≤ 12) (h3 : ∃ c r, w = c :: r ∧ c ∈ letL) (h4 : ∀ c ∈ w, c ∈ letL ++ figL) : okName w = true := by
  obtain ⟨c, r, rfl, hc⟩ := h3
  unfold okName
  simp only [Bool.and_eq_true, decide_eq_true_eq, List.all_eq_true]
  exact ⟨⟨⟨by simp, h1⟩, hc⟩, h4⟩
theorem okText_of {w : List Nat} (h1 : w.length ≤ 30) (h4 : ∀ c ∈ w, c ∈ sgnL) : okText w = true := by
  unfold okText
  simp only [Bool.and_eq_true, decide_eq_true_eq, List.all_eq_true]
  exact ⟨h1, h4⟩
theorem at_l36 {i : Int} (h0 : 0 ≤ i) (h1 : i < 36) : ∃ c, atI (letL ++ figL) i = some c ∧ c ∈ letL ++ figL := atI_of h0 (by show i < ((36 : Nat) : Int); omega)
theorem at_l26 {i : Int} (h0 : 0 ≤ i) (h1 : i < 26) : ∃ c, atI (letL ++ figL) i = some c ∧ c ∈ letL := by
  obtain ⟨j, rfl⟩ := Int.eq_ofNat_of_zero_le h0
  have hj : j < 26 := by omega
  have hj' : j < letL.length := hj
  refine ⟨letL[j], atI_nat (by rw [List.getElem?_append_left hj']; simp [hj']), List.getElem_mem hj'⟩
theorem a_letL : 97 ∈ letL := by decide
theorem letL_sub {c : Nat} (h : c ∈ letL) : c ∈ letL ++ figL := List.mem_append_left _ h
end L2
namespace L2
theorem all_filter {α : Type} (p : α → Bool) : ∀ l : List α, l.all p = (l.filter fun c => !p c).isEmpty
  | [] => rfl
  | a :: r => by
    rw [List.all_cons, List.filter_cons, all_filter p r]
    cases p a <;> simp
end L2
namespace L2
open PySem PySem.Spec PyProof.Rows
theorem ts_sgn : Str.ofString " !\"#$&'()*+,-./0123456789:;<=>?@ABCDEFGHIJKLMNOPQRSTUVWXYZ[\\]^_`" ++ Str.ofString "abcdefghijklmnopqrstuvwxyz{|}~" = tx sgnL := by decide +kernel
theorem q_sgnL : 39 ∈ sgnL := by decide
theorem at_sgn {i : Int} (h0 : 0 ≤ i) (h1 : i < 94) : ∃ c, atI sgnL i = some c ∧ c ∈ sgnL := atI_of h0 (by show i < ((94 : Nat) : Int); omega)
theorem flat_one (cs : List Nat) : ((cs.map fun c => tx [c]).map ts).flatten = cs := by
  induction cs with
  | nil => rfl
  | cons d r ih => simp only [List.map_cons, List.flatten_cons, ih, ts_tx]; rfl
end L2

namespace L2
open PySem PySem.Spec PyProof.Rows
/-! ### known for a walk, and freed again -/
theorem HOk.sim {P : Program} {w : World} {H H' : Hp} {h : Heap} (ok : HOk P w H h) (ho : ∀ b a, H b = some (.own a) → H' b = some (.own a)) (ht : ∀ b xs, H b = some (.tup xs) → H' b = some (.tup xs))
    (hs : ∀ b u, H' b = some u → H b = some u ∨ (∃ o, H b = some (.frz o u)) ∨ ∃ o u', u = .frz o u' ∧ H b = some u' ∧ h.get? b = some o) : HOk P w H' h := fun b u e => by
  rcases hs b u e with q | ⟨o, q⟩ | ⟨o, u', rfl, q, g⟩
  · exact (ok b u q).stay (fun _ _ _ z => z) (fun c z => ho c b z) fun c xs z => ht c xs z
  · obtain ⟨_, z⟩ := (show ObjOk P w H h b (.frz o u) from ok b _ q)
    exact z.stay (fun _ _ _ z => z) (fun c z => ho c b z) fun c xs z => ht c xs z
  · exact ⟨g, (ok b u' q).stay (fun _ _ _ z => z) (fun c z => ho c b z) fun c xs z => ht c xs z⟩
section
variable {X : Cx} {pins : List (Addr × Obj)} {σ σ' : St} {H H' : Hp} {s s' : Shared}
theorem Inv.sim (I : Inv X pins σ H s) (hn : ∀ b, H b = none → H' b = none) (ho : ∀ b a, H b = some (.own a) → H' b = some (.own a)) (ht : ∀ b xs, H b = some (.tup xs) → H' b = some (.tup xs))
    (hb : ∀ b ps, H b = some (.tbl ps) → H' b = some (.tbl ps)) (hf : ∀ b o u, X.H₀ b = some (.frz o u) → H' b = some (.frz o u))
    (hs : ∀ b u, H' b = some u → H b = some u ∨ (∃ o, H b = some (.frz o u)) ∨ ∃ o u', u = .frz o u' ∧ H b = some u' ∧ s.heap.get? b = some o) : Inv X pins σ H' s :=
  ⟨I.ok, I.os, I.bare, ⟨I.base.keep, I.base.slot, fun b o e n hx => hn b (I.base.free b o e n hx), I.base.there, fun b xs e => ht b xs (I.base.tups b xs e), hf, fun b ps e => by
    obtain ⟨m, q⟩ := I.base.tbls b ps e
    exact ⟨m, hb b _ q⟩⟩, I.loc, I.cell, hn _ I.free, fun x c e => hn _ (I.freeC x c e), fun p hp => by
    obtain ⟨a, b, c, d, e⟩ := I.pin p hp
    exact ⟨a, hn _ b, c, d, e⟩, I.hok.sim ho ht hs, I.len⟩
theorem Inv.freeze {d : Addr} {kvs : List (Key × V)} {o : Obj} (I : Inv X pins σ H s) (h : H d = some (.dK kvs)) (hg : s.heap.get? d = some o) : Inv X pins σ (upd H d (.frz o (.dK kvs))) s := by
  have ne : ∀ b u, H b = u → u ≠ some (.dK kvs) → b ≠ d := fun b u e n z => by subst z; exact n (e.symm.trans h)
  refine I.sim (fun b e => by rw [upd_ne (ne b _ e (by intro z; cases z))]; exact e) (fun b a e => by rw [upd_ne (ne b _ e (by intro z; cases z))]; exact e) (fun b a e => by rw [upd_ne (ne b _ e (by intro z; cases z))]; exact e)
    (fun b a e => by rw [upd_ne (ne b _ e (by intro z; cases z))]; exact e) (fun b o' u e => ?_) fun b u e => ?_
  · have e' := I.base.frzs b o' u e
    rw [upd_ne (ne b _ e' (by intro z; cases z))]; exact e'
  · by_cases hb : b = d
    · subst hb
      rw [upd_same] at e; cases e
      exact .inr (.inr ⟨o, _, rfl, h, hg⟩)
    · rw [upd_ne hb] at e; exact .inl e
/-- what was known to its object for a walk is freed again -/
def thaw (H H' : Hp) : Hp := fun b => match H b with
  | some (.frz _ _) => H' b
  | _ => match H' b with
    | some (.frz _ u) => some u
    | y => y
theorem thaw_frz {b : Addr} {o : Obj} {u : HO} (h : H b = some (.frz o u)) : thaw H H' b = H' b := by unfold thaw; rw [h]
theorem thaw_none {b : Addr} (h : H' b = none) : thaw H H' b = none := by unfold thaw; rw [h]; split <;> rfl
theorem thaw_of {b : Addr} {u : HO} (h : H' b = some u) (n : ∀ o v, u ≠ .frz o v) : thaw H H' b = some u := by
  unfold thaw; rw [h]
  split
  · rfl
  · cases u <;> first | rfl | exact absurd rfl (n _ _)
theorem thaw_at {b : Addr} {o : Obj} {u : HO} (h : H' b = some (.frz o u)) (n : ∀ o v, H b ≠ some (.frz o v)) : thaw H H' b = some u := by
  unfold thaw; rw [h]
  cases e : H b with
  | none => rfl
  | some v => cases v <;> first | rfl | exact absurd e (n _ _)
theorem thaw_inv {b : Addr} {u : HO} (h : thaw H H' b = some u) : H' b = some u ∨ ∃ o, H' b = some (.frz o u) := by
  unfold thaw at h
  split at h
  · exact .inl h
  · split at h
    · rename_i o v e
      cases h
      exact .inr ⟨_, e⟩
    · exact .inl h
theorem Inv.thaw (I : Inv X pins σ H s) (J : Inv X pins σ' H' s') : Inv X pins σ' (thaw H H') s' :=
  J.sim (fun b e => thaw_none e) (fun b a e => thaw_of e (by intro o v z; cases z)) (fun b a e => thaw_of e (by intro o v z; cases z)) (fun b a e => thaw_of e (by intro o v z; cases z))
    (fun b o u e => by rw [thaw_frz (I.base.frzs b o u e)]; exact J.base.frzs b o u e) fun b u e => (thaw_inv e).imp id .inl
/-- from H on, thawed: nothing that was tracked has changed -/
theorem thaw_same {H H' : Hp} (h : ∀ b u, H b = some u → H' b = some u ∨ ((∃ o, H' b = some (.frz o u)) ∧ ∀ o v, u ≠ .frz o v)) : Same H (L2.thaw H H') := fun b u e => by
  rcases h b u e with q | ⟨⟨o, q⟩, n⟩
  · cases u with
    | frz o v => rw [thaw_frz e]; exact q
    | _ => exact thaw_of q (by intro o v z; cases z)
  · refine thaw_at q fun o' v z => ?_
    rw [e] at z; cases z; exact n _ _ rfl
def tThaw (t : TE) : TE := fun σ H Q => t σ H fun v H' => Q v (thaw H H')
theorem pe_thaw {e : Expr} {t : TE} (h : PE X e t) : PE X e (tThaw t) := by
  intro pins s σ H Q I q
  refine thn (h pins s σ H _ I q) fun u s1 ⟨v, H1, I1, r, q1⟩ => ⟨v, _, I.thaw I1, r, q1⟩
def tThawS (t : TS) : TS := fun D σ H => t { nx := fun σ' H' => D.nx σ' (thaw H H'), rt := fun v H' => D.rt v (thaw H H'), bk := fun σ' H' => D.bk σ' (thaw H H'), ct := fun σ' H' => D.ct σ' (thaw H H') } σ H
theorem ps_thaw {st : Stmt} {t : TS} (h : PS X st t) : PS X st (tThawS t) := by
  intro pins s σ H D I q
  refine thn (h pins s σ H _ I q) fun f s1 z => ?_
  cases f with
  | next => obtain ⟨σ', H', J, q⟩ := z; exact ⟨σ', _, I.thaw J, q⟩
  | brk => obtain ⟨σ', H', J, q⟩ := z; exact ⟨σ', _, I.thaw J, q⟩
  | cont => obtain ⟨σ', H', J, q⟩ := z; exact ⟨σ', _, I.thaw J, q⟩
  | ret u => obtain ⟨v, σ', H', J, r, q⟩ := z; exact ⟨v, σ', _, I.thaw J, r, q⟩
end

/-! ### a walk over a dict's keys -/
theorem KV.get {κ : Type} : ∀ {kvs : List (κ × V)} {vs : List (κ × Value)} {i : Nat} {kv : κ × V}, KV kvs vs → kvs[i]? = some kv → ∃ q, vs[i]? = some q ∧ kv.1 = q.1 ∧ RelV kv.2 q.2
  | _, _, _, _, .nil, e => by simp at e
  | _, _, 0, _, .cons r _, e => by simp at e; subst e; exact ⟨_, rfl, r⟩
  | _, _, i + 1, x, .cons _ t, e => by
    obtain ⟨u, h1, h2⟩ := KV.get (i := i) (kv := x) t (by simpa using e)
    exact ⟨u, by simpa using h1, h2⟩
theorem rel_key {P : Program} {w : World} {k : Key} {u : Value} (h : (mixKind P w).is k u = true) : RelV (kV k) u := by
  rcases keyIs_shape (show keyIs k u = true from h) with ⟨i, t, rfl, rfl⟩ | ⟨x, t, rfl, rfl⟩
  · exact ⟨t, rfl⟩
  · exact ⟨t, rfl⟩
theorem dictAt_of {P : Program} {w : World} {H : Hp} {h : Heap} {d : Addr} {o : Obj} {kvs : List (Key × V)} {es : Array DictEntry} {ep : Nat} (ok : HOk P w H h) (e : H d = some (.frz o (.dK kvs))) (he : o.data = .dict es ep) :
    ∃ vs, KV kvs vs ∧ h.DictAt (mixKind P w) d vs ep ∧ (d == sysModules) = false ∧ kvs.length ≤ sizeLine := by
  obtain ⟨g, z, hd, vs, rel, o', es', ep', ho, c, hdat, r⟩ := (show ObjOk P w H h d (.frz o (.dK kvs)) from ok d _ e)
  rw [g] at ho; cases ho
  rw [he] at hdat; cases hdat
  exact ⟨vs, rel, ⟨o, es, g, c, he, r⟩, hd, z⟩
/-- the keys of the dict at d, which stays the very object -/
def Itd (d : Addr) (o : Obj) (kvs : List (Key × V)) : It :=
  ⟨fun i H => i < kvs.length ∧ H d = some (.frz o (.dK kvs)), fun i H y H' => H' = H ∧ ∃ kv, kvs[i]? = some kv ∧ y = kV kv.1, fun i H => kvs.length ≤ i ∧ H d = some (.frz o (.dK kvs))⟩
theorem turn_dict {P : Program} {w : World} {K : PySem.W.Frag} {tg : Expr} (d it : Addr) (o : Obj) (kvs : List (Key × V)) : Turn P w K tg (Itd d o kvs) [it] it (fun i h => ∃ es ep, o.data = .dict es ep ∧ h.IsKeyIter it d i kvs.length ep) where
  mem := by simp
  obj := fun i h st b hb => by
    obtain ⟨es, ep, _, ob, e, c, dd⟩ := st
    have e' : b = it := by simpa using hb
    subst e'
    exact ⟨ob, e, fun v z => by rw [dd] at z; cases z⟩
  keep := fun i h h' st k => by
    obtain ⟨es, ep, a, st⟩ := st
    exact ⟨es, ep, a, st.at fun ob e => k it (by simp) ob e⟩
  item := by
    intro X hP hw hK hc i pins s σ H E I hf st hg
    subst hP hw hK
    obtain ⟨es, ep, hes, st⟩ := st
    obtain ⟨hi, hg⟩ := hg
    obtain ⟨vs, rel, hm, _, _⟩ := dictAt_of I.hok hg hes
    obtain ⟨f0, f1, f2, f3, f4, f5⟩ := hf it (by simp)
    have hl := rel.length
    obtain ⟨kv, hkv⟩ : ∃ kv, kvs[i]? = some kv := ⟨kvs[i], by simp [hi]⟩
    obtain ⟨q, hq, hq1, hq2⟩ := KV.get rel hkv
    rw [hl] at st
    refine wpAny_pyNext_dict_item (k := q.1) (v := q.2) st hm hq fun key h' hk st' sb => ?_
    have I1 : Inv X pins σ H { s with heap := h' } := I.turned (t' := s.toks) (fun b o hb e => (sb.2 b hb).trans e) f0 f1 f3 f4 f5
    obtain ⟨ob, e, c, dd⟩ := id st'
    exact ⟨key, rfl, go_of (s := { s with heap := h' }) e c dd (by decide) ⟨kV kv.1, H, I1, by rw [hq1]; exact rel_key hk, ⟨rfl, kv, hkv, rfl⟩, ⟨es, ep, hes, by rw [hl]; exact st'⟩, fun b hb => (hf b hb).1⟩⟩
  done := by
    intro X hP hw hK hc i pins s σ H E I hf st hg
    subst hP hw hK
    obtain ⟨es, ep, hes, st⟩ := st
    obtain ⟨hi, hg⟩ := hg
    obtain ⟨vs, rel, hm, _, _⟩ := dictAt_of I.hok hg hes
    obtain ⟨f0, f1, f2, f3, f4, f5⟩ := hf it (by simp)
    have hl := rel.length
    rw [hl] at st
    exact wpAny_pyNext_dict_end (I.ok.hd hc) st hm (by simp; omega) fun h' eb => ⟨rfl, I.turned (t' := s.toks) (fun b o hb e => eb b o hb e) f0 f1 f3 f4 f5⟩
  self := fun _ _ _ _ _ st h => by
    obtain ⟨es, ep, _, st⟩ := st
    exact wpAny_pyIter_keyiter st h
def iDict (tl : TE) : TI := fun σ H R => tl σ H fun x H1 => ∃ d kvs, x = .ref d ∧ ((H1 d = some (.dK kvs) ∧ ∀ o, R (Itd d o kvs) (upd H1 d (.frz o (.dK kvs)))) ∨ ∃ o, H1 d = some (.frz o (.dK kvs)) ∧ R (Itd d o kvs) H1)
section
variable {X : Cx}
theorem pi_dict {tg l : Expr} {tl : TE} (hl : PE X l tl) : PI X tg l (iDict tl) := by
  intro pins s σ H R I h
  refine thn (hl pins s σ H _ I h) fun v s1 ⟨x, H1, I1, r1, q1⟩ => ?_
  obtain ⟨d, kvs, rfl, q⟩ := q1
  cases r1
  have fin : ∀ o H2, Inv X pins σ H2 s1 → H2 d = some (.frz o (.dK kvs)) → R (Itd d o kvs) H2 → wpAny (model X.prog X.w) X.A (pyIter (.ref d)) (PIE X pins σ tg R) X.xe s1 := fun o H2 I2 e q => by
    obtain ⟨g, z, hd, vs, rel, o', es, ep, ho, c, hdat, r⟩ := (show ObjOk X.prog X.w H2 s1.heap d (.frz o (.dK kvs)) from I2.hok d _ e)
    rw [g] at ho; cases ho
    have hm : s1.heap.DictAt (mixKind X.prog X.w) d vs ep := ⟨o, es, g, c, hdat, r⟩
    refine wpAny_pyIter_dict hd hm ?_
    refine ⟨s1.heap.objs.size, [s1.heap.objs.size], _, _, H2, rfl, I2.kept (t' := s1.toks) fun b o e => Heap.get?_push_of_some _ e, turn_dict d _ o kvs, ⟨es, ep, hdat, _, Heap.get?_push_size _ rfl, rfl, by rw [rel.length]; rfl⟩, fun b hb => ?_, q⟩
    have e : b = s1.heap.objs.size := by simpa using hb
    subst e
    exact I2.fpOk (Nat.le_refl _) (I2.hok.fresh (Nat.le_refl _))
  rcases q with ⟨e, q⟩ | ⟨o, e, q⟩
  · obtain ⟨z, hd, vs, rel, o, es, ep, ho, _⟩ := (show ObjOk X.prog X.w H1 s1.heap d (.dK kvs) from I1.hok d _ e)
    exact fin o _ (I1.freeze e ho) upd_same (q o)
  · exact fin o _ I1 e q
end
theorem comp_dict {x : Str} {F : List (Str × Nat)} {d : Addr} {o : Obj} {kvs : List (Key × V)} {tt : TT} {te : TE} {σ : St} {Q : VK} {H1 : Hp} (Pv : Nat → List V → Hp → Prop) (hn : kvs.length ≤ sizeLine) (h0 : Pv 0 [] H1) (hz : ∀ i ys H, Pv i ys H → H d = some (.frz o (.dK kvs)))
    (hs : ∀ i kv ys H, kvs[i]? = some kv → ys.length ≤ i → Pv i ys H → tt (some (kV kv.1) :: F.map (fun p => (σ[p.2]?).join)) H fun b H3 => if b = true then te (some (kV kv.1) :: F.map (fun p => (σ[p.2]?).join)) H3 fun z H4 => Pv (i + 1) (ys ++ [z]) H4 else Pv (i + 1) ys H3)
    (hd : ∀ ys H, ys.length ≤ kvs.length → Pv kvs.length ys H → ∀ p, H p = none → Q (.ref p) (upd H p (.lst ys))) : CompBody [x] F (gName 0) tt te σ Q (Itd d o kvs) H1 :=
  comp_by Pv hn h0 (fun i ys H h p => ⟨h, hz i ys H p⟩) (fun ys H p => ⟨Nat.le_refl _, hz _ ys H p⟩) (fun i ys H y H2 h1 h2 h3 h4 => by
    obtain ⟨rfl, kv, hkv, rfl⟩ := h4
    exact hs i kv ys _ hkv h2 h3) hd
/-- .. over a list -/
theorem comp_list {K : PySem.W.Frag} {x : Str} {F : List (Str × Nat)} {a : Addr} {xs : List V} {tt : TT} {te : TE} {σ : St} {Q : VK} {H1 : Hp} (Pv : Nat → List V → Hp → Prop) (hn : xs.length ≤ sizeLine) (h0 : Pv 0 [] H1) (hz : ∀ i ys H, i ≤ xs.length → Pv i ys H → SqL K H a xs)
    (hs : ∀ i v ys H, xs[i]? = some v → ys.length ≤ i → Pv i ys H → tt (some v :: F.map (fun p => (σ[p.2]?).join)) H fun b H3 => if b = true then te (some v :: F.map (fun p => (σ[p.2]?).join)) H3 fun z H4 => Pv (i + 1) (ys ++ [z]) H4 else Pv (i + 1) ys H3)
    (hd : ∀ ys H, ys.length ≤ xs.length → Pv xs.length ys H → ∀ p, H p = none → Q (.ref p) (upd H p (.lst ys))) : CompBody [x] F (gName 0) tt te σ Q (Itl K a) H1 :=
  comp_by Pv hn h0 (fun i ys H h p => ⟨xs, xs[i], hz i ys H (Nat.le_of_lt h) p, by simp [h]⟩) (fun ys H p => ⟨xs, hz _ ys H (Nat.le_refl _) p, Nat.le_refl _⟩) (fun i ys H y H2 h1 h2 h3 h4 => by
    obtain ⟨rfl, hy⟩ := h4
    exact hs i y ys _ (hy xs (hz i ys _ (Nat.le_of_lt h1) h3)) h2 h3) hd
/-! ### list(d), d.values(), list(d.values()) -/
def valsO (p d : Addr) : HO := .ext fun h => h.IsValuesView p d
section
variable {X : Cx}
theorem kv_vals {κ : Type} : ∀ {kvs : List (κ × V)} {vs : List (κ × Value)}, KV kvs vs → Vals (kvs.map (·.2)) (vs.map (·.2))
  | _, _, .nil => .nil
  | _, _, .cons r t => .cons r.2 (kv_vals t)
theorem vals_keys {P : Program} {w : World} : ∀ {kvs : List (Key × V)} {vs : List (Key × Value)} {us : List Value}, KV kvs vs → us.length = vs.length → (∀ (j : Nat) (v : Value), us[j]? = some v → ∃ k x, vs[j]? = some (k, x) ∧ (mixKind P w).is k v = true) → Vals (kvs.map fun kv => kV kv.1) us
  | _, _, [], .nil, _, _ => .nil
  | _, _, u :: us, .cons r t, hl, h => by
    obtain ⟨k, x, e, hk⟩ := h 0 u rfl
    simp only [List.getElem?_cons_zero, Option.some.injEq] at e
    refine .cons ?_ (vals_keys t (by simpa using hl) fun j v hv => by simpa using h (j + 1) v (by simpa using hv))
    have e2 := r.1
    rw [e] at e2
    show RelV (kV _) u
    rw [e2]; exact rel_key hk
  | _, _, u :: us, .nil, hl, _ => by simp at hl
  | _, _, [], .cons _ _, hl, _ => by simp at hl
theorem call_list_d (hc : X.calm = true) : CallR X (.type "list") (fun xs H Q => ∃ p kvs, xs = [.ref p] ∧ Rd H p (.dK kvs) ∧ ∀ l, H l = none → Q (.ref l) (upd H l (.lst (kvs.map fun kv => kV kv.1)))) := by
  intro pins s σ H xs us Q I r h
  obtain ⟨p, kvs, rfl, hq, q⟩ := h
  obtain ⟨u, rfl, rx⟩ := vals1 r
  cases rx
  obtain ⟨z, hd, vs, rel, dd⟩ := dk_rd I.hok hq
  obtain ⟨ep, hat⟩ := dd.dictAt
  have hl := rel.length
  refine PySem.W.kdl_call (PySem.W.kdl_dict (knd := mixKind X.prog X.w) (kvs := vs) (ep := ep) hd) (I.ok.hd hc) hat (by omega) fun h' tk acc c' hk hg hi => ?_
  refine ⟨.ref s.heap.objs.size, _, I.laid (t' := tk) hk (Nat.le_refl _) (o := .lst (kvs.map fun kv => kV kv.1)) ?_, rfl, q _ (I.hok.fresh (Nat.le_refl _))⟩
  refine ⟨by rw [List.length_map]; exact z, acc.toList, c', vals_keys (P := X.prog) (w := X.w) rel (by rw [Array.length_toList]; exact hi.1) (fun j v e => hi.2 j v (by rw [← Array.getElem?_toList]; exact e)), by simpa using hg⟩
def rVals : V → List V → Hp → VK → Prop := fun x vs H Q => ∃ d kvs, x = .ref d ∧ vs = [] ∧ Rd H d (.dK kvs) ∧ ∀ p, H p = none → Q (.ref p) (upd H p (valsO p d))
theorem mt_values : MtR X "dict.values" rVals := by
  intro pins s σ H x vs v us Q I rx rv h
  obtain ⟨d, kvs, rfl, rfl, hq, q⟩ := h
  cases rx
  cases rv
  obtain ⟨z, hd, ws, rel, dd⟩ := dk_rd I.hok hq
  refine call_meetsIn PySem.F.slot_dict_values dd.typeIs PySem.F.entry_dict_values (PySem.F.args_dict_values_1 _) (meets_dict_values (mixKind X.prog X.w) d hd) ⟨⟨ws, dd⟩, ?_⟩
  refine ⟨.ref s.heap.objs.size, _, I.laid (t' := s.toks) (fun b o e => Heap.get?_push_of_some _ e) (Nat.le_refl _) (o := valsO s.heap.objs.size d) ?_, rfl, q _ (I.hok.fresh (Nat.le_refl _))⟩
  exact ⟨⟨_, Heap.get?_push_size _ rfl, rfl, rfl⟩, ⟨_, Heap.get?_push_size _ rfl⟩, fun h1 h2 ⟨o, e, r⟩ k => ⟨o, k o e, r⟩⟩
theorem call_list_v (hc : X.calm = true) : CallR X (.type "list") (fun xs H Q => ∃ p d kvs, xs = [.ref p] ∧ H p = some (valsO p d) ∧ Rd H d (.dK kvs) ∧ ∀ l, H l = none → Q (.ref l) (upd H l (.lst (kvs.map (·.2))))) := by
  intro pins s σ H xs us Q I r h
  obtain ⟨p, d, kvs, rfl, hp, hq, q⟩ := h
  obtain ⟨u, rfl, rx⟩ := vals1 r
  cases rx
  obtain ⟨z, hd, vs, rel, dd⟩ := dk_rd I.hok hq
  obtain ⟨hv, _⟩ := (show ObjOk X.prog X.w H s.heap p (valsO p d) from I.hok p _ hp)
  obtain ⟨ep, hat⟩ := dd.dictAt
  have hl := rel.length
  refine PySem.W.kdl_call (PySem.W.kdl_values (knd := mixKind X.prog X.w) (kvs := vs) (ep := ep)) (I.ok.hd hc) ⟨hv, hat⟩ (by omega) fun h' tk acc c' hk hg hi => ?_
  refine ⟨.ref s.heap.objs.size, _, I.laid (t' := tk) hk (Nat.le_refl _) (o := .lst (kvs.map (·.2))) ?_, rfl, q _ (I.hok.fresh (Nat.le_refl _))⟩
  have e : acc.toList = vs.map (·.2) := PySem.W.kdl_vals_eq acc.toList (by rw [Array.length_toList]; exact hi.1) (fun j v e => hi.2 j v (by rw [← Array.getElem?_toList]; exact e))
  exact ⟨by rw [List.length_map]; exact z, acc.toList, c', by rw [e]; exact kv_vals rel, by simpa using hg⟩
end
end L2

namespace L2
open PySem PySem.Spec PyProof.Rows
/-! ### dict(..) of a list of pairs -/
theorem pr_keys_miss : typeLookup (.type "list") "keys" = pure none := am_miss_of_fast (by decide +kernel)
theorem pr_entry_loop : entryFor table "dict.update.loop" = some Builtin.«dict.update.loop» := entryFor_of_tree (by kernel_rfl)
theorem pr_plain_loop : plainId "dict.update.loop" = true := by decide +kernel
section
variable {prog : Program} {w : World} {A : Around} {E : Value → Shared → Prop}
theorem pr_noKeys {s : Shared} {a : Addr} {xs : Array Value} {k : Nat} {name : Str} {Q : Option Value → Shared → Prop}
    (hx : s.heap.get? a = some { cls := .type "list", dict := none, data := .seq xs k, slots := #[] }) (hmiss : typeLookup (.type "list") name = pure none) (hname : (["__module__", "__name__", "__qualname__", "__doc__", "__annotations__"] : List Str).contains name = false) (hA : A.handled = none)
    (h : ∀ h' tk, (∀ b o, s.heap.get? b = some o → h'.get? b = some o) → Q none { s with heap := h', toks := tk }) (hsz : name.length + 100 ≤ sizeLine := by size_fits) :
    wpAny (model prog w) A (getAttr? (.ref a) name) Q E s := by
  obtain ⟨hp, g, d, tk, os⟩ := s
  have hT : ∀ tk', (⟨hp, g, d, tk', os⟩ : Shared).TypeIs (.ref a) "list" := fun _ => ⟨_, hx, rfl⟩
  have f1 := sub_AttributeError
  have f3 := F.slot_list_getattribute.lookup
  have f4 := F.slot_list_getattribute.bind (.ref a)
  have f5 := am_list_getattr_none
  unfold getAttr? getAttrBy? getAttrBy
  repeat (any_goals (first | assumption | exact hT _ | ((with_reducible show wpAny _ _ (call (Value.builtin "list.__getattribute__") _ _) _ _ _); refine call_meets F.slot_list_getattribute (hT _) am_entry_list_getattribute (F.args_list_getattribute_2 _ _) (meets_getattribute_miss_list a xs k #[] name _ hmiss hname hsz) ⟨hx, hA, fun h' tk' e hx' => ?_⟩) | wp_step))
  obtain ⟨t', u', he⟩ := hx'.there
  show wpAny _ _ (getattributeRaised _ _ _ _ _ _ _) _ _ _
  unfold getattributeRaised
  repeat (any_goals (first | assumption | wp_step))
  exact h h' tk' fun b o e => hx'.keeps b o e
/-- the pairs are laid one by one -/
theorem pr_loop {κ : Type} [DecidableEq κ] (knd : KeyKind prog w κ) (hh : A.handled = none) {d it l : Addr} {items : Array Value} {ps : List (κ × Value)} {R : Result → Shared → Prop} (hdi : d ≠ it) (hdl : d ≠ l) (hil : it ≠ l) (hps : ps.length = items.size) :
    ∀ (n i : Nat) (s : Shared) (kvs : List (κ × Value)), items.size - i = n → i ≤ items.size → s.heap.IsListIter it l i → s.heap.IsList l items →
      (∀ (j : Nat) k v, ps[j]? = some (k, v) → ∃ a key, items[j]? = some (.ref a) ∧ a ≠ d ∧ a ≠ it ∧ IsTup s.heap a #[key, v] ∧ knd.is k key = true) → s.heap.DictOf knd d kvs → kvs.length + n ≤ sizeLine →
      (∀ h' tk, h'.DictOf knd d ((ps.drop i).foldl (fun m kv => stored m kv.1 kv.2) kvs) → (∀ b o, b ≠ d → b ≠ it → s.heap.get? b = some o → h'.get? b = some o) → R (.ok (.ret .none)) { s with heap := h', toks := tk }) →
      codeAny (model prog w) A (.builtin "dict.update.loop" ⟨[.ref d, .ref it, rawInt i, .none], []⟩) R s := by
  intro n
  induction n with
  | zero =>
    intro i s kvs hn hi hit hl hp hd hz hR
    refine codeAny_builtin pr_entry_loop ?_
    rw [Around.under_plainId pr_plain_loop _]
    unfold Builtin.«dict.update.loop»
    show wpAny _ A.in1 (pyNext (.ref it) >>= _) _ _ s
    refine wpAny_bind (wpAny_pyNext_list_end (show A.in1.handled = none from hh) hit hl (by simp; omega) fun h' eb => ?_)
    show wpAny _ _ (Builtin.Dict.addKeywords d [] >>= fun _ => ret .none) _ _ _
    refine wpAny_bind (wpAny_pure (wpAny_pure (hR h' _ ?_ fun b o hb hi' e => eb b o hi' e)))
    rw [List.drop_eq_nil_of_le (by omega)]
    exact hd.extBut eb hdi
  | succ n ih =>
    intro i s kvs hn hi hit hl hp hd hz hR
    refine codeAny_builtin pr_entry_loop ?_
    rw [Around.under_plainId pr_plain_loop _]
    unfold Builtin.«dict.update.loop»
    have hlt : i < items.size := by omega
    obtain ⟨kv, hkv⟩ : ∃ kv, ps[i]? = some kv := ⟨ps[i], by simp [hps, hlt]⟩
    obtain ⟨a, key, ha, had, hai, ht, hk⟩ := hp i kv.1 kv.2 hkv
    show wpAny _ A.in1 (pyNext (.ref it) >>= _) _ _ s
    refine wpAny_bind (wpAny_pyNext_list_item hit hl (x := .ref a) ha fun h' st' sb => ?_)
    show wpAny _ _ (holding [Value.ref a] (Sem.tryCatch (Builtin.Dict.pairItems (.ref a)) _ >>= _) >>= fun _ => again _) _ _ _
    have kp : ∀ b o, b ≠ it → s.heap.get? b = some o → h'.get? b = some o := fun b o hb e => (sb.2 b hb).trans e
    obtain ⟨o, ho, hc, m, hdat⟩ := id ht
    refine wpAny_bind (wpAny_holding (wpAny_bind (wpAny_tryCatch ?_)))
    unfold Builtin.Dict.pairItems
    refine wpAny_bind (wpAny_typeOf (T := "tuple") ⟨o, kp a o hai ho, hc⟩ ?_)
    rw [if_pos (by decide)]
    refine wpAny_bind (wpAny_seqItems (kp a o hai ho) hdat (wpAny_pure ?_))
    show wpAny _ _ (holding [key, kv.2] (dictSet d key kv.2)) _ _ _
    refine wpAny_holding (wpAny_dictSet_pairs hk (hd.sameBut sb hdi) (fun h2 hd2 sb2 => ?_) (by omega))
    have kp2 : ∀ b o, b ≠ d → b ≠ it → s.heap.get? b = some o → h2.get? b = some o := fun b o hb hi' e => (sb2.2 b hb).trans (kp b o hi' e)
    have hc' : ((i : Int) + 1) = ((i + 1 : Nat) : Int) := by omega
    rw [hc']
    refine wpAny_pure ⟨plainId_quiet pr_plain_loop _, ih (i + 1) _ (stored kvs kv.1 kv.2) (by omega) (by omega) ?_ ?_ ?_ hd2 ?_ ?_⟩
    · exact st'.at fun o e => (sb2.2 it (Ne.symm hdi)).trans e
    · obtain ⟨ol, e1, e2⟩ := hl
      exact ⟨ol, kp2 l ol (Ne.symm hdl) (Ne.symm hil) e1, e2⟩
    · intro j k v e
      obtain ⟨a', key', x1, x2, x3, ⟨o', y1, y2⟩, x5⟩ := hp j k v e
      exact ⟨a', key', x1, x2, x3, ⟨o', kp2 a' o' x2 x3 y1, y2⟩, x5⟩
    · have : (stored kvs kv.1 kv.2).length ≤ kvs.length + 1 := by
        unfold stored
        split <;> simp
      omega
    · intro h3 tk hd3 k3
      refine hR h3 tk ?_ fun b o hb hi' e => k3 b o hb hi' (kp2 b o hb hi' e)
      have e : ps.drop i = kv :: ps.drop (i + 1) := by
        obtain ⟨hlt', e'⟩ := List.getElem?_eq_some_iff.mp hkv
        rw [List.drop_eq_getElem_cons hlt', e']
      rw [e, List.foldl_cons]
      exact hd3
end
section
variable {X : Cx}
/-- what the pairs hold, by values -/
theorem pr_pairs {P : Program} {w : World} {H : Hp} {h : Heap} (ok : HOk P w H h) : ∀ {kvs : List (Key × V)} {ys : List V} {its : List Value}, Vals ys its → kvs.length = ys.length → (∀ (j : Nat) kv, kvs[j]? = some kv → ∃ a, ys[j]? = some (.ref a) ∧ H a = some (.tup [kV kv.1, kv.2])) →
    ∃ ps : List (Key × Value), KV kvs ps ∧ ∀ (j : Nat) k v, ps[j]? = some (k, v) → ∃ a key, its[j]? = some (.ref a) ∧ IsTup h a #[key, v] ∧ (mixKind P w).is k key = true
  | [], [], _, .nil, _, _ => ⟨[], .nil, fun j k v e => by simp at e⟩
  | kv :: kvs, y :: ys, _, .cons r t, hl, hp => by
    obtain ⟨ps, rel, h2⟩ := pr_pairs ok (kvs := kvs) t (by simpa using hl) fun j kv' e => by
      obtain ⟨a, e1, e2⟩ := hp (j + 1) kv' (by simpa using e)
      exact ⟨a, by simpa using e1, e2⟩
    obtain ⟨a, e1, e2⟩ := hp 0 kv rfl
    simp only [List.getElem?_cons_zero, Option.some.injEq] at e1
    subst e1
    cases r
    obtain ⟨_, its2, rv, pl⟩ := (show ObjOk P w H h a (.tup [kV kv.1, kv.2]) from ok a _ e2)
    obtain ⟨u1, u2, e3, r1, r2⟩ := vals2 rv
    subst e3
    refine ⟨(kv.1, u2) :: ps, .cons ⟨rfl, r2⟩ rel, fun j k v e => ?_⟩
    cases j with
    | zero =>
      simp only [List.getElem?_cons_zero, Option.some.injEq, Prod.mk.injEq] at e
      obtain ⟨rfl, rfl⟩ := e
      exact ⟨a, u1, rfl, pl, kV_is r1⟩
    | succ j => simpa using h2 j k v (by simpa using e)
  | [], _ :: _, _, _, hl, _ => by simp at hl
  | _ :: _, [], _, _, hl, _ => by simp at hl
theorem call_dict_p (hc : X.calm = true) : CallR X (.type "dict") (fun xs H Q => ∃ (p : Addr) (ys : List V) (kvs : List (Key × V)), xs = [.ref p] ∧ H p = some (.lst ys) ∧ kvs.length = ys.length ∧ (∀ (j : Nat) kv, kvs[j]? = some kv → ∃ a, ys[j]? = some (.ref a) ∧ H a = some (.tup [kV kv.1, kv.2])) ∧
    ∀ l, H l = none → Q (.ref l) (upd H l (.dK (mergeK [] kvs)))) := by
  intro pins s σ H xs us Q I r h
  obtain ⟨p, ys, kvs, rfl, hq, hlen, hpair, q⟩ := h
  obtain ⟨u, rfl, rx⟩ := vals1 r
  cases rx
  obtain ⟨hz, its, n, rv, hg⟩ := (show ObjOk X.prog X.w H s.heap p (.lst ys) from I.hok p _ hq)
  obtain ⟨ps, rel, hps⟩ := pr_pairs I.hok rv hlen hpair
  have hl1 := rv.length
  have hl2 := rel.length
  have hplt : p < s.heap.objs.size := Heap.lt_size hg
  refine callType_codes (Q₁ := fun obj s₁ => obj = .ref s.heap.objs.size ∧ s₁ = { s with heap := s.heap.push { cls := .type "dict", data := .dict #[] } }) F.kt_called_dict (F.kt_typeCall_dict_1 _) F.entry_dict_init (kt_code_dict_new _ ⟨rfl, rfl⟩) ?_
  rintro obj s₁ ⟨rfl, rfl⟩
  have hnew : (s.heap.push { cls := .type "dict", data := .dict #[] }).DictOf (mixKind X.prog X.w) s.heap.objs.size [] := Heap.DictOf.new s.heap
  have hg1 := Heap.get?_push_of_some { cls := .type "dict", data := .dict #[] } hg
  refine ⟨hnew.typeIs, F.args_dict_init_2 _ _, ?_⟩
  unfold Builtin.«dict.__init__»
  refine wpAny_bind ?_
  unfold Builtin.Dict.selfAndRest
  refine wpAny_bind (wpAny_notOrdered_dict hnew.typeIs ?_)
  show wpAny _ _ (pure (s.heap.objs.size, [Value.ref p])) _ _ _
  refine wpAny_pure ?_
  show wpAny _ _ (Builtin.Dict.updateFrom "dict.__init__" s.heap.objs.size (.ref p) [] .none) _ _ _
  unfold Builtin.Dict.updateFrom
  refine wpAny_bind (wpAny_typeOf (T := "list") ⟨_, hg1, rfl⟩ ?_)
  rw [if_pos (by decide)]
  refine wpAny_bind (pr_noKeys hg1 pr_keys_miss (by decide +kernel) (I.ok.hd hc) (fun h2 tk2 k2 => ?_))
  rw [if_pos (by rfl)]
  refine wpAny_bind (wpAny_rule (wpAny_bind (wpAny_pyIter_list (items := its.toArray) ⟨_, k2 _ _ hg1, rfl, n, rfl⟩ ?_)))
  have k1 : ∀ b o, s.heap.get? b = some o → h2.get? b = some o := fun b o e => k2 b o (Heap.get?_push_of_some _ e)
  have hd2 : s.heap.objs.size < h2.objs.size := Heap.lt_size (k2 _ _ (Heap.get?_push_size _ rfl))
  have hpl : ∀ b o, h2.get? b = some o → (h2.push { cls := .type "list_iterator", data := .fields #[.ref p, .int 0 0] }).get? b = some o := fun b o e => Heap.get?_push_of_some _ e
  refine wpAny_pure ⟨plainId_quiet pr_plain_loop _, pr_loop (mixKind X.prog X.w) (show X.A.in1.handled = none from I.ok.hd hc) (d := s.heap.objs.size) (it := h2.objs.size) (l := p) (items := its.toArray) (ps := ps) (Nat.ne_of_lt hd2) (Nat.ne_of_gt hplt) (Nat.ne_of_gt (Nat.lt_trans hplt hd2)) (by simp; omega) _ 0 _ [] rfl (Nat.zero_le _) ?_ ?_ ?_ ?_ ?_ ?_⟩
  · exact ⟨_, Heap.get?_push_size _ rfl, rfl, rfl⟩
  · exact ⟨_, hpl _ _ (k2 _ _ hg1), rfl, n, rfl⟩
  · intro j k v e
    obtain ⟨a, key, e1, ⟨o, e2, e3⟩, e4⟩ := hps j k v e
    have hlt := Heap.lt_size e2
    exact ⟨a, key, by simpa using e1, Nat.ne_of_lt hlt, Nat.ne_of_lt (Nat.lt_trans hlt hd2), ⟨o, hpl _ _ (k1 _ _ e2), e3⟩, e4⟩
  · obtain ⟨o, es, ep, ho, rest⟩ := hnew
    exact ⟨o, es, ep, hpl _ _ (k2 _ _ ho), rest⟩
  · simp; omega
  · intro h3 tk3 hd3 k3
    rw [List.drop_zero] at hd3
    have k4 : ∀ b o, s.heap.get? b = some o → h3.get? b = some o := fun b o e => k3 b o (Nat.ne_of_lt (Heap.lt_size e)) (Nat.ne_of_lt (Nat.lt_trans (Heap.lt_size e) hd2)) (hpl _ _ (k1 _ _ e))
    refine ⟨rfl, .ref s.heap.objs.size, _, I.laid (t' := tk3) k4 (Nat.le_refl _) (o := .dK (mergeK [] kvs)) ?_, rfl, q _ (I.hok.fresh (Nat.le_refl _))⟩
    have hm : (mergeK [] kvs).length ≤ kvs.length := by
      have := length_mergeK kvs []
      simpa using this
    exact dk_new (by omega) (beq_eq_false_iff_ne.mpr (Ne.symm (Nat.ne_of_lt I.big))) (KV.merge rel .nil) hd3
end
end L2

namespace L2
open PySem PySem.Spec PyProof.Rows
/-- more names of Python's own -/
structure Bl2 (mg : Str → Option Value) : Prop extends Bl mg where
  max : mg "max" = none
  min : mg "min" = none
  sorted : mg "sorted" = none
/-! ### max(a list of ints, default=..) -/
def mxI (b z : Int) : Int := if z > b then z else b
def mxD (k : Int) : List Int → Int
  | [] => k
  | b :: r => r.foldl mxI b
theorem mx_args (a d : Value) : argsOk "max" ⟨[a], [("default", d)]⟩ := by unfold argsOk; kernel_rfl
section
variable {prog : Program} {w : World} {A : Around}
theorem mx_next {it l S : Addr} {items : List Value} {ns : List Int} (hh : A.handled = none) (hi : Vals (ns.map V.int) items) (hSi : S ≠ it) (hSl : S ≠ l) (hil : it ≠ l) (dv : Value) {R : Result → Shared → Prop} :
    ∀ (n i : Nat) (s : Shared) (c : Nat) (b : Int) (tb : Tok), ns.length - i = n → i ≤ ns.length → s.heap.IsListIter it l i → s.heap.IsList l items.toArray → s.heap.get? S = some { cls := .type "list", dict := none, data := .seq #[.int b tb, .int b tb] c, slots := #[] } →
      (∀ h' tk t, (∀ x o, x ≠ S → x ≠ it → s.heap.get? x = some o → h'.get? x = some o) → R (.ok (.ret (.int ((ns.drop i).foldl mxI b) t))) { s with heap := h', toks := tk }) →
      codeAny (model prog w) A (.builtin "max.loop" ⟨[.ref it, .none, .ref S], [("default", dv)]⟩) R s := by
  have hnm : (toString "max" ++ toString ".loop" : String) = "max.loop" := by decide
  intro n
  induction n with
  | zero =>
    intro i s c b tb hn hin st hl hS hR
    refine codeAny_builtin F.entry_max_loop ?_
    rw [Around.under_plainId F.plain_max_loop _]
    show wpAny _ A.in1 (seqItems? (.ref S) >>= _) _ _ s
    refine wpAny_bind (wpAny_seqItems hS rfl ?_)
    have hlen := hi.length
    rw [List.length_map] at hlen
    refine wpAny_bind (wpAny_tryCatch (wpAny_pyNext_list_end (show A.in1.handled = none from hh) st hl (by simp; omega) fun h' eb => ?_))
    show wpAny _ A.in1 (updateSeq S (fun _ => #[]) >>= _) _ _ _
    refine wpAny_bind (wpAny_updateSeq (eb S _ hSi hS) rfl (wpAny_bind (wpAny_letGo (wpAny_pure ?_))))
    have q := hR (h'.update S (Obj.mapSeq fun _ => #[])) s.toks tb fun x o hx hxi e => (Heap.get?_update_other _ _ (Ne.symm hx)).trans (eb x o hxi e)
    rw [List.drop_eq_nil_of_le (by omega)] at q
    exact q
  | succ n ih =>
    intro i s c b tb hn hin st hl hS hR
    have hlt : i < ns.length := by omega
    have hlen := hi.length
    rw [List.length_map] at hlen
    obtain ⟨z, hz⟩ : ∃ z, ns[i]? = some z := ⟨ns[i], by simp [hlt]⟩
    obtain ⟨u, ht, t, rfl⟩ := hi.get (i := i) (x := .int z) (by rw [List.getElem?_map, hz]; rfl)
    have ed : ns.drop i = z :: ns.drop (i + 1) := by
      obtain ⟨h1, e1⟩ := List.getElem?_eq_some_iff.mp hz
      rw [List.drop_eq_getElem_cons h1, e1]
    refine codeAny_builtin F.entry_max_loop ?_
    rw [Around.under_plainId F.plain_max_loop _]
    show wpAny _ A.in1 (seqItems? (.ref S) >>= _) _ _ s
    refine wpAny_bind (wpAny_seqItems hS rfl ?_)
    refine wpAny_bind (wpAny_tryCatch (wpAny_pyNext_list_item st hl (x := .int z t) (by simpa using ht) fun h' st' sb => ?_))
    have kp : ∀ x o, x ≠ it → s.heap.get? x = some o → h'.get? x = some o := fun x o hx e => (sb.2 x hx).trans e
    have hS' := kp S _ hSi hS
    have hl' : h'.IsList l items.toArray := by
      obtain ⟨o, e1, e2⟩ := hl
      exact ⟨o, kp l o (Ne.symm hil) e1, e2⟩
    show wpAny _ A.in1 (tryCatch (holding [Value.int z t, Value.int z t] (richCompare .Gt (.int z t) (.int b tb) >>= _)) _ >>= _) _ _ _
    refine wpAny_bind (wpAny_tryCatch (wpAny_holding (wpAny_bind (show wpAny (model prog w) A.in1 (compareOp .Gt (.int z t) (.int b tb)) _ _ _ from gt_int ?_))))
    refine wpAny_bind (wpAny_holding (wpAny_truthy_bool (wpAny_bind (wpAny_letGo (wpAny_pure ?_)))))
    by_cases hb : z > b
    · rw [decide_eq_true hb, if_pos rfl]
      refine wpAny_bind (wpAny_updateSeq hS' rfl (wpAny_bind (wpAny_letGo ?_)))
      rw [hnm]
      refine wpAny_pure ⟨plainId_quiet F.plain_max_loop _, ih (i + 1) _ _ z t (by omega) (by omega) ?_ ?_ (Heap.get?_update_self _ hS' rfl) fun h2 tk t2 k2 => ?_⟩
      · exact st'.at fun o e => (Heap.get?_update_other _ _ hSi).trans e
      · obtain ⟨o, e1, e2⟩ := hl'
        exact ⟨o, (Heap.get?_update_other _ _ hSl).trans e1, e2⟩
      · have q := hR h2 tk t2 fun x o hx hxi e => k2 x o hx hxi ((Heap.get?_update_other _ _ (Ne.symm hx)).trans (kp x o hxi e))
        rw [ed, List.foldl_cons, show mxI b z = z from if_pos hb] at q
        exact q
    · rw [decide_eq_false hb, if_neg Bool.false_ne_true]
      refine wpAny_bind (wpAny_letGo ?_)
      rw [hnm]
      refine wpAny_pure ⟨plainId_quiet F.plain_max_loop _, ih (i + 1) _ _ b tb (by omega) (by omega) st' hl' hS' fun h2 tk t2 k2 => ?_⟩
      have q := hR h2 tk t2 fun x o hx hxi e => k2 x o hx hxi (kp x o hxi e)
      rw [ed, List.foldl_cons, show mxI b z = b from if_neg hb] at q
      exact q
theorem mx_first {it l S : Addr} {items : List Value} {ns : List Int} {s : Shared} {c : Nat} (hh : A.handled = none) (hi : Vals (ns.map V.int) items) (hSi : S ≠ it) (hSl : S ≠ l) (hil : it ≠ l) (dv : Value) {R : Result → Shared → Prop}
    (st : s.heap.IsListIter it l 0) (hl : s.heap.IsList l items.toArray) (hS : s.heap.get? S = some { cls := .type "list", dict := none, data := .seq #[] c, slots := #[] })
    (hR : ∀ h' tk v, (∀ x o, x ≠ S → x ≠ it → s.heap.get? x = some o → h'.get? x = some o) → (match ns with | [] => v = dv | b :: r => ∃ t, v = .int (r.foldl mxI b) t) → R (.ok (.ret v)) { s with heap := h', toks := tk }) :
    codeAny (model prog w) A (.builtin "max.loop" ⟨[.ref it, .none, .ref S], [("default", dv)]⟩) R s := by
  have hnm : (toString "max" ++ toString ".loop" : String) = "max.loop" := by decide
  have hlen := hi.length
  rw [List.length_map] at hlen
  refine codeAny_builtin F.entry_max_loop ?_
  rw [Around.under_plainId F.plain_max_loop _]
  show wpAny _ A.in1 (seqItems? (.ref S) >>= _) _ _ s
  refine wpAny_bind (wpAny_seqItems hS rfl ?_)
  cases ns with
  | nil =>
    refine wpAny_bind (wpAny_tryCatch (wpAny_pyNext_list_end (show A.in1.handled = none from hh) st hl (by simp at hlen; simp [hlen]) fun h' eb => ?_))
    refine wpAny_bind (wpAny_rule (wpAny_pure ?_))
    exact hR h' s.toks dv (fun x o _ hx e => eb x o hx e) rfl
  | cons z r =>
    obtain ⟨u, ht, t, rfl⟩ := hi.get (i := 0) (x := .int z) rfl
    refine wpAny_bind (wpAny_tryCatch (wpAny_pyNext_list_item st hl (x := .int z t) (by simpa using ht) fun h' st' sb => ?_))
    have kp : ∀ x o, x ≠ it → s.heap.get? x = some o → h'.get? x = some o := fun x o hx e => (sb.2 x hx).trans e
    have hS' := kp S _ hSi hS
    show wpAny _ A.in1 (updateSeq S (fun _ => #[.int z t, .int z t]) >>= _) _ _ _
    refine wpAny_bind (wpAny_updateSeq hS' rfl ?_)
    rw [hnm]
    refine wpAny_pure ⟨plainId_quiet F.plain_max_loop _, mx_next hh hi hSi hSl hil dv _ 1 _ _ z t rfl (by simp) ?_ ?_ (Heap.get?_update_self _ hS' rfl) fun h2 tk t2 k2 => ?_⟩
    · exact st'.at fun o e => (Heap.get?_update_other _ _ hSi).trans e
    · obtain ⟨o, e1, e2⟩ := hl
      exact ⟨o, (Heap.get?_update_other _ _ hSl).trans (kp l o (Ne.symm hil) e1), e2⟩
    · exact hR h2 tk _ (fun x o hx hxi e => k2 x o hx hxi ((Heap.get?_update_other _ _ (Ne.symm hx)).trans (kp x o hxi e))) ⟨t2, rfl⟩
end
section
variable {X : Cx}
def rMaxD (K : PySem.W.Frag) : V → V → Hp → VK → Prop := fun x y H Q => ∃ (p : Addr) (ns : List Int) (k : Int), x = .ref p ∧ y = .int k ∧ SqL K H p (ns.map V.int) ∧ Q (.int (mxD k ns)) H
theorem call_maxD (hc : X.calm = true) {pins : List (Addr × Obj)} {s : Shared} {σ : St} {H : Hp} {x y : V} {u dv : Value} {Q : VK} (I : Inv X pins σ H s) (rx : RelV x u) (ry : RelV y dv) (h : rMaxD X.K x y H Q) :
    wpAny (model X.prog X.w) X.A (call (.builtin "max") [u] [("default", dv)]) (EP X pins σ Q) X.xe s := by
  obtain ⟨p, ns, k, rfl, rfl, hq, q⟩ := h
  cases rx
  obtain ⟨its, rv, pl, hz⟩ := I.list hq
  have hl := pl.isList
  have hplt : p < s.heap.objs.size := by obtain ⟨_, e, _⟩ := hl; exact Heap.lt_size e
  have hnm : (toString "max" ++ toString ".loop" : String) = "max.loop" := by decide
  refine wpAny_call (codeAny_call_builtin F.plain_max F.entry_max ?_)
  simp only [checkBuiltinCall, F.kind_max]
  have hgo : wpAny (model X.prog X.w) X.A.in1 (Builtin.«max» ⟨[.ref p], [("default", dv)]⟩) (fun fin s' => match fin with
      | .done f => (match (Except.ok f : Result) with | .ok (.ret v) => EP X pins σ Q v s' | .ok _ => False | .error e => X.xe e s')
      | .again c' => c'.quiet = true ∧ codeAny (model X.prog X.w) X.A c' (fun r s' => match r with | .ok (.ret v) => EP X pins σ Q v s' | .ok _ => False | .error e => X.xe e s') s') X.xe s := by
    show wpAny _ X.A.in1 (Builtin.Builtins.bindParams "max" ["key", "default"] 0 ⟨[], [("default", dv)]⟩ >>= _) _ _ s
    refine wpAny_bind (wpAny_of_eq (show Builtin.Builtins.bindParams "max" ["key", "default"] 0 ⟨[], [("default", dv)]⟩ = pure [none, some dv] from rfl) ?_)
    refine wpAny_bind (wpAny_pure ?_)
    refine wpAny_bind (wpAny_pyIter_list hl ?_)
    refine wpAny_bind (wpAny_newObj_type ?_)
    rw [hnm]
    have hk : ∀ b o, s.heap.get? b = some o → ((s.heap.push { cls := .type "list_iterator", data := .fields #[.ref p, .int 0 0] }).push { cls := .type "list", data := .seq #[] }).get? b = some o := fun b o e => Heap.get?_push_of_some _ (Heap.get?_push_of_some _ e)
    have hsz : (s.heap.push { cls := .type "list_iterator", data := .fields #[.ref p, .int 0 0] }).objs.size = s.heap.objs.size + 1 := Heap.size_push ..
    refine wpAny_pure ⟨plainId_quiet F.plain_max_loop _, mx_first (it := s.heap.objs.size) (l := p) (S := (s.heap.push { cls := .type "list_iterator", data := .fields #[.ref p, .int 0 0] }).objs.size) (c := 0) (I.ok.hd hc) rv (by rw [hsz]; exact Nat.ne_of_gt (Nat.lt_succ_self _)) (by rw [hsz]; exact Nat.ne_of_gt (Nat.lt_succ_of_lt hplt)) (Nat.ne_of_gt hplt) dv ?_ ?_ (Heap.get?_push_size _ rfl) fun h' tk v k2 hv => ?_⟩
    · exact ⟨_, Heap.get?_push_of_some _ (Heap.get?_push_size _ rfl), rfl, rfl⟩
    · obtain ⟨o, e1, e2⟩ := hl
      exact ⟨o, hk _ _ e1, e2⟩
    · have I2 : Inv X pins σ H { s with heap := h', toks := tk } := I.kept fun b o e => k2 b o (by rw [hsz]; exact Nat.ne_of_lt (Nat.lt_succ_of_lt (Heap.lt_size e))) (Nat.ne_of_lt (Heap.lt_size e)) (hk b o e)
      cases ns with
      | nil => exact ⟨.int k, H, I2, by rw [show v = dv from hv]; exact ry, q⟩
      | cons b r =>
        obtain ⟨t, e⟩ := hv
        exact ⟨.int (r.foldl mxI b), H, I2, ⟨t, e⟩, q⟩
  cases hsig : Manifest.signature? "max" with
  | none => exact wpAny_pure hgo
  | some sig =>
    have ha := mx_args (.ref p) dv
    simp only [argsOk, hsig] at ha
    have h2 : Bind.checkArgs "max" sig ⟨[.ref p], [("default", dv)]⟩ = pure () := ha
    show wpAny _ X.A.in1 (Bind.checkArgs "max" sig ⟨[.ref p], [("default", dv)]⟩) _ _ s
    rw [h2]; exact wpAny_pure hgo
variable {e d : Expr} {te td : TE} {p kp pos : Pos}
def tMaxD (K : PySem.W.Frag) (te td : TE) : TE := fun σ H Q => te σ H fun x H1 => td σ H1 fun y H2 => rMaxD K x y H2 Q
theorem pe_maxD (hc : X.calm = true) (hg : Gl X "max") (hm : X.mg "max" = none) (ha : PA X [e] (tCons te tNil)) (hd : PE X d td) (he : backTo pos (starEach [e] X.env) = (false, eval e X.env) :: backTo pos (starEach [] X.env) := by rfl) (hpl : (backTo pos (starEach [e] X.env)).any (·.1) = false := by rfl) :
    PE X (.Call (.Name "max" p) [e] [⟨some "default", d, kp⟩] pos) (tMaxD X.K te td) := by
  intro pins s σ H Q I h
  refine wpAny_Call_Name_kw (ld_blt I hg hm bt_max ?_ (by decide) (by decide))
  refine callWith_kw ?_ he hpl
  refine thn (ha pos pins s σ H (fun vs H1 => match vs with | [x] => td σ H1 (fun y H2 => rMaxD X.K x y H2 Q) | _ => False) I h) fun us s1 ⟨vs, H1, I1, r1, q1⟩ => ?_
  match vs, q1, r1 with
  | [x], q1, r1 =>
    obtain ⟨u, rfl, rx⟩ := vals1 r1
    refine kws_cons (thn (hd pins s1 σ H1 _ I1 q1) fun dv s2 ⟨y, H2, I2, ry, q2⟩ => kws_nil ?_)
    exact call_maxD hc I2 rx ry q2
end
end L2

namespace L2
open PySem PySem.Spec PyProof.Rows
/-! ### == of two things that are the same tree -/
mutual
def T.dep : T → Nat
  | .lst ts => T.deps ts + 1
  | .dic _ ts => T.deps ts + 1
  | .tup ts => T.deps ts + 1
  | .non => 0
  | .bl _ => 0
  | .int _ => 0
  | .str _ => 0
def T.deps : List T → Nat
  | [] => 0
  | t :: ts => max (T.dep t) (T.deps ts)
end
mutual
/-- no tuple within -/
def T.pure : T → Prop
  | .tup _ => False
  | .lst ts => T.pures ts
  | .dic ks ts => ks.Nodup ∧ T.pures ts
  | .non => True
  | .bl _ => True
  | .int _ => True
  | .str _ => True
def T.pures : List T → Prop
  | [] => True
  | t :: ts => T.pure t ∧ T.pures ts
end
theorem T.deps_le {t : T} : ∀ {ts : List T}, t ∈ ts → T.dep t ≤ T.deps ts
  | [], h => nomatch h
  | u :: ts, h => by
    show T.dep t ≤ max (T.dep u) (T.deps ts)
    rcases List.mem_cons.mp h with e | e
    · subst e; exact Nat.le_max_left _ _
    · exact Nat.le_trans (T.deps_le e) (Nat.le_max_right _ _)
def EqM (P : Program) (w : World) (A : Around) (s : Shared) (u v : Value) : Prop := ∀ (E : Value → Shared → Prop) (Q : Bool → Shared → Prop), Q true s → wpAny (model P w) A (eqBool u v) Q E s
def RcM (P : Program) (w : World) (A : Around) (s : Shared) (u v : Value) : Prop := ∀ (E : Value → Shared → Prop) (Q : Value → Shared → Prop), Q (.bool true) s → wpAny (model P w) A (richCompare .Eq u v) Q E s
theorem EqM.of_at {P : Program} {w : World} {A : Around} {s : Shared} {u v : Value} (h : SeqAt.EqAt A s u v true) : EqM P w A s u v := fun E Q q => h P w E Q q
theorem EqM.refs {P : Program} {w : World} {A : Around} {s : Shared} {a b : Addr} (h : a ≠ b → RcM P w A s (.ref a) (.ref b)) : EqM P w A s (.ref a) (.ref b) := by
  by_cases e : a = b
  · subst e; exact .of_at (SeqAt.EqAt.same _)
  · intro E Q q
    unfold eqBool
    refine wpAny_holding (wpAny_ite_split (fun z => ?_) fun _ => wpAny_bind (h e E _ (wpAny_truthy_bool q)))
    have := eq_of_beq z
    injection this with this
    exact absurd this e
section
variable {P : Program} {w : World}
open AutoSeq1 (wpAny_loadPart')
open MeetsSeq MeetsSeq2 MeetsSeq3 SeqRoads2 SeqAt
theorem eqm_loop (l b : Addr) (xs ys : Array Value) (n m : Nat) (d1 d2 : Option Addr) (sl1 sl2 : Array (Option Value)) (hsz : xs.size = ys.size) (k : Nat) :
    ∀ i : Nat, xs.size - i = k → MeetsIn P w (Builtin.«list.__eq__.loop» ⟨[.ref l, .ref b, rawInt i, rawInt 2], []⟩)
      (fun A R s => s.heap.get? l = some { cls := .type "list", dict := d1, data := .seq xs n, slots := sl1 } ∧ s.heap.get? b = some { cls := .type "list", dict := d2, data := .seq ys m, slots := sl2 } ∧
        (∀ j (h1 : j < xs.size) (h2 : j < ys.size), EqM P w A.in1 s xs[j] ys[j]) ∧ R (.ok (.ret (.bool true))) s) := by
  induction k with
  | zero =>
    intro i hk A R s h
    obtain ⟨hp, g, d, tk, os⟩ := s
    obtain ⟨hl, hb, he, h⟩ := h
    wp_walk using wpAny_loadPart' hl, wpAny_loadPart' hb
    have z1 : xs[((i : Nat) : Int).toNat]? = none := by simp; omega
    have z2 : ys[((i : Nat) : Int).toNat]? = none := by simp; omega
    rw [z1, z2]
    wp_walk using wpAny_loadPart' hl, wpAny_loadPart' hb
    show R (.ok (.ret (.bool (xs.size == ys.size)))) _
    rw [hsz, beq_self_eq_true]; exact h
  | succ k ih =>
    intro i hk A R s h
    obtain ⟨hp, g, d, tk, os⟩ := s
    obtain ⟨hl, hb, he, h⟩ := h
    wp_walk using wpAny_loadPart' hl, wpAny_loadPart' hb
    have l1 : i < xs.size := by omega
    have l2 : i < ys.size := by omega
    have z1 : xs[((i : Nat) : Int).toNat]? = some xs[i] := by simp [l1]
    have z2 : ys[((i : Nat) : Int).toNat]? = some ys[i] := by simp [l2]
    rw [z1, z2]
    refine wpAny_bind (he i l1 l2 _ _ ?_)
    wp_walk
    rw [show ((i : Int) + 1) = ((i + 1 : Nat) : Int) by omega]
    refine ⟨plainId_quiet plain_eq_loop _, codeAny_builtin entry_eq_loop ?_⟩
    rw [Around.under_plainId plain_eq_loop _]
    exact ih (i + 1) (by omega) A R _ ⟨hl, hb, he, h⟩
theorem eqm_list (l b : Addr) (xs ys : Array Value) (n m : Nat) (d1 d2 : Option Addr) (sl1 sl2 : Array (Option Value)) (hsz : xs.size = ys.size) : MeetsIn P w (Builtin.«list.__eq__» ⟨[.ref l, .ref b], []⟩)
      (fun A R s => s.heap.get? l = some { cls := .type "list", dict := d1, data := .seq xs n, slots := sl1 } ∧ s.heap.get? b = some { cls := .type "list", dict := d2, data := .seq ys m, slots := sl2 } ∧
        (∀ j (h1 : j < xs.size) (h2 : j < ys.size), EqM P w A.in1 s xs[j] ys[j]) ∧ R (.ok (.ret (.bool true))) s) := by
  intro A R s h
  obtain ⟨hp, g, d, tk, os⟩ := s
  obtain ⟨hl, hb, he, h⟩ := h
  have f3 := AutoSeq1.sub_list_list
  have hne : ¬ (xs.size != ys.size) = true := by simp [hsz]
  wp_walk using wpAny_loadPart' hl, wpAny_loadPart' hb
  refine ⟨plainId_quiet plain_eq_loop _, codeAny_builtin entry_eq_loop ?_⟩
  rw [Around.under_plainId plain_eq_loop _]
  exact eqm_loop l b xs ys n m d1 d2 sl1 sl2 hsz _ 0 rfl A R _ ⟨hl, hb, he, h⟩
theorem RcM.lists {A : Around} {s : Shared} {l b : Addr} {xs ys : Array Value} (hl : s.heap.IsList l xs) (hb : s.heap.IsList b ys) (hsz : xs.size = ys.size) (hu : A.units < cLine)
    (he : ∀ j (h1 : j < xs.size) (h2 : j < ys.size), EqM P w A.in1 s xs[j] ys[j]) : RcM P w A s (.ref l) (.ref b) := fun E Q q => by
  obtain ⟨⟨c1, d1, dt1, sl1⟩, ho, hc, n, hd⟩ := id hl
  obtain ⟨⟨c2, d2, dt2, sl2⟩, ho2, hc2, n2, hd2⟩ := id hb
  simp only at hc hd hc2 hd2
  subst hc hd hc2 hd2
  refine wpAny_richCompare_same_room (op := .Eq) ⟨_, ho, rfl⟩ ⟨_, ho2, rfl⟩ F.slot_list_eq (call_meetsIn F.slot_list_eq ⟨_, ho, rfl⟩ F.entry_list_eq (F.args_list_eq_2 _ _) (eqm_list l b xs ys n n2 d1 d2 sl1 sl2 hsz) ⟨ho, ho2, he, ?_⟩) hu
  exact ⟨(fun x => nomatch x), q⟩
/-- every pair of the one is found in the other, with an equal thing -/
theorem eqm_pairs {κ : Type} [DecidableEq κ] {knd : KeyKind P w κ} {A : Around} {E : Value → Shared → Prop} {s : Shared} {nm : String} {a b : Addr} {pa pb : List (κ × Value)} {Q : Bool → Shared → Prop} (na : (a == sysModules) = false) (nb : (b == sysModules) = false)
    (Da : s.heap.DictOf knd a pa) (Db : s.heap.DictOf knd b pb) (hl : pa.length = pb.length) (hit : ∀ (i : Nat) k v, pa[i]? = some (k, v) → ∃ y, valueAt pb k = some y ∧ EqM P w A s v y) (q : Q true s) : wpAny (model P w) A (Builtin.Dict.samePairs nm a b) Q E s := by
  obtain ⟨o1, e1, n1, g1, _, d1, k1, p1, _⟩ := Da
  obtain ⟨o2, e2, n2, g2, _, d2, k2, p2, _⟩ := Db
  have s1 : pa.length = e1.size := by rw [← p1.length]; simp
  have s2 : pb.length = e2.size := by rw [← p2.length]; simp
  have look : ∀ k, findBy knd.is e2 k = valueAt pb k := fun k => by
    rw [← p2.find k]
    clear s2 p2 k2 d2 g2
    obtain ⟨l⟩ := e2
    simp [findBy]
  have en : e1.size = e2.size := by omega
  unfold Builtin.Dict.samePairs Builtin.Dict.showsAll
  rw [if_neg (show ¬ (a == sysModules) = true by rw [na]; exact Bool.false_ne_true), if_neg (show ¬ (b == sysModules) = true by rw [nb]; exact Bool.false_ne_true)]
  refine wpAny_bind (wpAny_pure (wpAny_bind (wpAny_pure (wpAny_bind (wpAny_dictEntries g1 d1 ?_)))))
  dsimp only
  refine wpAny_bind (wpAny_dictEntries g2 d2 ?_)
  rw [if_neg (by rw [en]; simp)]
  refine wpAny_bind (wpAny_dictEpoch g1 d1 (wpAny_bind ?_))
  rw [Std.Legacy.Range.forIn_eq_forIn_range']
  simp only [Std.Legacy.Range.size, Nat.sub_zero, Nat.add_sub_cancel, Nat.div_one]
  refine wpAny_forIn_list _ (fun rest z s' => s' = s ∧ z = (none, ()) ∧ ∃ i, rest = List.range' i (e1.size - i) ∧ i ≤ e1.size) _ ?_ ?_ _ _ ⟨rfl, rfl, 0, by simp, Nat.zero_le _⟩
  · rintro x rest z s' ⟨rfl, rfl, i, hr, hi⟩
    have lt : i < e1.size := by
      by_cases c : i < e1.size
      · exact c
      · rw [Nat.sub_eq_zero_of_le (by omega)] at hr; simp at hr
    obtain ⟨rfl, hr2⟩ : x = i ∧ rest = List.range' (i + 1) (e1.size - (i + 1)) := by
      rw [show e1.size - i = (e1.size - (i + 1)) + 1 by omega, List.range'_succ] at hr
      injection hr with c1 c2
      exact ⟨c1, c2⟩
    have ltp : x < pa.length := by omega
    obtain ⟨k, v, ekv⟩ : ∃ k v, pa[x]? = some (k, v) := ⟨_, _, by rw [List.getElem?_eq_getElem ltp]⟩
    obtain ⟨c1, c2⟩ := p1.get? (i := x) (e := e1[x]) (k := k) (v := v) (by rw [Array.getElem?_toList]; exact Array.getElem?_eq_getElem lt) ekv
    obtain ⟨k', c3, c4⟩ := k1 e1[x] (Array.getElem_mem lt)
    rw [knd.inj _ _ _ c3 c1] at c4
    obtain ⟨y, hy, he⟩ := hit x k v ekv
    refine wpAny_bind (wpAny_dictEntries g1 d1 ?_)
    rw [Array.getElem?_eq_getElem lt]
    show wpAny _ _ (holding [e1[x].key, e1[x].val] _ >>= _) _ _ _
    rw [c4]
    refine wpAny_bind (wpAny_holding (wpAny_bind (wpAny_dictFind_of c1 g2 d2 k2 ?_)))
    cases hj : e2.findIdx? fun e => knd.is k e.key with
    | none =>
      have c5 : valueAt pb k = none := by rw [← look k, findBy_of_findIdx?, hj]
      rw [c5] at hy; cases hy
    | some j =>
      obtain ⟨lj, _, _⟩ := Array.findIdx?_eq_some_iff_getElem.mp hj
      have c5 : valueAt pb k = some e2[j].val := by
        rw [← look k, findBy_of_findIdx?, hj]
        simp [Array.getElem?_eq_getElem lj]
      rw [c5] at hy
      have c6 : e2[j].val = y := Option.some.inj hy
      refine wpAny_bind (wpAny_dictEntries g2 d2 ?_)
      rw [Array.getElem?_eq_getElem lj]
      rw [← c6, ← c2] at he
      refine wpAny_holding (he _ _ ?_)
      show wpAny _ _ (if (!true) = true then _ else _) _ _ _
      rw [if_neg (by decide)]
      refine wpAny_bind (wpAny_dictEpoch g1 d1 ?_)
      rw [if_neg (by simp)]
      exact wpAny_pure ⟨rfl, rfl, x + 1, hr2, lt⟩
  · rintro z s' ⟨rfl, rfl, i, hr, hi⟩
    exact wpAny_pure q
theorem RcM.dicts {κ : Type} [DecidableEq κ] {knd : KeyKind P w κ} {A : Around} {s : Shared} {a b : Addr} {pa pb : List (κ × Value)} (na : (a == sysModules) = false) (nb : (b == sysModules) = false)
    (Da : s.heap.DictOf knd a pa) (Db : s.heap.DictOf knd b pb) (hl : pa.length = pb.length) (hu : A.units < cLine) (hit : ∀ (i : Nat) k v, pa[i]? = some (k, v) → ∃ y, valueAt pb k = some y ∧ EqM P w A.in1 s v y) : RcM P w A s (.ref a) (.ref b) := fun E Q q => by
  refine wpAny_richCompare_same_room (op := .Eq) Da.typeIs Db.typeIs F.slot_dict_eq (wpAny_call_entry F.slot_dict_eq Da.typeIs F.entry_dict_eq ?_ (F.args_dict_eq_2 _ _)) hu
  show wpAny _ _ (Builtin.Dict.dictSlotArgs "__eq__" ⟨[.ref a, .ref b], []⟩ >>= _) _ _ s
  refine wpAny_bind ?_
  unfold Builtin.Dict.dictSlotArgs
  refine wpAny_bind (wpAny_notOrdered_dict Da.typeIs ?_)
  show wpAny _ _ (pure (Value.ref a, Value.ref b)) _ _ s
  refine wpAny_pure (wpAny_bind (wpAny_isInstance (T := "dict") Db.typeIs F.sub_dict_dict ?_))
  simp only [Bool.not_true, Bool.false_eq_true, if_false]
  refine wpAny_bind (wpAny_pure (wpAny_bind (wpAny_pure (wpAny_bind (eqm_pairs na nb Da Db hl hit ?_)))))
  exact wpAny_pure ⟨_, rfl, (fun x => nomatch x), q⟩
end
theorem valueAt_ix {κ : Type} [DecidableEq κ] : ∀ {vs : List (κ × Value)} {i : Nat} {k : κ} {y : Value}, (vs.map (·.1)).Nodup → vs[i]? = some (k, y) → valueAt vs k = some y
  | [], i, k, y, _, h => by simp at h
  | p :: vs, 0, k, y, _, h => by
    simp only [List.getElem?_cons_zero, Option.some.injEq] at h
    subst h
    simp [valueAt]
  | p :: vs, i + 1, k, y, nd, h => by
    rw [List.map_cons, List.nodup_cons] at nd
    have h' : vs[i]? = some (k, y) := by simpa using h
    have ne : ¬ p.1 = k := fun e => nd.1 (List.mem_map.mpr ⟨(k, y), List.mem_of_getElem? h', e.symm⟩)
    have ih := valueAt_ix nd.2 h'
    unfold valueAt at ih ⊢
    rw [List.find?_cons, decide_eq_false ne]
    exact ih
section
variable {X : Cx} {pins : List (Addr × Obj)} {σ : St} {H : Hp} {s : Shared}
theorem nodup_nK {ks : List (List Nat)} (h : ks.Nodup) : (ks.map nK).Nodup := by
  induction ks with
  | nil => exact List.nodup_nil
  | cons k r ih =>
    rw [List.nodup_cons] at h
    rw [List.map_cons, List.nodup_cons]
    refine ⟨fun hm => ?_, ih h.2⟩
    obtain ⟨k', hk, e⟩ := List.mem_map.mp hm
    exact h.1 (nK_inj e ▸ hk)
mutual
theorem eqm_tree (I : Inv X pins σ H s) : ∀ (t : T) {x y : V} {u v : Value} {A : Around}, Rep H x t → Rep H y t → T.pure t → RelV x u → RelV y v → A.units + T.dep t < cLine → EqM X.prog X.w A s u v
  | .non, x, y, u, v, A, hx, hy, _, rx, ry, _ => by
    cases (show x = .non from hx); cases (show y = .non from hy)
    exact .of_at (eqAt_V rx ry rfl rfl)
  | .bl b, x, y, u, v, A, hx, hy, _, rx, ry, _ => by
    cases (show x = .bl b from hx); cases (show y = .bl b from hy)
    have z := eqAt_V (A := A) (s := s) rx ry rfl rfl
    rw [show eqV (.bl b) (.bl b) = true from beq_self_eq_true b] at z
    exact .of_at z
  | .int b, x, y, u, v, A, hx, hy, _, rx, ry, _ => by
    cases (show x = .int b from hx); cases (show y = .int b from hy)
    have z := eqAt_V (A := A) (s := s) rx ry rfl rfl
    rw [show eqV (.int b) (.int b) = true from beq_self_eq_true b] at z
    exact .of_at z
  | .str b, x, y, u, v, A, hx, hy, _, rx, ry, _ => by
    cases (show x = .str (tx b) from hx); cases (show y = .str (tx b) from hy)
    have z := eqAt_V (A := A) (s := s) rx ry rfl rfl
    rw [show eqV (.str (tx b)) (.str (tx b)) = true from beq_self_eq_true _] at z
    exact .of_at z
  | .lst ts, x, y, u, v, A, ⟨a, xs, e1, ha, hxs⟩, ⟨b, ys, e2, hb, hys⟩, hp, rx, ry, hd => by
    subst e1 e2
    cases rx; cases ry
    obtain ⟨us, r1, pl1, _⟩ := I.list (SqL.of ha)
    obtain ⟨vs, r2, pl2, _⟩ := I.list (SqL.of hb)
    have n1 := r1.length; have n2 := r2.length; have m1 := hxs.length; have m2 := hys.length
    have hd' : A.units + (T.deps ts + 1) < cLine := hd
    refine EqM.refs fun _ => RcM.lists pl1.isList pl2.isList (by simp; omega) (by omega) fun j h1 h2 => ?_
    have := eqm_trees I ts (A := A.in1) hxs hys hp r1 r2 (by show A.units + 1 + _ < _; omega) j (by simpa using h1) (by simpa using h2)
    simpa using this
  | .dic ks ts, x, y, u, v, A, ⟨a, ps, e1, ha, hk1, hxs⟩, ⟨b, qs, e2, hb, hk2, hys⟩, hp, rx, ry, hd => by
    subst e1 e2
    cases rx; cases ry
    obtain ⟨nd, hp⟩ := hp
    obtain ⟨_, na, us, r1, D1⟩ := dk_of I.hok ha
    obtain ⟨_, nb, vs, r2, D2⟩ := dk_of I.hok hb
    have n1 := r1.length; have n2 := r2.length; have m1 := hxs.length; have m2 := hys.length
    rw [List.length_map] at m1 m2
    have hd' : A.units + (T.deps ts + 1) < cLine := hd
    have k1 := r1.keys; have k2 := r2.keys
    refine EqM.refs fun _ => RcM.dicts na nb D1 D2 (by omega) (by omega) fun i k v hi => ?_
    have li : i < us.length := (List.getElem?_eq_some_iff.mp hi).1
    have li2 : i < vs.length := by omega
    obtain ⟨k', y, hi2⟩ : ∃ k' y, vs[i]? = some (k', y) := ⟨_, _, by rw [List.getElem?_eq_getElem li2]⟩
    have ek : k' = k := by
      have e : us.map (·.1) = vs.map (·.1) := by rw [← k1, ← k2, hk1, hk2]
      have e3 := congrArg (fun l => l[i]?) e
      simp only [List.getElem?_map, hi, hi2, Option.map_some, Option.some.injEq] at e3
      exact e3.symm
    subst ek
    refine ⟨y, valueAt_ix (by rw [← k2, hk2]; exact nodup_nK nd) hi2, ?_⟩
    have := eqm_trees I ts (A := A.in1) hxs hys hp (kv_vals r1) (kv_vals r2) (by show A.units + 1 + _ < _; omega) i (by simpa using li) (by simpa using li2)
    rw [List.getElem?_eq_getElem li] at hi
    rw [List.getElem?_eq_getElem li2] at hi2
    simp only [List.getElem_map, Option.some.inj hi, Option.some.inj hi2] at this
    exact this
  | .tup ts, x, y, u, v, A, _, _, hp, _, _, _ => hp.elim
theorem eqm_trees (I : Inv X pins σ H s) : ∀ (ts : List T) {xs ys : List V} {us vs : List Value} {A : Around}, Reps H xs ts → Reps H ys ts → T.pures ts → Vals xs us → Vals ys vs → A.units + T.deps ts < cLine →
    ∀ (j : Nat) (h1 : j < us.length) (h2 : j < vs.length), EqM X.prog X.w A s us[j] vs[j]
  | [], xs, ys, us, vs, A, hx, hy, _, rx, ry, _, j, h1, h2 => by
    cases (show xs = [] from hx)
    cases rx
    simp at h1
  | t :: ts, xs, ys, us, vs, A, ⟨x, xr, e1, hx, hxr⟩, ⟨y, yr, e2, hy, hyr⟩, hp, rx, ry, hd, j, h1, h2 => by
    subst e1 e2
    cases rx with
    | cons rx1 rx2 =>
      cases ry with
      | cons ry1 ry2 =>
        have hd' : A.units + max (T.dep t) (T.deps ts) < cLine := hd
        have q1 := Nat.le_max_left (T.dep t) (T.deps ts)
        have q2 := Nat.le_max_right (T.dep t) (T.deps ts)
        cases j with
        | zero => exact eqm_tree I t hx hy hp.1 rx1 ry1 (by omega)
        | succ j => exact eqm_trees I ts hxr hyr hp.2 rx2 ry2 (by omega) j (by simpa using h1) (by simpa using h2)
end
theorem rcm_tree (I : Inv X pins σ H s) {A : Around} : ∀ (t : T) {x y : V} {u v : Value}, Rep H x t → Rep H y t → T.pure t → RelV x u → RelV y v → A.units + T.dep t < cLine → RcM X.prog X.w A s u v
  | .non, x, y, u, v, hx, hy, _, rx, ry, _ => by
    cases (show x = .non from hx); cases (show y = .non from hy)
    cases (show u = Value.none from rx); cases (show v = Value.none from ry)
    exact fun E Q q => SeqAt.RcAt.none_none _ _ E Q q
  | .bl b, x, y, u, v, hx, hy, _, rx, ry, _ => by
    cases (show x = .bl b from hx); cases (show y = .bl b from hy)
    cases (show u = Value.bool b from rx); cases (show v = Value.bool b from ry)
    exact fun E Q q => SeqAt.RcAt.bool_bool b b _ _ E Q (by rw [beq_self_eq_true]; exact q)
  | .int b, x, y, u, v, hx, hy, _, rx, ry, _ => by
    cases (show x = .int b from hx); cases (show y = .int b from hy)
    obtain ⟨t1, rfl⟩ := rx
    obtain ⟨t2, rfl⟩ := ry
    exact fun E Q q => SeqAt.RcAt.int_int b t1 b t2 _ _ E Q (by rw [beq_self_eq_true]; exact q)
  | .str b, x, y, u, v, hx, hy, _, rx, ry, _ => by
    cases (show x = .str (tx b) from hx); cases (show y = .str (tx b) from hy)
    obtain ⟨t1, rfl⟩ := rx
    obtain ⟨t2, rfl⟩ := ry
    exact fun E Q q => SeqAt.RcAt.str_str (tx b) t1 (tx b) t2 _ _ E Q (by rw [beq_self_eq_true]; exact q)
  | .lst ts, x, y, u, v, ⟨a, xs, e1, ha, hxs⟩, ⟨b, ys, e2, hb, hys⟩, hp, rx, ry, hd => by
    subst e1 e2
    cases rx; cases ry
    obtain ⟨us, r1, pl1, _⟩ := I.list (SqL.of ha)
    obtain ⟨vs, r2, pl2, _⟩ := I.list (SqL.of hb)
    have n1 := r1.length; have n2 := r2.length; have m1 := hxs.length; have m2 := hys.length
    have hd' : A.units + (T.deps ts + 1) < cLine := hd
    refine RcM.lists pl1.isList pl2.isList (by simp; omega) (by omega) fun j h1 h2 => ?_
    have := eqm_trees I ts (A := A.in1) hxs hys hp r1 r2 (by show A.units + 1 + _ < _; omega) j (by simpa using h1) (by simpa using h2)
    simpa using this
  | .dic ks ts, x, y, u, v, ⟨a, ps, e1, ha, hk1, hxs⟩, ⟨b, qs, e2, hb, hk2, hys⟩, hp, rx, ry, hd => by
    by_cases e : a = b
    · subst e1 e2 e
      cases rx; cases ry
      obtain ⟨nd, hp⟩ := hp
      rw [ha] at hb; cases hb
      obtain ⟨_, na, us, r1, D1⟩ := dk_of I.hok ha
      have hd' : A.units + (T.deps ts + 1) < cLine := hd
      have k1 := r1.keys
      refine RcM.dicts na na D1 D1 rfl (by omega) fun i k v hi => ⟨v, valueAt_ix (by rw [← k1, hk1]; exact nodup_nK nd) hi, .of_at (SeqAt.EqAt.same _)⟩
    · subst e1 e2
      cases rx; cases ry
      have z := eqm_tree I (.dic ks ts) (A := A) (x := .ref a) (y := .ref b) (u := .ref a) (v := .ref b) ⟨a, ps, rfl, ha, hk1, hxs⟩ ⟨b, qs, rfl, hb, hk2, hys⟩ hp rfl rfl hd
      obtain ⟨nd, hp⟩ := hp
      obtain ⟨_, na, us, r1, D1⟩ := dk_of I.hok ha
      obtain ⟨_, nb, vs, r2, D2⟩ := dk_of I.hok hb
      have n1 := r1.length; have n2 := r2.length; have m1 := hxs.length; have m2 := hys.length
      rw [List.length_map] at m1 m2
      have hd' : A.units + (T.deps ts + 1) < cLine := hd
      have k1 := r1.keys; have k2 := r2.keys
      refine RcM.dicts na nb D1 D2 (by omega) (by omega) fun i k v hi => ?_
      have li : i < us.length := (List.getElem?_eq_some_iff.mp hi).1
      have li2 : i < vs.length := by omega
      obtain ⟨k', y, hi2⟩ : ∃ k' y, vs[i]? = some (k', y) := ⟨_, _, by rw [List.getElem?_eq_getElem li2]⟩
      have ek : k' = k := by
        have e : us.map (·.1) = vs.map (·.1) := by rw [← k1, ← k2, hk1, hk2]
        have e3 := congrArg (fun l => l[i]?) e
        simp only [List.getElem?_map, hi, hi2, Option.map_some, Option.some.injEq] at e3
        exact e3.symm
      subst ek
      refine ⟨y, valueAt_ix (by rw [← k2, hk2]; exact nodup_nK nd) hi2, ?_⟩
      have := eqm_trees I ts (A := A.in1) hxs hys hp (kv_vals r1) (kv_vals r2) (by show A.units + 1 + _ < _; omega) i (by simpa using li) (by simpa using li2)
      rw [List.getElem?_eq_getElem li] at hi
      rw [List.getElem?_eq_getElem li2] at hi2
      simp only [List.getElem_map, Option.some.inj hi, Option.some.inj hi2] at this
      exact this
  | .tup ts, x, y, u, v, _, _, hp, _, _, _ => hp.elim
/-- one == other, where both are the same tree -/
def rEqT : R2 := fun x y H Q => ∃ t, Rep H x t ∧ Rep H y t ∧ T.pure t ∧ T.dep t ≤ 60 ∧ Q (.bl true) H
theorem op_eq_T (hu : X.A.units + 64 < cLine) : OpR X (compareOp .Eq) rEqT := by
  intro pins s σ H x y v u Q I rx ry h
  obtain ⟨t, hx, hy, hp, hd, q⟩ := h
  exact rcm_tree I t hx hy hp rx ry (by omega) _ _ ⟨.bl true, H, I, rfl, q⟩
/-- a list beside an empty one -/
def rEq0 (K : PySem.W.Frag) (neg : Bool) : R2 := fun x y H Q => ∃ a b xs, x = .ref a ∧ y = .ref b ∧ SqL K H a xs ∧ SqL K H b [] ∧ Q (.bl (if neg then !xs.isEmpty else xs.isEmpty)) H
theorem op_eq_0 (hu : X.A.units < cLine) : OpR X (compareOp .Eq) (rEq0 X.K false) := by
  intro pins s σ H x y v u Q I rx ry h
  obtain ⟨a, b, xs, rfl, rfl, ha, hb, q⟩ := h
  cases rx; cases ry
  obtain ⟨us, r1, pl1, _⟩ := I.list ha
  obtain ⟨vs, r2, pl2, _⟩ := I.list hb
  cases r2
  cases xs with
  | nil =>
    cases r1
    exact SeqAt.eq_listAt (e := fun _ => true) pl1.isList pl2.isList rfl hu (fun j h1 => absurd h1 (by simp)) ⟨.bl true, H, I, rfl, q⟩
  | cons x xs =>
    have n1 := r1.length
    exact SeqAt.eq_list_lengthsAt pl1.isList pl2.isList (by simp [← n1]) hu ⟨.bl false, H, I, rfl, q⟩
theorem op_ne_0 (hu : X.A.units < cLine) : OpR X (compareOp .NotEq) (rEq0 X.K true) := by
  intro pins s σ H x y v u Q I rx ry h
  obtain ⟨a, b, xs, rfl, rfl, ha, hb, q⟩ := h
  cases rx; cases ry
  obtain ⟨us, r1, pl1, _⟩ := I.list ha
  obtain ⟨vs, r2, pl2, _⟩ := I.list hb
  cases r2
  cases xs with
  | nil =>
    cases r1
    exact SeqAt.RcNeAt.lists (e := fun _ => true) pl1.isList pl2.isList rfl hu (fun j h1 => absurd h1 (by simp)) X.prog X.w X.xe _ ⟨.bl false, H, I, rfl, q⟩
  | cons x xs =>
    have n1 := r1.length
    exact SeqAt.RcNeAt.lists_lengths pl1.isList pl2.isList (by simp [← n1]) hu X.prog X.w X.xe _ ⟨.bl true, H, I, rfl, q⟩
end
end L2

namespace L2
open PySem PySem.Spec PyProof.Rows
/-! ### sizes; where an address stands within a thing -/
mutual
def T.sz : T → Nat
  | .lst ts => T.szs ts + 1
  | .dic _ ts => T.szs ts + 1
  | .tup ts => T.szs ts + 1
  | .non => 1
  | .bl _ => 1
  | .int _ => 1
  | .str _ => 1
def T.szs : List T → Nat
  | [] => 0
  | t :: ts => T.sz t + T.szs ts
end
mutual
def Occ (H : Hp) (d : Addr) : V → T → Prop
  | v, .lst ts => v = .ref d ∨ ∃ a vs, v = .ref a ∧ H a = some (.lst vs) ∧ Occs H d vs ts
  | v, .dic _ ts => v = .ref d ∨ ∃ a ps, v = .ref a ∧ H a = some (.dK ps) ∧ Occs H d (ps.map (·.2)) ts
  | v, .tup ts => v = .ref d ∨ ∃ a vs, v = .ref a ∧ H a = some (.tup vs) ∧ Occs H d vs ts
  | _, .non => False
  | _, .bl _ => False
  | _, .int _ => False
  | _, .str _ => False
def Occs (H : Hp) (d : Addr) : List V → List T → Prop
  | v :: vs, t :: ts => Occ H d v t ∨ Occs H d vs ts
  | _, _ => False
end
mutual
/-- a store at an address that does not stand in it changes nothing of it -/
theorem Rep.away {H : Hp} {d : Addr} {o : HO} : ∀ (x : V) (t : T), Rep H x t → ¬ Occ H d x t → Rep (upd H d o) x t
  | _, .non, h, _ => h
  | _, .bl _, h, _ => h
  | _, .int _, h, _ => h
  | _, .str _, h, _ => h
  | x, .lst ts, ⟨a, vs, e, ha, hs⟩, n => by
    have ne : a ≠ d := fun z => n (.inl (by rw [e, z]))
    exact ⟨a, vs, e, by rw [upd_ne ne]; exact ha, Reps.away vs ts hs fun z => n (.inr ⟨a, vs, e, ha, z⟩)⟩
  | x, .dic ks ts, ⟨a, ps, e, ha, hk, hs⟩, n => by
    have ne : a ≠ d := fun z => n (.inl (by rw [e, z]))
    exact ⟨a, ps, e, by rw [upd_ne ne]; exact ha, hk, Reps.away _ ts hs fun z => n (.inr ⟨a, ps, e, ha, z⟩)⟩
  | x, .tup ts, ⟨a, vs, e, ha, hs⟩, n => by
    have ne : a ≠ d := fun z => n (.inl (by rw [e, z]))
    exact ⟨a, vs, e, by rw [upd_ne ne]; exact ha, Reps.away vs ts hs fun z => n (.inr ⟨a, vs, e, ha, z⟩)⟩
theorem Reps.away {H : Hp} {d : Addr} {o : HO} : ∀ (xs : List V) (ts : List T), Reps H xs ts → ¬ Occs H d xs ts → Reps (upd H d o) xs ts
  | _, [], h, _ => h
  | _, t :: ts, ⟨x, xr, e, h1, h2⟩, n => by
    subst e
    exact ⟨x, xr, rfl, Rep.away x t h1 fun z => n (.inl z), Reps.away xr ts h2 fun z => n (.inr z)⟩
end
mutual
theorem Occ.sub {H : Hp} {d : Addr} : ∀ (x : V) (t : T), Rep H x t → Occ H d x t → ∃ t', Rep H (.ref d) t' ∧ T.sz t' ≤ T.sz t
  | _, .non, _, h => h.elim
  | _, .bl _, _, h => h.elim
  | _, .int _, _, h => h.elim
  | _, .str _, _, h => h.elim
  | x, .lst ts, hr, h => by
    rcases h with e | ⟨a, vs, e, ha, h⟩
    · exact ⟨.lst ts, e ▸ hr, Nat.le_refl _⟩
    · obtain ⟨a', vs', e', ha', hs⟩ := hr
      rw [e] at e'; cases e'
      rw [ha] at ha'; cases ha'
      obtain ⟨t', q, l⟩ := Occs.sub vs ts hs h
      exact ⟨t', q, Nat.le_succ_of_le l⟩
  | x, .dic ks ts, hr, h => by
    rcases h with e | ⟨a, vs, e, ha, h⟩
    · exact ⟨.dic ks ts, e ▸ hr, Nat.le_refl _⟩
    · obtain ⟨a', vs', e', ha', _, hs⟩ := hr
      rw [e] at e'; cases e'
      rw [ha] at ha'; cases ha'
      obtain ⟨t', q, l⟩ := Occs.sub _ ts hs h
      exact ⟨t', q, Nat.le_succ_of_le l⟩
  | x, .tup ts, hr, h => by
    rcases h with e | ⟨a, vs, e, ha, h⟩
    · exact ⟨.tup ts, e ▸ hr, Nat.le_refl _⟩
    · obtain ⟨a', vs', e', ha', hs⟩ := hr
      rw [e] at e'; cases e'
      rw [ha] at ha'; cases ha'
      obtain ⟨t', q, l⟩ := Occs.sub vs ts hs h
      exact ⟨t', q, Nat.le_succ_of_le l⟩
theorem Occs.sub {H : Hp} {d : Addr} : ∀ (xs : List V) (ts : List T), Reps H xs ts → Occs H d xs ts → ∃ t', Rep H (.ref d) t' ∧ T.sz t' ≤ T.szs ts
  | xs, [], _, h => by cases xs <;> exact h.elim
  | _, t :: ts, ⟨x, xr, e, h1, h2⟩, h => by
    subst e
    rcases h with h | h
    · obtain ⟨t', q, l⟩ := Occ.sub x t h1 h
      exact ⟨t', q, Nat.le_trans l (Nat.le_add_right _ _)⟩
    · obtain ⟨t', q, l⟩ := Occs.sub xr ts h2 h
      exact ⟨t', q, Nat.le_trans l (Nat.le_add_left _ _)⟩
end
theorem nKs_inj : ∀ {a b : List (List Nat)}, a.map nK = b.map nK → a = b
  | [], [], _ => rfl
  | [], _ :: _, h => by simp at h
  | _ :: _, [], h => by simp at h
  | x :: a, y :: b, h => by
    rw [List.map_cons, List.map_cons] at h
    injection h with h1 h2
    rw [nK_inj h1, nKs_inj h2]
mutual
theorem Rep.one {H : Hp} : ∀ (t : T) (x : V) (t' : T), Rep H x t → Rep H x t' → t = t'
  | .non, x, t', h, h' => by
    cases (show x = .non from h)
    cases t' with
    | non => rfl
    | bl b => cases (show V.non = .bl b from h')
    | int b => cases (show V.non = .int b from h')
    | str b => cases (show V.non = .str (tx b) from h')
    | lst ts => obtain ⟨a, vs, e, _⟩ := h'; cases e
    | dic ks ts => obtain ⟨a, vs, e, _⟩ := h'; cases e
    | tup ts => obtain ⟨a, vs, e, _⟩ := h'; cases e
  | .bl c, x, t', h, h' => by
    cases (show x = .bl c from h)
    cases t' with
    | non => cases (show V.bl c = .non from h')
    | bl b => cases (show V.bl c = .bl b from h'); rfl
    | int b => cases (show V.bl c = .int b from h')
    | str b => cases (show V.bl c = .str (tx b) from h')
    | lst ts => obtain ⟨a, vs, e, _⟩ := h'; cases e
    | dic ks ts => obtain ⟨a, vs, e, _⟩ := h'; cases e
    | tup ts => obtain ⟨a, vs, e, _⟩ := h'; cases e
  | .int c, x, t', h, h' => by
    cases (show x = .int c from h)
    cases t' with
    | non => cases (show V.int c = .non from h')
    | bl b => cases (show V.int c = .bl b from h')
    | int b => cases (show V.int c = .int b from h'); rfl
    | str b => cases (show V.int c = .str (tx b) from h')
    | lst ts => obtain ⟨a, vs, e, _⟩ := h'; cases e
    | dic ks ts => obtain ⟨a, vs, e, _⟩ := h'; cases e
    | tup ts => obtain ⟨a, vs, e, _⟩ := h'; cases e
  | .str c, x, t', h, h' => by
    cases (show x = .str (tx c) from h)
    cases t' with
    | non => cases (show V.str (tx c) = .non from h')
    | bl b => cases (show V.str (tx c) = .bl b from h')
    | int b => cases (show V.str (tx c) = .int b from h')
    | str b =>
      have e : V.str (tx c) = .str (tx b) := h'
      injection e with e
      have e2 : ts (tx c) = ts (tx b) := by rw [e]
      rw [ts_tx, ts_tx] at e2
      rw [e2]
    | lst ts => obtain ⟨a, vs, e, _⟩ := h'; cases e
    | dic ks ts => obtain ⟨a, vs, e, _⟩ := h'; cases e
    | tup ts => obtain ⟨a, vs, e, _⟩ := h'; cases e
  | .lst us, x, t', ⟨a, vs, e, ha, hs⟩, h' => by
    subst e
    cases t' with
    | non => cases (show V.ref a = .non from h')
    | bl b => cases (show V.ref a = .bl b from h')
    | int b => cases (show V.ref a = .int b from h')
    | str b => cases (show V.ref a = .str (tx b) from h')
    | lst ts =>
      obtain ⟨a', vs', e', ha', hs'⟩ := h'
      cases e'
      rw [ha] at ha'; cases ha'
      rw [Reps.one us vs ts hs hs']
    | dic ks ts => obtain ⟨a', vs', e', ha', _⟩ := h'; cases e'; rw [ha] at ha'; cases ha'
    | tup ts => obtain ⟨a', vs', e', ha', _⟩ := h'; cases e'; rw [ha] at ha'; cases ha'
  | .dic js us, x, t', ⟨a, vs, e, ha, hk, hs⟩, h' => by
    subst e
    cases t' with
    | non => cases (show V.ref a = .non from h')
    | bl b => cases (show V.ref a = .bl b from h')
    | int b => cases (show V.ref a = .int b from h')
    | str b => cases (show V.ref a = .str (tx b) from h')
    | lst ts => obtain ⟨a', vs', e', ha', _⟩ := h'; cases e'; rw [ha] at ha'; cases ha'
    | dic ks ts =>
      obtain ⟨a', vs', e', ha', hk', hs'⟩ := h'
      cases e'
      rw [ha] at ha'; cases ha'
      rw [Reps.one us _ ts hs hs', nKs_inj (hk.symm.trans hk')]
    | tup ts => obtain ⟨a', vs', e', ha', _⟩ := h'; cases e'; rw [ha] at ha'; cases ha'
  | .tup us, x, t', ⟨a, vs, e, ha, hs⟩, h' => by
    subst e
    cases t' with
    | non => cases (show V.ref a = .non from h')
    | bl b => cases (show V.ref a = .bl b from h')
    | int b => cases (show V.ref a = .int b from h')
    | str b => cases (show V.ref a = .str (tx b) from h')
    | lst ts => obtain ⟨a', vs', e', ha', _⟩ := h'; cases e'; rw [ha] at ha'; cases ha'
    | dic ks ts => obtain ⟨a', vs', e', ha', _⟩ := h'; cases e'; rw [ha] at ha'; cases ha'
    | tup ts =>
      obtain ⟨a', vs', e', ha', hs'⟩ := h'
      cases e'
      rw [ha] at ha'; cases ha'
      rw [Reps.one us vs ts hs hs']
theorem Reps.one {H : Hp} : ∀ (us : List T) (xs : List V) (ts : List T), Reps H xs us → Reps H xs ts → us = ts
  | [], xs, ts, h, h' => by
    cases (show xs = [] from h)
    cases ts with
    | nil => rfl
    | cons t ts => obtain ⟨x, r, e, _⟩ := h'; cases e
  | u :: us, xs, ts, ⟨x, r, e, h1, h2⟩, h' => by
    subst e
    cases ts with
    | nil => cases (show x :: r = [] from h')
    | cons t ts =>
      obtain ⟨x', r', e', h1', h2'⟩ := h'
      cases e'
      rw [Rep.one u x t h1 h1', Reps.one us r ts h2 h2']
end
/-- what stands in a record does not hold the record -/
theorem Reps.dic_away {H : Hp} {d : Addr} {o : HO} {ps : List (Key × V)} {ks : List (List Nat)} {ts : List T} (hd : H d = some (.dK ps)) (hk : ps.map (·.1) = ks.map nK) (h : Reps H (ps.map (·.2)) ts) : Reps (upd H d o) (ps.map (·.2)) ts := by
  refine Reps.away _ ts h fun z => ?_
  obtain ⟨t', q, l⟩ := Occs.sub _ ts h z
  have e := Rep.one (.dic ks ts) (.ref d) t' ⟨d, ps, rfl, hd, hk, h⟩ q
  rw [← e] at l
  exact absurd l (Nat.not_le_of_lt (Nat.lt_succ_self _))
theorem valV_ix : ∀ {vs : List (Key × V)} {i : Nat} {k : Key} {y : V}, (vs.map (·.1)).Nodup → vs[i]? = some (k, y) → valV vs k = some y
  | [], i, k, y, _, h => by simp at h
  | p :: vs, 0, k, y, _, h => by
    simp only [List.getElem?_cons_zero, Option.some.injEq] at h
    subst h
    exact valV_pos rfl
  | p :: vs, i + 1, k, y, nd, h => by
    rw [List.map_cons, List.nodup_cons] at nd
    have h' : vs[i]? = some (k, y) := by simpa using h
    have ne : ¬ p.1 = k := fun e => nd.1 (List.mem_map.mpr ⟨(k, y), List.mem_of_getElem? h', e.symm⟩)
    rw [valV_neg ne]
    exact valV_ix nd.2 h'
theorem mergeK_nodup : ∀ (more kvs : List (Key × V)), ((kvs ++ more).map (·.1)).Nodup → mergeK kvs more = kvs ++ more
  | [], kvs, _ => by show kvs = _; rw [List.append_nil]
  | p :: r, kvs, h => by
    show mergeK (putK kvs p.1 p.2) r = _
    have hn : valV kvs p.1 = none := by
      cases e : valV kvs p.1 with
      | none => rfl
      | some v =>
        have hm := valV_in e
        rw [List.map_append, List.nodup_append] at h
        exact absurd rfl (h.2.2 p.1 hm p.1 (by simp))
    rw [putK_new _ hn, mergeK_nodup r (kvs ++ [(p.1, p.2)]) (by rw [List.append_assoc]; exact h), List.append_assoc]
    rfl
mutual
theorem Nice.pure {d : Nat} : ∀ (t : T), Nice d t → T.pure t
  | .non, _ => True.intro
  | .bl _, _ => True.intro
  | .int _, _ => True.intro
  | .str _, _ => True.intro
  | .lst ts, h => NiceL.pure (d := d - 1) ts h.2.2
  | .dic ks ts, h => ⟨h.2.2.2.1, NiceL.pure (d := d - 1) ts h.2.2.2.2.2⟩
  | .tup _, h => h.elim
theorem NiceL.pure {d : Nat} : ∀ (ts : List T), NiceL d ts → T.pures ts
  | [], _ => True.intro
  | t :: ts, h => ⟨Nice.pure t h.1, NiceL.pure ts h.2⟩
end
mutual
theorem Nice.dep : ∀ (t : T) {d : Nat}, Nice d t → T.dep t ≤ d
  | .non, _, _ => Nat.zero_le _
  | .bl _, _, _ => Nat.zero_le _
  | .int _, _, _ => Nat.zero_le _
  | .str _, _, _ => Nat.zero_le _
  | .lst ts, d, h => by
    have := NiceL.dep ts h.2.2
    have := h.1
    show T.deps ts + 1 ≤ d
    omega
  | .dic ks ts, d, h => by
    have := NiceL.dep ts h.2.2.2.2.2
    have := h.1
    show T.deps ts + 1 ≤ d
    omega
  | .tup _, _, h => h.elim
theorem NiceL.dep : ∀ (ts : List T) {d : Nat}, NiceL d ts → T.deps ts ≤ d
  | [], _, _ => Nat.zero_le _
  | t :: ts, _, h => Nat.max_le.mpr ⟨Nice.dep t h.1, NiceL.dep ts h.2⟩
end
theorem one_pow5 (d : Nat) : 1 ≤ 5 ^ d := Nat.one_le_pow _ _ (by decide)
mutual
theorem Nice.sz : ∀ (t : T) {d : Nat}, Nice d t → T.sz t ≤ 5 ^ d
  | .non, d, _ => one_pow5 d
  | .bl _, d, _ => one_pow5 d
  | .int _, d, _ => one_pow5 d
  | .str _, d, _ => one_pow5 d
  | .lst ts, d, h => by
    obtain ⟨h1, h2, h3⟩ := h
    obtain ⟨e, rfl⟩ : ∃ e, d = e + 1 := ⟨d - 1, by omega⟩
    have := NiceL.sz ts h3
    have p := one_pow5 e
    show T.szs ts + 1 ≤ 5 ^ (e + 1)
    rw [Nat.add_sub_cancel] at this
    have q : ts.length * 5 ^ e ≤ 4 * 5 ^ e := Nat.mul_le_mul_right _ h2
    rw [Nat.pow_succ]; omega
  | .dic ks ts, d, h => by
    obtain ⟨h1, h2, _, _, _, h3⟩ := h
    obtain ⟨e, rfl⟩ : ∃ e, d = e + 1 := ⟨d - 1, by omega⟩
    have := NiceL.sz ts h3
    have p := one_pow5 e
    show T.szs ts + 1 ≤ 5 ^ (e + 1)
    rw [Nat.add_sub_cancel] at this
    have q : ts.length * 5 ^ e ≤ 4 * 5 ^ e := Nat.mul_le_mul_right _ h2
    rw [Nat.pow_succ]; omega
  | .tup _, _, h => h.elim
theorem NiceL.sz : ∀ (ts : List T) {d : Nat}, NiceL d ts → T.szs ts ≤ ts.length * 5 ^ d
  | [], _, _ => Nat.zero_le _
  | t :: ts, d, h => by
    have a := Nice.sz t h.1
    have b := NiceL.sz ts h.2
    show T.sz t + T.szs ts ≤ (ts.length + 1) * 5 ^ d
    rw [Nat.succ_mul]; omega
end
theorem tyS_tup {H : Hp} {a : Addr} {xs : List V} (h : H a = some (.tup xs)) : tyS H (.ref a) = some "tuple" := by
  show (match H a with | some (.lst _) => some "list" | some (.tup _) => some "tuple" | some (.dK _) => some "dict" | _ => none) = _; rw [h]
theorem tyS_lst {H : Hp} {a : Addr} {xs : List V} (h : H a = some (.lst xs)) : tyS H (.ref a) = some "list" := by
  show (match H a with | some (.lst _) => some "list" | some (.tup _) => some "tuple" | some (.dK _) => some "dict" | _ => none) = _; rw [h]
theorem tyS_dK {H : Hp} {a : Addr} {xs : List (Key × V)} (h : H a = some (.dK xs)) : tyS H (.ref a) = some "dict" := by
  show (match H a with | some (.lst _) => some "list" | some (.tup _) => some "tuple" | some (.dK _) => some "dict" | _ => none) = _; rw [h]
theorem tyS_same {H H' : Hp} (g : Same H H') {v : V} {t : String} (h : tyS H v = some t) : tyS H' v = some t := by
  cases v with
  | ref a =>
    have h' : (match H a with | some (.lst _) => some "list" | some (.tup _) => some "tuple" | some (.dK _) => some "dict" | _ => none) = some t := h
    cases e : H a with
    | none => rw [e] at h'; cases h'
    | some o =>
      rw [e] at h'
      cases o with
      | lst xs => cases h'; exact tyS_lst (g _ _ e)
      | tup xs => cases h'; exact tyS_tup (g _ _ e)
      | dK kvs => cases h'; exact tyS_dK (g _ _ e)
      | _ => cases h'
  | _ => exact h
theorem Same.put {H H' : Hp} {p : Addr} (g : Same H H') (h : H p = none) (o : HO) : Same H (upd H' p o) := fun b u e => by
  rw [upd_ne (ne_of_none e h)]; exact g b u e
theorem T.pures_mem {t : T} : ∀ {ts : List T}, T.pures ts → t ∈ ts → T.pure t
  | [], _, h => nomatch h
  | u :: ts, h, hm => (List.mem_cons.mp hm).elim (fun e => e ▸ h.1) (T.pures_mem h.2)
theorem take_succ_of {α : Type} {l : List α} {i : Nat} {a : α} (h : l[i]? = some a) : l.take (i + 1) = l.take i ++ [a] := by rw [List.take_add_one, h]; rfl
theorem mx_deps : ∀ (us : List T) (b : Nat), (us.map fun t => (T.dep t : Int)).foldl mxI (b : Int) = ((max b (T.deps us) : Nat) : Int)
  | [], b => by show (b : Int) = ((max b 0 : Nat) : Int); rw [Nat.max_zero]
  | u :: us, b => by
    rw [List.map_cons, List.foldl_cons]
    have e : mxI (b : Int) (T.dep u : Int) = ((max b (T.dep u) : Nat) : Int) := by
      unfold mxI
      by_cases h : T.dep u > b
      · rw [if_pos (by omega), Nat.max_eq_right (by omega)]
      · rw [if_neg (by omega), Nat.max_eq_left (by omega)]
    rw [e, mx_deps us, Nat.max_assoc]
    rfl
theorem mx_all (us : List T) : mxD 0 (us.map fun t => (T.dep t : Int)) = (T.deps us : Int) := by
  cases us with
  | nil => rfl
  | cons u us => exact mx_deps us (T.dep u)
theorem sum_szs : ∀ (us : List T), (us.map fun t => (T.sz t : Int)).sum = (T.szs us : Int)
  | [] => rfl
  | u :: us => by
    rw [List.map_cons, List.sum_cons, sum_szs us]
    show (T.sz u : Int) + (T.szs us : Int) = ((T.sz u + T.szs us : Nat) : Int)
    omega
theorem T.sz_pos : ∀ t : T, 1 ≤ T.sz t
  | .non => Nat.le_refl _
  | .bl _ => Nat.le_refl _
  | .int _ => Nat.le_refl _
  | .str _ => Nat.le_refl _
  | .lst _ => Nat.le_add_left _ _
  | .dic _ _ => Nat.le_add_left _ _
  | .tup _ => Nat.le_add_left _ _
theorem T.szs_len : ∀ ts : List T, ts.length ≤ T.szs ts
  | [] => Nat.le_refl _
  | t :: ts => by
    have a := T.sz_pos t
    have b := T.szs_len ts
    show ts.length + 1 ≤ T.sz t + T.szs ts
    omega
theorem T.szs_le {t : T} : ∀ {ts : List T}, t ∈ ts → T.sz t ≤ T.szs ts
  | [], h => nomatch h
  | u :: ts, h => by
    show T.sz t ≤ T.sz u + T.szs ts
    rcases List.mem_cons.mp h with e | e
    · subst e; exact Nat.le_add_right _ _
    · exact Nat.le_trans (T.szs_le e) (Nat.le_add_left _ _)
theorem hold_cases : ∀ (t : T), T.pure t → ((isSub (tyT t) "list" || isSub (tyT t) "dict") = false ∧ T.dep t = 0 ∧ T.sz t = 1) ∨
    ∃ us, (t = .lst us ∨ ∃ ks, t = .dic ks us) ∧ T.pures us ∧ T.dep t = T.deps us + 1 ∧ T.sz t = T.szs us + 1 ∧ (isSub (tyT t) "list" || isSub (tyT t) "dict") = true
  | .non, _ => .inl ⟨rfl, rfl, rfl⟩
  | .bl _, _ => .inl ⟨rfl, rfl, rfl⟩
  | .int _, _ => .inl ⟨rfl, rfl, rfl⟩
  | .str _, _ => .inl ⟨rfl, rfl, rfl⟩
  | .lst us, h => .inr ⟨us, .inl rfl, h, rfl, rfl, rfl⟩
  | .dic ks us, h => .inr ⟨us, .inr ⟨ks, rfl⟩, h.2, rfl, rfl, rfl⟩
  | .tup _, h => h.elim
mutual
theorem Rep.plain {H H' : Hp} (g : ∀ a u, (∀ o v, u ≠ HO.frz o v) → H a = some u → H' a = some u) : ∀ (x : V) (t : T), Rep H x t → Rep H' x t
  | _, .non, h => h
  | _, .bl _, h => h
  | _, .int _, h => h
  | _, .str _, h => h
  | _, .lst ts, ⟨a, vs, h1, h2, h3⟩ => ⟨a, vs, h1, g _ _ (by intro o v z; cases z) h2, Reps.plain g vs ts h3⟩
  | _, .dic ks ts, ⟨a, ps, h1, h2, h3, h4⟩ => ⟨a, ps, h1, g _ _ (by intro o v z; cases z) h2, h3, Reps.plain g _ ts h4⟩
  | _, .tup ts, ⟨a, vs, h1, h2, h3⟩ => ⟨a, vs, h1, g _ _ (by intro o v z; cases z) h2, Reps.plain g vs ts h3⟩
theorem Reps.plain {H H' : Hp} (g : ∀ a u, (∀ o v, u ≠ HO.frz o v) → H a = some u → H' a = some u) : ∀ (vs : List V) (ts : List T), Reps H vs ts → Reps H' vs ts
  | _, [], h => h
  | _, t :: ts, ⟨v, r, h1, h2, h3⟩ => ⟨v, r, h1, Rep.plain g v t h2, Reps.plain g r ts h3⟩
end
theorem Reps.thaw {H H' : Hp} {vs : List V} {ts : List T} (h : Reps H' vs ts) : Reps (L2.thaw H H') vs ts := Reps.plain (fun _ _ n e => thaw_of e n) vs ts h
theorem Rep.thaw {H H' : Hp} {v : V} {t : T} (h : Rep H' v t) : Rep (L2.thaw H H') v t := Rep.plain (fun _ _ n e => thaw_of e n) v t h
/-- a dict frozen for a walk, then freed -/
theorem thaw_walk {H H' : Hp} {d : Addr} {o : Obj} {ps : List (Key × V)} (hd : H d = some (.dK ps)) (g : Same (upd H d (.frz o (.dK ps))) H') : Same H (L2.thaw H H') := thaw_same fun b u e => by
  by_cases hb : b = d
  · subst hb
    rw [hd] at e; cases e
    exact .inr ⟨⟨o, g _ _ upd_same⟩, by intro o v z; cases z⟩
  · exact .inl (g _ _ (by rw [upd_ne hb]; exact e))
/-! ### level by level -/
def T.kids : T → List T
  | .lst us => us
  | .dic _ us => us
  | _ => []
def T.next (ts : List T) : List T := (ts.map T.kids).flatten
theorem T.next_append (a b : List T) : T.next (a ++ b) = T.next a ++ T.next b := by simp [T.next]
theorem T.next_one (t : T) : T.next [t] = T.kids t := by simp [T.next]
theorem T.szs_append : ∀ (a b : List T), T.szs (a ++ b) = T.szs a + T.szs b
  | [], b => by show T.szs b = 0 + T.szs b; omega
  | t :: a, b => by
    show T.sz t + T.szs (a ++ b) = T.sz t + T.szs a + T.szs b
    rw [T.szs_append a b]; omega
theorem T.sz_kids : ∀ (t : T), T.pure t → T.sz t = 1 + T.szs (T.kids t)
  | .non, _ => rfl
  | .bl _, _ => rfl
  | .int _, _ => rfl
  | .str _, _ => rfl
  | .lst us, _ => Nat.add_comm _ _
  | .dic _ us, _ => Nat.add_comm _ _
  | .tup _, h => h.elim
theorem T.szs_next : ∀ (ts : List T), T.pures ts → T.szs ts = ts.length + T.szs (T.next ts)
  | [], _ => rfl
  | t :: ts, h => by
    have e : T.next (t :: ts) = T.kids t ++ T.next ts := by simp [T.next]
    rw [e, T.szs_append, List.length_cons]
    show T.sz t + T.szs ts = _
    rw [T.sz_kids t h.1, T.szs_next ts h.2]; omega
theorem T.pures_append : ∀ {a b : List T}, T.pures a → T.pures b → T.pures (a ++ b)
  | [], _, _, h => h
  | _ :: _, _, h1, h2 => ⟨h1.1, T.pures_append h1.2 h2⟩
theorem T.pure_kids : ∀ (t : T), T.pure t → T.pures (T.kids t)
  | .non, _ => True.intro
  | .bl _, _ => True.intro
  | .int _, _ => True.intro
  | .str _, _ => True.intro
  | .lst us, h => h
  | .dic _ us, h => h.2
  | .tup _, h => h.elim
theorem T.pures_next : ∀ (ts : List T), T.pures ts → T.pures (T.next ts)
  | [], _ => True.intro
  | t :: ts, h => by
    have e : T.next (t :: ts) = T.kids t ++ T.next ts := by simp [T.next]
    rw [e]
    exact T.pures_append (T.pure_kids t h.1) (T.pures_next ts h.2)
theorem T.szs_take : ∀ (ts : List T) (i : Nat), T.szs (ts.take i) ≤ T.szs ts
  | [], i => by rw [List.take_nil]; exact Nat.le_refl _
  | t :: ts, 0 => Nat.zero_le _
  | t :: ts, i + 1 => by
    have := T.szs_take ts i
    show T.sz t + T.szs (ts.take i) ≤ T.sz t + T.szs ts
    omega
theorem T.pures_take : ∀ (ts : List T) (i : Nat), T.pures ts → T.pures (ts.take i)
  | [], i, _ => by rw [List.take_nil]; exact True.intro
  | t :: ts, 0, _ => True.intro
  | t :: ts, i + 1, h => ⟨h.1, T.pures_take ts i h.2⟩
theorem Reps.append {H : Hp} {ys : List V} {vs : List T} (h' : Reps H ys vs) : ∀ {xs : List V} {us : List T}, Reps H xs us → Reps H (xs ++ ys) (us ++ vs)
  | xs, [], h => by
    cases (show xs = [] from h)
    exact h'
  | _, u :: us, ⟨x, r, e, h1, h2⟩ => by
    subst e
    exact ⟨x, r ++ ys, rfl, h1, Reps.append h' h2⟩
/-- the next level's length -/
theorem T.next_len {ts : List T} (i : Nat) (h : T.pures ts) : (T.next (ts.take i)).length ≤ T.szs ts := by
  have a := T.szs_len (T.next (ts.take i))
  have b := T.szs_next _ (T.pures_take ts i h)
  have c := T.szs_take ts i
  omega
theorem T.deps_append : ∀ (a b : List T), T.deps (a ++ b) = max (T.deps a) (T.deps b)
  | [], b => by show T.deps b = max 0 (T.deps b); omega
  | t :: a, b => by
    show max (T.dep t) (T.deps (a ++ b)) = max (max (T.dep t) (T.deps a)) (T.deps b)
    rw [T.deps_append a b]; omega
def T.holds (t : T) : Bool := isSub (tyT t) "list" || isSub (tyT t) "dict"
theorem T.dep_kids : ∀ (t : T), T.pure t → T.dep t = if T.holds t then T.deps (T.kids t) + 1 else 0
  | .non, _ => rfl
  | .bl _, _ => rfl
  | .int _, _ => rfl
  | .str _, _ => rfl
  | .lst us, _ => rfl
  | .dic _ us, _ => rfl
  | .tup _, h => h.elim
theorem T.kids_nil : ∀ (t : T), T.holds t = false → T.kids t = []
  | .non, _ => rfl
  | .bl _, _ => rfl
  | .int _, _ => rfl
  | .str _, _ => rfl
  | .lst us, h => by
    have z : T.holds (.lst us) = true := rfl
    rw [h] at z; cases z
  | .dic ks us, h => by
    have z : T.holds (.dic ks us) = true := rfl
    rw [h] at z; cases z
  | .tup _, _ => rfl
/-- one level less -/
theorem T.deps_next : ∀ (ts : List T), T.pures ts → T.deps ts = if ts.any T.holds then T.deps (T.next ts) + 1 else 0
  | [], _ => rfl
  | t :: ts, h => by
    have e : T.next (t :: ts) = T.kids t ++ T.next ts := by simp [T.next]
    have ih := T.deps_next ts h.2
    have dk := T.dep_kids t h.1
    show max (T.dep t) (T.deps ts) = _
    rw [e, T.deps_append, List.any_cons]
    by_cases c1 : T.holds t = true
    · rw [c1] at dk ⊢
      rw [if_pos rfl] at dk
      rw [Bool.true_or, if_pos rfl, dk, ih]
      by_cases c2 : ts.any T.holds = true
      · rw [if_pos c2]; omega
      · rw [if_neg c2]
        have : T.next ts = [] := by
          unfold T.next
          have z : ∀ t ∈ ts, T.kids t = [] := fun t ht => T.kids_nil t (by
            cases hh : T.holds t with
            | false => rfl
            | true => exact absurd (List.any_eq_true.mpr ⟨t, ht, hh⟩) c2)
          rw [List.flatten_eq_nil_iff]
          intro l hl
          obtain ⟨t, ht, rfl⟩ := List.mem_map.mp hl
          exact z t ht
        rw [this]
        show max (T.deps (T.kids t) + 1) 0 = max (T.deps (T.kids t)) 0 + 1
        omega
    · have c1' : T.holds t = false := by simpa using c1
      rw [c1'] at dk ⊢
      rw [if_neg Bool.false_ne_true] at dk
      rw [Bool.false_or, dk, ih, T.kids_nil t c1']
      show max 0 _ = _
      by_cases c2 : ts.any T.holds = true
      · rw [if_pos c2, if_pos c2]
        show max 0 (T.deps (T.next ts) + 1) = max 0 (T.deps (T.next ts)) + 1
        omega
      · rw [if_neg c2, if_neg c2]; rfl
/-! ### a word between two statements -/
def tMid (t : TS) : TS := fun D σ H => ∃ M : St → Hp → Prop, t { D with nx := M } σ H ∧ ∀ σ' H', M σ' H' → D.nx σ' H'
theorem ps_mid {X : Cx} {st : Stmt} {t : TS} (h : PS X st t) : PS X st (tMid t) := by
  intro pins s σ H D I ⟨M, q, m⟩
  refine thn (h pins s σ H _ I q) fun f s1 z => ?_
  cases f with
  | next => obtain ⟨σ', H', J, q⟩ := z; exact ⟨σ', H', J, m _ _ q⟩
  | brk => exact z
  | cont => exact z
  | ret u => exact z
end L2

namespace L2
open PySem PySem.Spec PyProof.Rows
/-! ### sorted(d), its keys texts -/
section
variable {X : Cx}
theorem strs_of {P : Program} {w : World} : ∀ {vs : List (Key × Value)} {ks : List Str} {us : List Value}, vs.map (·.1) = ks.map Sum.inr → us.length = vs.length → (∀ (j : Nat) (v : Value), us[j]? = some v → ∃ k x, vs[j]? = some (k, x) ∧ (mixKind P w).is k v = true) → StrsAre us ks
  | [], [], [], _, _, _ => .nil
  | p :: vs, k :: ks, u :: us, e, hl, h => by
    rw [List.map_cons, List.map_cons] at e
    injection e with e1 e2
    obtain ⟨k', x, e3, hk⟩ := h 0 u rfl
    simp only [List.getElem?_cons_zero, Option.some.injEq] at e3
    rw [e3] at e1
    have e4 : k' = Sum.inr k := e1
    rw [e4] at hk
    obtain ⟨t, et⟩ := (show ∃ t, u = Value.str k t from rel_key hk)
    subst et
    exact .cons k t (strs_of e2 (by simpa using hl) fun j v hv => by simpa using h (j + 1) v (by simpa using hv))
  | [], _ :: _, _, e, _, _ => by simp at e
  | _ :: _, [], _, e, _, _ => by simp at e
  | [], [], _ :: _, _, hl, _ => by simp at hl
  | _ :: _, _ :: _, [], _, hl, _ => by simp at hl
theorem strVals : ∀ {us : List Value} {ss : List Str}, StrsAre us ss → Vals (ss.map V.str) us
  | _, _, .nil => .nil
  | _, _, .cons x t r => .cons ⟨t, rfl⟩ (strVals r)
theorem call_sorted_d (hc : X.calm = true) : CallR X (.builtin "sorted") (fun xs H Q => ∃ (p : Addr) (kvs : List (Key × V)) (ks : List Str), xs = [.ref p] ∧ Rd H p (.dK kvs) ∧ kvs.map (·.1) = ks.map Sum.inr ∧ ks.length < 64 ∧
    ∀ l ss, H l = none → ss.Perm ks → sortedS ss = true → Q (.ref l) (upd H l (.lst (ss.map V.str)))) := by
  intro pins s σ H xs us Q I r h
  obtain ⟨p, kvs, ks, rfl, hq, hk, h64, q⟩ := h
  obtain ⟨u, rfl, rx⟩ := vals1 r
  cases rx
  obtain ⟨z, hd, vs, rel, dd⟩ := dk_rd I.hok hq
  obtain ⟨ep, hat⟩ := dd.dictAt
  have hl := rel.length
  refine PySem.Calls.call_function_entry kind_sorted plain_sorted entry_sorted (args_sorted1 _) ?_
  unfold Builtin.«sorted»
  refine wpAny_bind (m := checkCount "sorted" 1 1 _) (wpAny_pure ?_)
  refine wpAny_bind (PySem.W.kdu_collect (A := X.A.in1) (PySem.W.kdl_dict (knd := mixKind X.prog X.w) (kvs := vs) (ep := ep) hd) (show X.A.in1.handled = none from I.ok.hd hc) hat (by omega) fun h' tk acc hkp hacc => ?_)
  have hlen : acc.toList.length = vs.length := by rw [Array.length_toList]; exact hacc.1
  have hS : StrsAre acc.toList ks := strs_of (P := X.prog) (w := X.w) (by rw [← rel.keys]; exact hk) hlen fun j v e => hacc.2 j v (by rw [← Array.getElem?_toList]; exact e)
  have hkl : ks.length = vs.length := by
    have := congrArg List.length hk
    simp only [List.length_map] at this
    omega
  refine wpAny_bind (wpAny_newList ?_ (by rw [hlen]; omega))
  have hoL : (h'.push (seqObj "list" acc.toList.toArray 0)).get? h'.objs.size = some (seqObj "list" acc.toList.toArray 0) := Heap.get?_push_size _ rfl
  refine wpAny_bind (wpAny_holding (wpAny_call_entry slot_list_sort ⟨_, hoL, rfl⟩ entry_list_sort (list_sort_treeK strKind_oneLt hoL hS.keysOf (fun v₁ v₂ rest e => keyKind_strs (by rw [← e]; exact hS)) (by omega) fun st' a1 a2 => ⟨_, rfl, ?_⟩) (args_list_sort _)))
  refine wpAny_pure ⟨_, rfl, ?_⟩
  obtain ⟨ss', h1, h2, h3⟩ := sorted_out_str hS a1 a2
  have I' : Inv X pins σ H { s with heap := h', toks := tk } := I.kept (t' := tk) hkp
  have hL : h'.objs.size < (h'.push (seqObj "list" acc.toList.toArray 0)).objs.size := Heap.lt_size hoL
  obtain ⟨e, he⟩ := sortedHeap_at (out := (arrOf st').map (·.2)) hoL
  have rS : Vals (ss'.map V.str) ((arrOf st').map (·.2)).toList := strVals h1
  have hp := h2.length_eq
  refine ⟨.ref h'.objs.size, _, I'.laid (a := h'.objs.size) (t' := tk) (h' := sortedHeap (h'.push (seqObj "list" acc.toList.toArray 0)) h'.objs.size acc.toList ((arrOf st').map (·.2))) (fun b u eb => ?_) (Nat.le_refl _) (o := .lst (ss'.map V.str)) ?_, rfl, q _ ss' (I'.hok.fresh (Nat.le_refl _)) h2 h3⟩
  · have lt : b < h'.objs.size := Heap.lt_size eb
    exact (sortedHeap_old (Nat.ne_of_lt lt) (Nat.lt_trans lt hL)).trans (Heap.get?_push_of_some _ eb)
  · exact ⟨by rw [List.length_map]; omega, _, e, rS, by rw [Array.toArray_toList]; exact he⟩
end
end L2

namespace L2
open PySem PySem.Spec PyProof.Rows
/-! ### xs.index(a text), < and > of two plain values -/
section
variable {X : Cx}
def rIndex (K : PySem.W.Frag) : V → List V → Hp → VK → Prop := fun x vs H Q => ∃ (p : Addr) (ss : List Str) (k : Str) (j : Nat), x = .ref p ∧ vs = [.str k] ∧ SqL K H p (ss.map V.str) ∧ ss[j]? = some k ∧ (∀ i, i < j → ss[i]? ≠ some k) ∧ j < 1000000 ∧ Q (.int j) H
theorem strOf_ix {ss : List Str} {us : List Value} (r : Vals (ss.map V.str) us) {j : Nat} (h : j < us.length) : ∃ z t, ss[j]? = some z ∧ us[j] = Value.str z t := by
  have hl := r.length
  rw [List.length_map] at hl
  obtain ⟨u, hu, t, ht⟩ := r.get (i := j) (x := .str ss[j]) (by simp [hl, h])
  rw [List.getElem?_eq_getElem h] at hu
  exact ⟨ss[j], t, by simp [hl, h], (Option.some.inj hu).trans ht⟩
def isStrK (k : Str) : Value → Bool
  | .str z _ => z == k
  | _ => false
theorem mt_index : MtR X "list.index" (rIndex X.K) := by
  intro pins s σ H x vs v us Q I rx rv h
  obtain ⟨p, ss, k, j, rfl, rfl, hq, hj, hno, hsm, q⟩ := h
  cases rx
  obtain ⟨u, rfl, t, rfl⟩ := rv.one
  obtain ⟨its, r, pl, _⟩ := I.list hq
  have hl := r.length
  rw [List.length_map] at hl
  have hjl : j < ss.length := (List.getElem?_eq_some_iff.mp hj).1
  obtain ⟨⟨cls, dd, data, sl⟩, ho, hc, n, hd⟩ := id pl.isList
  simp only at hc hd
  subst hc hd
  refine call_meets PySem.F.slot_list_index ⟨_, ho, rfl⟩ PySem.F.entry_list_index (PySem.F.args_list_index_2 _ _) (SeqAt.list_indexAt p its.toArray n dd sl (.str k t) (isStrK k) j (by simp; omega) (by omega) ?_ ?_) ⟨ho, fun y hy => ?_, ⟨.int j, H, I.tok _, ⟨_, rfl⟩, q⟩⟩
  · obtain ⟨z, t', e1, e2⟩ := strOf_ix r (j := j) (by omega)
    rw [hj] at e1; cases e1
    show isStrK k its[j] = true
    rw [e2]; exact beq_self_eq_true k
  · intro m hm hlt
    obtain ⟨z, t', e1, e2⟩ := strOf_ix r (j := m) (by simpa using hm)
    show isStrK k its[m] = false
    rw [e2]
    have ne : z ≠ k := fun e => hno m hlt (by rw [e1, e])
    exact beq_eq_false_iff_ne.mpr ne
  · obtain ⟨m, hm, e⟩ := Array.mem_iff_getElem.mp hy
    obtain ⟨z, t', e1, e2⟩ := strOf_ix r (j := m) (by simpa using hm)
    have e3 : y = Value.str z t' := by rw [← e]; simpa using e2
    subst e3
    exact SeqAt.EqAt.str_str z t' k t
/-- is the first one greater, of two plain values of one kind -/
def gtV : V → V → Option Bool
  | .int a, .int b => some (decide (b < a))
  | .bl a, .bl b => some (a && !b)
  | .str a, .str b => some (decide (ts b < ts a))
  | _, _ => none
def rGtA : R2 := fun x y H Q => ∃ b, gtV x y = some b ∧ Q (.bl b) H
def rLtA : R2 := fun x y H Q => ∃ b, gtV y x = some b ∧ Q (.bl b) H
theorem op_gt_A : OpR X (compareOp .Gt) rGtA := by
  intro pins s σ H x y v u Q I rx ry h
  obtain ⟨b, hb, q⟩ := h
  cases x <;> cases y <;> first | (cases hb; done) | skip
  · rename_i a c
    cases hb
    cases (show v = Value.bool a from rx); cases (show u = Value.bool c from ry)
    refine gt_bool (fin_bl I q ?_)
    cases a <;> cases c <;> rfl
  · rename_i a c
    cases hb
    obtain ⟨t, rfl⟩ := rx
    obtain ⟨t', rfl⟩ := ry
    exact PyProof.Rows.gt_int (fin_bl I q rfl)
  · rename_i a c
    cases hb
    obtain ⟨t, rfl⟩ := rx
    obtain ⟨t', rfl⟩ := ry
    exact PySem.P.gt_str (fin_bl I q rfl)
theorem op_lt_A : OpR X (compareOp .Lt) rLtA := by
  intro pins s σ H x y v u Q I rx ry h
  obtain ⟨b, hb, q⟩ := h
  cases x <;> cases y <;> first | (cases hb; done) | skip
  · rename_i a c
    cases hb
    cases (show v = Value.bool a from rx); cases (show u = Value.bool c from ry)
    refine lt_bool (fin_bl I q ?_)
    cases a <;> cases c <;> rfl
  · rename_i a c
    cases hb
    obtain ⟨t, rfl⟩ := rx
    obtain ⟨t', rfl⟩ := ry
    exact PyProof.Rows.lt_int (fin_bl I q rfl)
  · rename_i a c
    cases hb
    obtain ⟨t, rfl⟩ := rx
    obtain ⟨t', rfl⟩ := ry
    exact PyProof.Rows.lt_str (fin_bl I q rfl)
end
end L2

namespace L2
open PySem PySem.Spec PyProof.Rows
/-! ### the order of names -/
def leK (a b : List Nat) : Bool := !decide (b < a)
theorem leK_trans (a b c : List Nat) (h1 : leK a b = true) (h2 : leK b c = true) : leK a c = true := by
  have x1 : a ≤ b := by simpa [leK] using h1
  have x2 : b ≤ c := by simpa [leK] using h2
  have := List.le_trans x1 x2
  simpa [leK] using this
theorem leK_total (a b : List Nat) : (leK a b || leK b a) = true := by
  rcases List.le_total a b with h | h
  · have : leK a b = true := by simpa [leK] using h
    rw [this]; rfl
  · have : leK b a = true := by simpa [leK] using h
    rw [this, Bool.or_true]
theorem leK_anti {a b : List Nat} (h1 : leK a b = true) (h2 : leK b a = true) : a = b := by
  have x1 : a ≤ b := by simpa [leK] using h1
  have x2 : b ≤ a := by simpa [leK] using h2
  exact List.le_antisymm x1 x2
theorem leK_refl (a : List Nat) : leK a a = true := by
  have := leK_total a a
  simpa using this
def sortK (ks : List (List Nat)) : List (List Nat) := ks.mergeSort leK
theorem sortK_perm (ks : List (List Nat)) : (sortK ks).Perm ks := List.mergeSort_perm ks leK
theorem sortK_sorted (ks : List (List Nat)) : (sortK ks).Pairwise (fun a b => leK a b = true) := List.pairwise_mergeSort leK_trans leK_total ks
theorem sorted_one : ∀ {a b : List (List Nat)}, a.Perm b → a.Pairwise (fun a b => leK a b = true) → b.Pairwise (fun a b => leK a b = true) → a = b
  | [], b, p, _, _ => (List.nil_perm.mp p).symm
  | x :: a, [], p, _, _ => absurd p.length_eq (by simp)
  | x :: a, y :: b, p, h1, h2 => by
    rw [List.pairwise_cons] at h1 h2
    have hx : x ∈ y :: b := p.mem_iff.mp List.mem_cons_self
    have hy : y ∈ x :: a := p.mem_iff.mpr List.mem_cons_self
    have e : x = y := by
      rcases List.mem_cons.mp hx with z | z
      · exact z
      · rcases List.mem_cons.mp hy with z' | z'
        · exact z'.symm
        · exact leK_anti (h1.1 y z') (h2.1 x z)
    subst e
    rw [sorted_one p.cons_inv h1.2 h2.2]
theorem rising_pair : ∀ (p : Str) (l : List Str), risingS p l = true → ((p :: l).map ts).Pairwise (fun a b => leK a b = true)
  | p, [], _ => List.pairwise_singleton _ _
  | p, x :: r, h => by
    have h' : (!ltCps x.cps.toList p.cps.toList && risingS x r) = true := h
    rw [Bool.and_eq_true] at h'
    have ih := rising_pair x r h'.2
    have hpx : leK (ts p) (ts x) = true := by
      have := h'.1
      rw [ltCps_eq] at this
      exact this
    rw [List.map_cons, List.pairwise_cons]
    refine ⟨fun y hy => ?_, ih⟩
    rw [List.map_cons] at hy ih
    rw [List.pairwise_cons] at ih
    rcases List.mem_cons.mp hy with z | z
    · rw [z]; exact hpx
    · exact leK_trans _ _ _ hpx (ih.1 y z)
theorem sortedS_pair {l : List Str} (h : sortedS l = true) : (l.map ts).Pairwise (fun a b => leK a b = true) := by
  cases l with
  | nil => exact List.Pairwise.nil
  | cons p r => exact rising_pair p r h
/-- what sorted tells of a record's names -/
theorem sorted_names {ss : List Str} {ks : List (List Nat)} (hp : ss.Perm (ks.map tx)) (hs : sortedS ss = true) : ss = (sortK ks).map tx := by
  have e : ss.map ts = sortK ks := by
    refine sorted_one ?_ (sortedS_pair hs) (sortK_sorted ks)
    have z := hp.map ts
    rw [List.map_map] at z
    have e2 : ks.map (ts ∘ tx) = ks := by
      conv => rhs; rw [← List.map_id ks]
      exact List.map_congr_left fun k _ => ts_tx k
    rw [e2] at z
    exact z.trans (sortK_perm ks).symm
  have e3 : (ss.map ts).map tx = ss := by
    rw [List.map_map]
    conv => rhs; rw [← List.map_id ss]
    exact List.map_congr_left fun k _ => tx_ts k
  rw [← e3, e]
/-! ### things as they are compared -/
inductive C where
  | non | bl (b : Bool) | int (i : Int) | str (x : List Nat) | row (xs : List C) | rcd (xs : List C) | odd
def C.ord : C → Nat
  | .non => 0
  | .bl _ => 1
  | .int _ => 2
  | .str _ => 3
  | .row _ => 4
  | .rcd _ => 5
  | .odd => 6
def lookC (k : List Nat) : List (List Nat) → List C → C
  | k' :: ks, c :: cs => if k' = k then c else lookC k ks cs
  | _, _ => .odd
def lookT (k : List Nat) : List (List Nat) → List T → T
  | k' :: ks, c :: cs => if k' = k then c else lookT k ks cs
  | _, _ => .tup []
mutual
def canon : T → C
  | .non => .non
  | .bl b => .bl b
  | .int i => .int i
  | .str x => .str x
  | .lst ts => .row (canons ts)
  | .dic ks ts => .rcd ((sortK ks).map fun k => .row [.str k, lookC k ks (canons ts)])
  | .tup _ => .odd
def canons : List T → List C
  | [] => []
  | t :: ts => canon t :: canons ts
end
theorem canons_map : ∀ (ts : List T), canons ts = ts.map canon
  | [] => rfl
  | t :: ts => by rw [List.map_cons, ← canons_map ts]; rfl
theorem look_canon (k : List Nat) : ∀ (ks : List (List Nat)) (ts : List T), canon (lookT k ks ts) = lookC k ks (canons ts)
  | [], _ => rfl
  | _ :: _, [] => rfl
  | k' :: ks, t :: ts => by
    show canon (if k' = k then t else lookT k ks ts) = if k' = k then canon t else lookC k ks (canons ts)
    split
    · rfl
    · exact look_canon k ks ts
def sgI (a b : Int) : Int := (if b < a then 1 else 0) - (if a < b then 1 else 0)
def cmpS (a b : List Nat) : Int := (if b < a then 1 else 0) - (if a < b then 1 else 0)
mutual
def cmpC : C → C → Int
  | .non, .non => 0
  | .bl a, .bl b => sgI (if a then 1 else 0) (if b then 1 else 0)
  | .int a, .int b => sgI a b
  | .str a, .str b => cmpS a b
  | .row a, .row b => cmpCs a b
  | .rcd a, .rcd b => cmpCs a b
  | a, b => sgI a.ord b.ord
def cmpCs : List C → List C → Int
  | [], [] => 0
  | [], _ :: _ => -1
  | _ :: _, [] => 1
  | x :: xs, y :: ys => if cmpC x y = 0 then cmpCs xs ys else cmpC x y
end
/-! ### weights: how many calls a comparing takes -/
mutual
def T.wt : T → Nat
  | .lst ts => T.wts ts + 1
  | .dic _ ts => T.wts ts + 2
  | .tup ts => T.wts ts + 1
  | .non => 0
  | .bl _ => 0
  | .int _ => 0
  | .str _ => 0
def T.wts : List T → Nat
  | [] => 0
  | t :: ts => max (T.wt t) (T.wts ts)
end
theorem T.wts_le {t : T} : ∀ {ts : List T}, t ∈ ts → T.wt t ≤ T.wts ts
  | [], h => nomatch h
  | u :: ts, h => by
    show T.wt t ≤ max (T.wt u) (T.wts ts)
    rcases List.mem_cons.mp h with e | e
    · subst e; exact Nat.le_max_left _ _
    · exact Nat.le_trans (T.wts_le e) (Nat.le_max_right _ _)
mutual
/-- names few enough to be sorted -/
def T.few : T → Prop
  | .dic ks ts => ks.Nodup ∧ ks.length < 64 ∧ ks.length = ts.length ∧ T.fews ts
  | .lst ts => ts.length ≤ 100000 ∧ T.fews ts
  | .tup _ => False
  | .non => True
  | .bl _ => True
  | .int _ => True
  | .str _ => True
def T.fews : List T → Prop
  | [] => True
  | t :: ts => T.few t ∧ T.fews ts
end
theorem T.fews_mem {t : T} : ∀ {ts : List T}, T.fews ts → t ∈ ts → T.few t
  | [], _, h => nomatch h
  | u :: ts, h, hm => (List.mem_cons.mp hm).elim (fun e => e ▸ h.1) (T.fews_mem h.2)
theorem lookT_ix {k : List Nat} : ∀ {ks : List (List Nat)} {ts : List T} {i : Nat} {t : T}, ks.Nodup → ks[i]? = some k → ts[i]? = some t → lookT k ks ts = t
  | [], _, i, _, _, h, _ => by simp at h
  | k' :: ks, [], i, _, _, _, h => by simp at h
  | k' :: ks, u :: ts, 0, t, nd, h1, h2 => by
    simp only [List.getElem?_cons_zero, Option.some.injEq] at h1 h2
    subst h1 h2
    exact if_pos rfl
  | k' :: ks, u :: ts, i + 1, t, nd, h1, h2 => by
    rw [List.nodup_cons] at nd
    have h1' : ks[i]? = some k := by simpa using h1
    have ne : ¬ k' = k := fun e => nd.1 (e ▸ List.mem_of_getElem? h1')
    show (if k' = k then u else lookT k ks ts) = t
    rw [if_neg ne]
    exact lookT_ix nd.2 h1' (by simpa using h2)
theorem lookT_mem {k : List Nat} : ∀ {ks : List (List Nat)} {ts : List T}, k ∈ ks → ks.length = ts.length → lookT k ks ts ∈ ts
  | [], _, h, _ => nomatch h
  | k' :: ks, [], _, h => by simp at h
  | k' :: ks, u :: ts, h, hl => by
    show (if k' = k then u else lookT k ks ts) ∈ u :: ts
    split
    · exact List.mem_cons_self
    · rename_i ne
      rcases List.mem_cons.mp h with e | e
      · exact absurd e.symm ne
      · exact List.mem_cons_of_mem _ (lookT_mem e (by simpa using hl))
theorem cmpC_ord : ∀ (a b : C), a.ord ≠ b.ord → cmpC a b = sgI a.ord b.ord := by
  intro a b h
  cases a <;> cases b <;> first | exact absurd rfl h | (unfold cmpC; rfl)
theorem cmpCs_cons (x y : C) (xs ys : List C) : cmpCs (x :: xs) (y :: ys) = if cmpC x y = 0 then cmpCs xs ys else cmpC x y := by
  rw [cmpCs]
theorem cmpCs_drop {xs ys : List C} {i : Nat} {x y : C} (hx : xs[i]? = some x) (hy : ys[i]? = some y) : cmpCs (xs.drop i) (ys.drop i) = if cmpC x y = 0 then cmpCs (xs.drop (i + 1)) (ys.drop (i + 1)) else cmpC x y := by
  obtain ⟨h1, e1⟩ := List.getElem?_eq_some_iff.mp hx
  obtain ⟨h2, e2⟩ := List.getElem?_eq_some_iff.mp hy
  rw [List.drop_eq_getElem_cons h1, List.drop_eq_getElem_cons h2, e1, e2, cmpCs_cons]
theorem cmpCs_end {xs ys : List C} {m : Nat} (h : m = min xs.length ys.length) : cmpCs (xs.drop m) (ys.drop m) = sgI xs.length ys.length := by
  unfold sgI
  rcases Nat.lt_trichotomy xs.length ys.length with g | g | g
  · have e : m = xs.length := by omega
    rw [List.drop_of_length_le (Nat.le_of_eq e.symm), List.drop_eq_getElem_cons (show m < ys.length by omega), cmpCs, if_neg (by omega), if_pos (by omega)]
    rfl
  · have e : m = xs.length := by omega
    rw [List.drop_of_length_le (Nat.le_of_eq e.symm), List.drop_of_length_le (show ys.length ≤ m by omega), cmpCs, if_neg (by omega), if_neg (by omega)]
    rfl
  · have e : m = ys.length := by omega
    rw [List.drop_of_length_le (show ys.length ≤ m by omega), List.drop_eq_getElem_cons (show m < xs.length by omega), cmpCs, if_pos (by omega), if_neg (by omega)]
    rfl
/-- a record's rows, by name -/
def rowsT (ks : List (List Nat)) (ts : List T) : List T := (sortK ks).map fun k => .lst [.str k, lookT k ks ts]
theorem rows_canon (ks : List (List Nat)) (ts : List T) : canons (rowsT ks ts) = (sortK ks).map fun k => C.row [.str k, lookC k ks (canons ts)] := by
  rw [canons_map, rowsT, List.map_map]
  refine List.map_congr_left fun k _ => ?_
  show C.row [.str k, canon (lookT k ks ts)] = _
  rw [look_canon]
theorem mem_sortK {k : List Nat} {ks : List (List Nat)} : k ∈ sortK ks ↔ k ∈ ks := (sortK_perm ks).mem_iff
theorem fews_of {ts : List T} (h : ∀ t ∈ ts, T.few t) : T.fews ts := by
  induction ts with
  | nil => exact True.intro
  | cons t ts ih => exact ⟨h t List.mem_cons_self, ih fun u hu => h u (List.mem_cons_of_mem _ hu)⟩
theorem wts_of {n : Nat} {ts : List T} (h : ∀ t ∈ ts, T.wt t ≤ n) : T.wts ts ≤ n := by
  induction ts with
  | nil => exact Nat.zero_le _
  | cons t ts ih => exact Nat.max_le.mpr ⟨h t List.mem_cons_self, ih fun u hu => h u (List.mem_cons_of_mem _ hu)⟩
theorem rows_few {ks : List (List Nat)} {ts : List T} (hl : ks.length = ts.length) (h : T.fews ts) : T.fews (rowsT ks ts) := by
  refine fews_of fun t ht => ?_
  obtain ⟨k, hk, rfl⟩ := List.mem_map.mp ht
  exact ⟨by simp, True.intro, T.fews_mem h (lookT_mem (mem_sortK.mp hk) hl), True.intro⟩
theorem rows_wt {ks : List (List Nat)} {ts : List T} (hl : ks.length = ts.length) : T.wts (rowsT ks ts) ≤ T.wts ts + 1 := by
  refine wts_of fun t ht => ?_
  obtain ⟨k, hk, rfl⟩ := List.mem_map.mp ht
  have := T.wts_le (lookT_mem (mem_sortK.mp hk) hl)
  show max 0 (max (T.wt (lookT k ks ts)) 0) + 1 ≤ _
  omega
theorem rows_len (ks : List (List Nat)) (ts : List T) : (rowsT ks ts).length = ks.length := by
  rw [rowsT, List.length_map]
  exact (sortK_perm ks).length_eq
theorem canons_len (ts : List T) : (canons ts).length = ts.length := by rw [canons_map, List.length_map]
theorem canons_get {ts : List T} {i : Nat} {t : T} (h : ts[i]? = some t) : (canons ts)[i]? = some (canon t) := by rw [canons_map, List.getElem?_map, h]; rfl
/-- the name's thing, of a record laid out -/
theorem Rep.at_name {H : Hp} {ps : List (Key × V)} {ks : List (List Nat)} {us : List T} (nk : ks.Nodup) (hk : ps.map (·.1) = ks.map fun k => (Sum.inr (tx k) : Key)) (hs : Reps H (ps.map (·.2)) us) {k : List Nat} (hm : k ∈ ks) :
    ∃ v, valV ps (Sum.inr (tx k)) = some v ∧ Rep H v (lookT k ks us) := by
  obtain ⟨j, hj⟩ := List.mem_iff_getElem?.mp hm
  have hp : (ps.map (·.1))[j]? = some (Sum.inr (tx k) : Key) := by rw [hk, List.getElem?_map, hj]; rfl
  rw [List.getElem?_map] at hp
  cases hpj : ps[j]? with
  | none => rw [hpj] at hp; cases hp
  | some kv =>
    rw [hpj] at hp
    have ek : kv.1 = (Sum.inr (tx k) : Key) := Option.some.inj hp
    have hpj' : ps[j]? = some ((Sum.inr (tx k) : Key), kv.2) := by rw [hpj, ← ek]
    obtain ⟨t, ht, hr⟩ := hs.get (i := j) (v := kv.2) (by rw [List.getElem?_map, hpj]; rfl)
    refine ⟨kv.2, valV_ix (by rw [hk]; exact nodup_nK nk) hpj', ?_⟩
    rw [lookT_ix nk hj ht]
    exact hr
end L2

namespace L2
open PySem PySem.Spec PyProof.Rows
/-! ### == and < of tuples within tuples -/
def LtM (P : Program) (w : World) (A : Around) (s : Shared) (u v : Value) (b : Bool) : Prop := ∀ (E : Value → Shared → Prop) (Q : Value → Shared → Prop), Q (.bool b) s → wpAny (model P w) A (richCompare .Lt u v) Q E s
def EqB (P : Program) (w : World) (A : Around) (s : Shared) (u v : Value) (b : Bool) : Prop := ∀ (E : Value → Shared → Prop) (Q : Bool → Shared → Prop), Q b s → wpAny (model P w) A (eqBool u v) Q E s
def RqM (P : Program) (w : World) (A : Around) (s : Shared) (u v : Value) (b : Bool) : Prop := ∀ (E : Value → Shared → Prop) (Q : Value → Shared → Prop), Q (.bool b) s → wpAny (model P w) A (richCompare .Eq u v) Q E s
/-- how two rows of values compare, pair by pair -/
inductive Zc (P : Program) (w : World) (A : Around) (s : Shared) : List Value → List Value → Int → Prop
  | nil : Zc P w A s [] [] 0
  | less {y : Value} {ys : List Value} : Zc P w A s [] (y :: ys) (-1)
  | more {x : Value} {xs : List Value} : Zc P w A s (x :: xs) [] 1
  | eq {x y : Value} {xs ys : List Value} {c : Int} : EqB P w A s x y true → Zc P w A s xs ys c → Zc P w A s (x :: xs) (y :: ys) c
  | ne {x y : Value} {xs ys : List Value} {c : Int} : EqB P w A s x y false → LtM P w A s x y (decide (c < 0)) → c ≠ 0 → Zc P w A s (x :: xs) (y :: ys) c
section
variable {P : Program} {w : World} {A : Around} {s : Shared} {E : Value → Shared → Prop}
theorem tup_lt {a b : Addr} {xs ys : Array Value} {c : Int} {R : Fin → Shared → Prop} (hx : IsTup s.heap a xs) (hy : IsTup s.heap b ys) (hz : Zc P w A s xs.toList ys.toList c) (h : R (.done (.ret (.bool (decide (c < 0))))) s) :
    wpAny (model P w) A (Builtin.«tuple.__lt__» ⟨[.ref a, .ref b], []⟩) R E s := by
  have hTb := hy.typeIs
  obtain ⟨oa, hoa, _, na, hda⟩ := hx
  obtain ⟨ob, hob, _, nb, hdb⟩ := hy
  show wpAny _ _ (isInstance (.ref b) (.type "tuple") >>= _) _ _ s
  refine wpAny_bind (wpAny_isInstance hTb isSubtype_tuple_tuple ?_)
  simp only [Bool.not_true, Bool.false_eq_true, if_false]
  refine wpAny_bind (wpAny_tupleItemsOf hoa hda ?_)
  refine wpAny_bind (wpAny_tupleItemsOf hob hdb ?_)
  refine wpAny_bind ?_
  refine wpAny_forIn_list _
    (fun rest r s' => r.1 = none ∧ s' = s ∧ ∃ xs' ys', rest = List.zip xs' ys' ∧ Zc P w A s xs' ys' c ∧ xs'.length + ys.size = ys'.length + xs.size)
    _ ?_ ?_ _ _ ⟨rfl, rfl, xs.toList, ys.toList, rfl, hz, by simp; omega⟩
  · rintro ⟨u, v⟩ rest r s' ⟨hr, rfl, xs', ys', hz', hc, hlen⟩
    cases hc with
    | nil => simp at hz'
    | less => simp at hz'
    | more => simp at hz'
    | eq he hc' =>
      simp only [List.zip_cons_cons, List.cons.injEq, Prod.mk.injEq] at hz'
      obtain ⟨⟨rfl, rfl⟩, rfl⟩ := hz'
      refine wpAny_bind (he _ _ ?_)
      simp only [Bool.not_true, Bool.false_eq_true, if_false]
      exact wpAny_pure ⟨rfl, rfl, _, _, rfl, hc', by simp only [List.length_cons] at hlen; omega⟩
    | ne he hl _ =>
      simp only [List.zip_cons_cons, List.cons.injEq, Prod.mk.injEq] at hz'
      obtain ⟨⟨rfl, rfl⟩, rfl⟩ := hz'
      refine wpAny_bind (he _ _ ?_)
      simp only [Bool.not_false, if_true]
      refine wpAny_bind (wpAny_rule (wpAny_bind (hl _ _ ?_)))
      exact wpAny_bind (wpAny_pure (wpAny_pure (wpAny_pure h)))
  · rintro ⟨r1, r2⟩ s' ⟨hr, rfl, xs', ys', hz', hc, hlen⟩
    simp only at hr
    subst hr
    refine wpAny_pure ?_
    have hfin : (decide (xs.size < ys.size)) = decide (c < 0) := by
      cases hc with
      | nil => simp only [List.length_nil] at hlen; exact decide_eq_decide.mpr ⟨fun h => by omega, fun h => by omega⟩
      | less => simp only [List.length_nil, List.length_cons] at hlen; exact decide_eq_decide.mpr ⟨fun h => by omega, fun h => by omega⟩
      | more => simp only [List.length_nil, List.length_cons] at hlen; exact decide_eq_decide.mpr ⟨fun h => by omega, fun h => by omega⟩
      | eq => simp at hz'
      | ne => simp at hz'
    show R (.done (.ret (.bool (decide (xs.size < ys.size))))) s'
    rw [hfin]; exact h
theorem tup_eq {a b : Addr} {xs ys : Array Value} {c : Int} {R : Fin → Shared → Prop} (hx : IsTup s.heap a xs) (hy : IsTup s.heap b ys) (hz : Zc P w A s xs.toList ys.toList c) (h : R (.done (.ret (.bool (decide (c = 0))))) s) :
    wpAny (model P w) A (Builtin.«tuple.__eq__» ⟨[.ref a, .ref b], []⟩) R E s := by
  have hTb := hy.typeIs
  obtain ⟨oa, hoa, _, na, hda⟩ := hx
  obtain ⟨ob, hob, _, nb, hdb⟩ := hy
  show wpAny _ _ (isInstance (.ref b) (.type "tuple") >>= _) _ _ s
  refine wpAny_bind (wpAny_isInstance hTb isSubtype_tuple_tuple ?_)
  simp only [Bool.not_true, Bool.false_eq_true, if_false]
  refine wpAny_bind (wpAny_tupleItemsOf hoa hda ?_)
  refine wpAny_bind (wpAny_tupleItemsOf hob hdb ?_)
  refine wpAny_bind ?_
  refine wpAny_forIn_list _
    (fun rest r s' => r.1 = none ∧ s' = s ∧ ∃ xs' ys', rest = List.zip xs' ys' ∧ Zc P w A s xs' ys' c ∧ xs'.length + ys.size = ys'.length + xs.size)
    _ ?_ ?_ _ _ ⟨rfl, rfl, xs.toList, ys.toList, rfl, hz, by simp; omega⟩
  · rintro ⟨u, v⟩ rest r s' ⟨hr, rfl, xs', ys', hz', hc, hlen⟩
    cases hc with
    | nil => simp at hz'
    | less => simp at hz'
    | more => simp at hz'
    | eq he hc' =>
      simp only [List.zip_cons_cons, List.cons.injEq, Prod.mk.injEq] at hz'
      obtain ⟨⟨rfl, rfl⟩, rfl⟩ := hz'
      refine wpAny_bind (he _ _ ?_)
      simp only [Bool.not_true, Bool.false_eq_true, if_false]
      exact wpAny_pure ⟨rfl, rfl, _, _, rfl, hc', by simp only [List.length_cons] at hlen; omega⟩
    | ne he hl hn =>
      simp only [List.zip_cons_cons, List.cons.injEq, Prod.mk.injEq] at hz'
      obtain ⟨⟨rfl, rfl⟩, rfl⟩ := hz'
      refine wpAny_bind (he _ _ ?_)
      simp only [Bool.not_false, if_true]
      rw [decide_eq_false hn] at h
      exact wpAny_bind (wpAny_pure (wpAny_pure (wpAny_pure h)))
  · rintro ⟨r1, r2⟩ s' ⟨hr, rfl, xs', ys', hz', hc, hlen⟩
    simp only at hr
    subst hr
    refine wpAny_pure ?_
    have hfin : (xs.size == ys.size) = decide (c = 0) := by
      rw [show (xs.size == ys.size) = decide (xs.size = ys.size) from rfl]
      cases hc with
      | nil => simp only [List.length_nil] at hlen; exact decide_eq_decide.mpr ⟨fun h => rfl, fun h => by omega⟩
      | less => simp only [List.length_nil, List.length_cons] at hlen; exact decide_eq_decide.mpr ⟨fun h => by omega, fun h => by omega⟩
      | more => simp only [List.length_nil, List.length_cons] at hlen; exact decide_eq_decide.mpr ⟨fun h => by omega, fun h => by omega⟩
      | eq => simp at hz'
      | ne => simp at hz'
    show R (.done (.ret (.bool (xs.size == ys.size)))) s'
    rw [hfin]; exact h
theorem LtM.tups {a b : Addr} {xs ys : Array Value} {c : Int} (hx : IsTup s.heap a xs) (hy : IsTup s.heap b ys) (hu : A.units < cLine) (hz : Zc P w A.in1 s xs.toList ys.toList c) : LtM P w A s (.ref a) (.ref b) (decide (c < 0)) := fun E Q q =>
  wpAny_richCompare_same_room (op := .Lt) hx.typeIs hy.typeIs F.slot_tuple_lt (wpAny_call_entry F.slot_tuple_lt hx.typeIs F.entry_tuple_lt (tup_lt hx hy hz ⟨_, rfl, (fun e => nomatch e), q⟩) (F.args_tuple_lt_2 _ _)) hu
theorem RqM.tups {a b : Addr} {xs ys : Array Value} {c : Int} (hx : IsTup s.heap a xs) (hy : IsTup s.heap b ys) (hu : A.units < cLine) (hz : Zc P w A.in1 s xs.toList ys.toList c) : RqM P w A s (.ref a) (.ref b) (decide (c = 0)) := fun E Q q =>
  wpAny_richCompare_same_room (op := .Eq) hx.typeIs hy.typeIs F.slot_tuple_eq (wpAny_call_entry F.slot_tuple_eq hx.typeIs F.entry_tuple_eq (tup_eq hx hy hz ⟨_, rfl, (fun e => nomatch e), q⟩) (F.args_tuple_eq_2 _ _)) hu
theorem EqB.refs {a b : Addr} {k : Bool} (he : a = b → k = true) (h : a ≠ b → RqM P w A s (.ref a) (.ref b) k) : EqB P w A s (.ref a) (.ref b) k := by
  by_cases e : a = b
  · rw [he e]; subst e; exact fun E Q q => SeqAt.EqAt.same _ _ _ E Q q
  · intro E Q q
    unfold eqBool
    refine wpAny_holding (wpAny_ite_split (fun z => ?_) fun _ => wpAny_bind (h e E _ (wpAny_truthy_bool q)))
    have := eq_of_beq z
    injection this with this
    exact absurd this e
end
mutual
/-- how two trees of tuples compare: 0, less or more; none: not asked -/
def tcmp : T → T → Option Int
  | .bl a, .bl b => some (sgI (if a then 1 else 0) (if b then 1 else 0))
  | .int a, .int b => some (sgI a b)
  | .str a, .str b => some (cmpS a b)
  | .tup a, .tup b => tcmps a b
  | _, _ => none
def tcmps : List T → List T → Option Int
  | [], [] => some 0
  | [], _ :: _ => some (-1)
  | _ :: _, [] => some 1
  | x :: xs, y :: ys => match tcmp x y with
    | some c => if c = 0 then tcmps xs ys else some c
    | none => none
end
theorem sgI_self (a : Int) : sgI a a = 0 := by simp [sgI]
theorem sgI_0 {a b : Int} : sgI a b = 0 ↔ a = b := by unfold sgI; split <;> split <;> omega
theorem sgI_lt {a b : Int} : sgI a b < 0 ↔ a < b := by unfold sgI; split <;> split <;> omega
theorem cmpS_self (a : List Nat) : cmpS a a = 0 := by simp [cmpS]
theorem cmpS_lt {a b : List Nat} : cmpS a b < 0 ↔ a < b := by
  unfold cmpS
  by_cases h : a < b
  · have h' : ¬ b < a := fun z => List.lt_asymm h z
    simp [h, h']
  · simp only [h, if_false]
    split <;> simp
theorem cmpS_0 {a b : List Nat} : cmpS a b = 0 ↔ a = b := by
  constructor
  · intro e
    unfold cmpS at e
    by_cases h : a < b
    · have h' : ¬ b < a := fun z => List.lt_asymm h z
      simp [h, h'] at e
    · by_cases h' : b < a
      · simp [h, h'] at e
      · exact List.le_antisymm h' h
  · intro e; subst e; exact cmpS_self a
mutual
theorem rep_tcmp {H : Hp} : ∀ {t t' : T} {v : V} {c : Int}, Rep H v t → Rep H v t' → tcmp t t' = some c → c = 0
  | .bl a, .bl b, v, c, h1, h2, e => by
    have e1 : V.bl a = V.bl b := (show v = .bl a from h1) ▸ h2
    injection e1 with e1; subst e1
    have e' : some (sgI (if a then 1 else 0) (if a then 1 else 0)) = some c := by rw [tcmp] at e; exact e
    rw [sgI_self] at e'; exact (Option.some.inj e').symm
  | .int a, .int b, v, c, h1, h2, e => by
    have e1 : V.int a = V.int b := (show v = .int a from h1) ▸ h2
    injection e1 with e1; subst e1
    rw [tcmp, sgI_self] at e; exact (Option.some.inj e).symm
  | .str a, .str b, v, c, h1, h2, e => by
    have e1 : V.str (tx a) = V.str (tx b) := (show v = .str (tx a) from h1) ▸ h2
    injection e1 with e1
    have e2 : a = b := by rw [← ts_tx a, e1, ts_tx]
    subst e2
    rw [tcmp, cmpS_self] at e; exact (Option.some.inj e).symm
  | .tup ts, .tup ts', v, c, ⟨a, vs, e1, h1, h2⟩, ⟨b, ws, e3, h3, h4⟩, e => by
    subst e1
    injection e3 with e3; subst e3
    rw [h1] at h3
    injection h3 with h3; injection h3 with h3; subst h3
    rw [tcmp] at e
    exact reps_tcmp h2 h4 e
  | .non, t', _, _, _, _, e => by cases t' <;> (rw [tcmp] at e <;> first | cases e | (intros; nofun))
  | .lst _, t', _, _, _, _, e => by cases t' <;> (rw [tcmp] at e <;> first | cases e | (intros; nofun))
  | .dic _ _, t', _, _, _, _, e => by cases t' <;> (rw [tcmp] at e <;> first | cases e | (intros; nofun))
  | .bl _, .non, _, _, _, _, e => by simp [tcmp] at e
  | .bl _, .int _, _, _, _, _, e => by simp [tcmp] at e
  | .bl _, .str _, _, _, _, _, e => by simp [tcmp] at e
  | .bl _, .lst _, _, _, _, _, e => by simp [tcmp] at e
  | .bl _, .dic _ _, _, _, _, _, e => by simp [tcmp] at e
  | .bl _, .tup _, _, _, _, _, e => by simp [tcmp] at e
  | .int _, .non, _, _, _, _, e => by simp [tcmp] at e
  | .int _, .bl _, _, _, _, _, e => by simp [tcmp] at e
  | .int _, .str _, _, _, _, _, e => by simp [tcmp] at e
  | .int _, .lst _, _, _, _, _, e => by simp [tcmp] at e
  | .int _, .dic _ _, _, _, _, _, e => by simp [tcmp] at e
  | .int _, .tup _, _, _, _, _, e => by simp [tcmp] at e
  | .str _, .non, _, _, _, _, e => by simp [tcmp] at e
  | .str _, .bl _, _, _, _, _, e => by simp [tcmp] at e
  | .str _, .int _, _, _, _, _, e => by simp [tcmp] at e
  | .str _, .lst _, _, _, _, _, e => by simp [tcmp] at e
  | .str _, .dic _ _, _, _, _, _, e => by simp [tcmp] at e
  | .str _, .tup _, _, _, _, _, e => by simp [tcmp] at e
  | .tup _, .non, _, _, _, _, e => by simp [tcmp] at e
  | .tup _, .bl _, _, _, _, _, e => by simp [tcmp] at e
  | .tup _, .int _, _, _, _, _, e => by simp [tcmp] at e
  | .tup _, .str _, _, _, _, _, e => by simp [tcmp] at e
  | .tup _, .lst _, _, _, _, _, e => by simp [tcmp] at e
  | .tup _, .dic _ _, _, _, _, _, e => by simp [tcmp] at e
theorem reps_tcmp {H : Hp} : ∀ {ts ts' : List T} {vs : List V} {c : Int}, Reps H vs ts → Reps H vs ts' → tcmps ts ts' = some c → c = 0
  | [], [], vs, c, _, _, e => by rw [tcmps] at e; exact (Option.some.inj e).symm
  | [], _ :: _, vs, c, h1, ⟨x, r, e1, _⟩, e => by
    cases (show vs = [] from h1)
    cases e1
  | _ :: _, [], vs, c, ⟨x, r, e1, _⟩, h2, e => by
    cases (show vs = [] from h2)
    cases e1
  | t :: ts, t' :: ts', vs, c, ⟨x, r, e1, h1, h2⟩, ⟨x', r', e2, h3, h4⟩, e => by
    subst e1
    injection e2 with e2 e3
    subst e2 e3
    rw [tcmps] at e
    cases hc : tcmp t t' with
    | none => rw [hc] at e; cases e
    | some d =>
      rw [hc] at e
      have hd := rep_tcmp h1 h3 hc
      subst hd
      exact reps_tcmp h2 h4 (by simpa using e)
end
section
variable {X : Cx} {pins : List (Addr × Obj)} {σ : St} {H : Hp} {s : Shared}
mutual
/-- == and < of two trees of tuples -/
theorem tup_at (I : Inv X pins σ H s) : ∀ (t t' : T) {x y : V} {u v : Value} {A : Around} {c : Int}, Rep H x t → Rep H y t' → RelV x u → RelV y v → tcmp t t' = some c → A.units + T.dep t < cLine →
    EqB X.prog X.w A s u v (decide (c = 0)) ∧ LtM X.prog X.w A s u v (decide (c < 0)) ∧ RqM X.prog X.w A s u v (decide (c = 0))
  | .bl a, t', x, y, u, v, A, c, hx, hy, rx, ry, e, _ => by
    cases t' with
    | bl b =>
      cases (show x = .bl a from hx); cases (show y = .bl b from hy)
      cases (show u = Value.bool a from rx); cases (show v = Value.bool b from ry)
      rw [tcmp] at e
      have ec := (Option.some.inj e).symm
      have e1 : decide (c = 0) = (a == b) := by rw [ec]; cases a <;> cases b <;> rfl
      have e2 : decide (c < 0) = decide (b2i a < b2i b) := by rw [ec]; cases a <;> cases b <;> rfl
      rw [e1, e2]
      exact ⟨fun E Q q => SeqAt.EqAt.bool_bool a b _ _ E Q q, fun E Q q => PyProof.Rows.lt_bool q, fun E Q q => SeqAt.RcAt.bool_bool a b _ _ E Q q⟩
    | _ => simp [tcmp] at e
  | .int a, t', x, y, u, v, A, c, hx, hy, rx, ry, e, _ => by
    cases t' with
    | int b =>
      cases (show x = .int a from hx); cases (show y = .int b from hy)
      obtain ⟨t1, rfl⟩ := rx
      obtain ⟨t2, rfl⟩ := ry
      rw [tcmp] at e
      have ec := (Option.some.inj e).symm
      have e1 : decide (c = 0) = (a == b) := by rw [ec]; exact decide_eq_decide.mpr sgI_0
      have e2 : decide (c < 0) = decide (a < b) := by rw [ec]; exact decide_eq_decide.mpr sgI_lt
      rw [e1, e2]
      exact ⟨fun E Q q => SeqAt.EqAt.int_int a t1 b t2 _ _ E Q q, fun E Q q => PyProof.Rows.lt_int q, fun E Q q => SeqAt.RcAt.int_int a t1 b t2 _ _ E Q q⟩
    | _ => simp [tcmp] at e
  | .str a, t', x, y, u, v, A, c, hx, hy, rx, ry, e, _ => by
    cases t' with
    | str b =>
      cases (show x = .str (tx a) from hx); cases (show y = .str (tx b) from hy)
      obtain ⟨t1, rfl⟩ := rx
      obtain ⟨t2, rfl⟩ := ry
      rw [tcmp] at e
      have ec := (Option.some.inj e).symm
      have e1 : decide (c = 0) = (tx a == tx b) := by
        rw [ec]
        by_cases h : a = b
        · subst h; rw [cmpS_self, beq_self_eq_true]; rfl
        · have h1 : ¬ cmpS a b = 0 := fun z => h (cmpS_0.mp z)
          have h2 : tx a ≠ tx b := fun z => h (by rw [← ts_tx a, z, ts_tx])
          rw [decide_eq_false h1, beq_eq_false_iff_ne.mpr h2]
      have e2 : decide (c < 0) = decide (a < b) := by rw [ec]; exact decide_eq_decide.mpr cmpS_lt
      rw [e1, e2]
      exact ⟨fun E Q q => SeqAt.EqAt.str_str (tx a) t1 (tx b) t2 _ _ E Q q, fun E Q q => PyProof.Rows.lt_str q, fun E Q q => SeqAt.RcAt.str_str (tx a) t1 (tx b) t2 _ _ E Q q⟩
    | _ => simp [tcmp] at e
  | .tup ts, t', x, y, u, v, A, c, hx, hy, rx, ry, e, hd => by
    cases t' with
    | tup ts' =>
      have hc0 := fun (h : Rep H x (.tup ts')) => rep_tcmp hx h e
      obtain ⟨a, xs, e1, ha, hxs⟩ := hx
      obtain ⟨b, ys, e2, hb, hys⟩ := hy
      subst e1 e2
      cases rx; cases ry
      obtain ⟨us, r1, p1, _⟩ := I.tuple (SqT.of ha)
      obtain ⟨vs, r2, p2, _⟩ := I.tuple (SqT.of hb)
      rw [tcmp] at e
      have hd' : A.units + (T.deps ts + 1) < cLine := hd
      have z := tups_at I ts ts' (A := A.in1) hxs hys r1 r2 e (by show A.units + 1 + _ < _; omega)
      have hu : A.units < cLine := by omega
      have zz : RqM X.prog X.w A s (.ref a) (.ref b) (decide (c = 0)) := RqM.tups p1 p2 hu (by simpa using z)
      refine ⟨EqB.refs (fun e3 => ?_) (fun _ => zz), LtM.tups p1 p2 hu (by simpa using z), zz⟩
      subst e3
      rw [hc0 ⟨a, ys, rfl, hb, hys⟩]
      rfl
    | _ => simp [tcmp] at e
  | .non, t', _, _, _, _, _, _, _, _, _, _, e, _ => by cases t' <;> simp [tcmp] at e
  | .lst _, t', _, _, _, _, _, _, _, _, _, _, e, _ => by cases t' <;> simp [tcmp] at e
  | .dic _ _, t', _, _, _, _, _, _, _, _, _, _, e, _ => by cases t' <;> simp [tcmp] at e
theorem tups_at (I : Inv X pins σ H s) : ∀ (ts ts' : List T) {xs ys : List V} {us vs : List Value} {A : Around} {c : Int}, Reps H xs ts → Reps H ys ts' → Vals xs us → Vals ys vs → tcmps ts ts' = some c → A.units + T.deps ts < cLine →
    Zc X.prog X.w A s us vs c
  | [], [], xs, ys, us, vs, A, c, hx, hy, rx, ry, e, _ => by
    cases (show xs = [] from hx); cases (show ys = [] from hy)
    cases rx; cases ry
    rw [tcmps] at e
    rw [← Option.some.inj e]
    exact .nil
  | [], _ :: _, xs, ys, us, vs, A, c, hx, ⟨y, yr, e2, _⟩, rx, ry, e, _ => by
    cases (show xs = [] from hx); subst e2
    cases rx
    cases ry
    rw [tcmps] at e
    rw [← Option.some.inj e]
    exact .less
  | _ :: _, [], xs, ys, us, vs, A, c, ⟨x, xr, e1, _⟩, hy, rx, ry, e, _ => by
    cases (show ys = [] from hy); subst e1
    cases rx
    cases ry
    rw [tcmps] at e
    rw [← Option.some.inj e]
    exact .more
  | t :: ts, t' :: ts', xs, ys, us, vs, A, c, ⟨x, xr, e1, hx, hxr⟩, ⟨y, yr, e2, hy, hyr⟩, rx, ry, e, hd => by
    subst e1 e2
    cases rx with
    | cons rx1 rx2 =>
      cases ry with
      | cons ry1 ry2 =>
        have hd' : A.units + max (T.dep t) (T.deps ts) < cLine := hd
        have q1 := Nat.le_max_left (T.dep t) (T.deps ts)
        have q2 := Nat.le_max_right (T.dep t) (T.deps ts)
        rw [tcmps] at e
        cases hc : tcmp t t' with
        | none => rw [hc] at e; cases e
        | some d =>
          rw [hc] at e
          have z := tup_at I t t' (A := A) hx hy rx1 ry1 hc (by omega)
          by_cases hd0 : d = 0
          · rw [decide_eq_true hd0] at z
            exact .eq z.1 (tups_at I ts ts' hxr hyr rx2 ry2 (by simpa [hd0] using e) (by omega))
          · rw [decide_eq_false hd0] at z
            have ed : d = c := by simpa [hd0] using e
            subst ed
            exact .ne z.1 z.2.1 hd0
end
/-- one == other and one < other of tuples -/
def rEqU : R2 := fun x y H Q => ∃ t t' c, Rep H x t ∧ Rep H y t' ∧ tcmp t t' = some c ∧ T.dep t ≤ 60 ∧ Q (.bl (decide (c = 0))) H
def rLtU : R2 := fun x y H Q => ∃ t t' c, Rep H x t ∧ Rep H y t' ∧ tcmp t t' = some c ∧ T.dep t ≤ 60 ∧ Q (.bl (decide (c < 0))) H
theorem op_eq_U (hu : X.A.units + 64 < cLine) : OpR X (compareOp .Eq) rEqU := by
  intro pins s σ H x y v u Q I rx ry h
  obtain ⟨t, t', c, hx, hy, hc, hd, q⟩ := h
  exact (tup_at I t t' (A := X.A) hx hy rx ry hc (by omega)).2.2 _ _ ⟨.bl _, H, I, rfl, q⟩
theorem op_lt_U (hu : X.A.units + 64 < cLine) : OpR X (compareOp .Lt) rLtU := by
  intro pins s σ H x y v u Q I rx ry h
  obtain ⟨t, t', c, hx, hy, hc, hd, q⟩ := h
  exact (tup_at I t t' (A := X.A) hx hy rx ry hc (by omega)).2.1 _ _ ⟨.bl _, H, I, rfl, q⟩
end
end L2

namespace L2
open PySem PySem.Spec PyProof.Rows
/-! ### the rank of a thing, as a tree of tuples -/
def rawC : C → T
  | .str x => .str x
  | _ => .non
mutual
def rk : C → T
  | .non => .tup [.int 0]
  | .bl b => .tup [.int 1, .bl b]
  | .int i => .tup [.int 2, .int i]
  | .str x => .tup [.int 3, .str x]
  | .row cs => .tup [.int 4, .tup (rks cs)]
  | .rcd cs => .tup [.int 5, .tup (rkps cs)]
  | .odd => .non
def rks : List C → List T
  | [] => []
  | c :: cs => rk c :: rks cs
def rkps : List C → List T
  | [] => []
  | c :: cs => rkq c :: rkps cs
def rkq : C → T
  | .row cs => .tup (rkl cs)
  | .non => .non
  | .bl _ => .non
  | .int _ => .non
  | .str _ => .non
  | .rcd _ => .non
  | .odd => .non
def rkl : List C → List T
  | [] => []
  | c :: cs => rawC c :: rks cs
end
mutual
def C.ok : C → Prop
  | .odd => False
  | .row cs => C.oks cs
  | .rcd cs => C.okps cs
  | .non => True
  | .bl _ => True
  | .int _ => True
  | .str _ => True
def C.oks : List C → Prop
  | [] => True
  | c :: cs => C.ok c ∧ C.oks cs
def C.okps : List C → Prop
  | [] => True
  | c :: cs => C.okq c ∧ C.okps cs
def C.okq : C → Prop
  | .row cs => C.okl cs
  | .non => False
  | .bl _ => False
  | .int _ => False
  | .str _ => False
  | .rcd _ => False
  | .odd => False
def C.okl : List C → Prop
  | [] => False
  | c :: cs => (∃ k, c = .str k) ∧ cs.length = 1 ∧ C.oks cs
end
theorem tc_int (i j : Int) : tcmp (.int i) (.int j) = some (sgI i j) := by rw [tcmp]
theorem tc_one {x y : T} {c : Int} (i : Int) (h : tcmp x y = some c) : tcmp (.tup [.int i, x]) (.tup [.int i, y]) = some c := by
  rw [tcmp, tcmps, tc_int, sgI_self]
  show (if (0 : Int) = 0 then tcmps [x] [y] else some 0) = _
  rw [if_pos rfl, tcmps, h]
  show (if c = 0 then tcmps [] [] else some c) = _
  by_cases hc : c = 0
  · rw [if_pos hc, tcmps, hc]
  · rw [if_neg hc]
theorem tc_ne {i j : Int} {xs ys : List T} (h : i ≠ j) : tcmp (.tup (.int i :: xs)) (.tup (.int j :: ys)) = some (sgI i j) := by
  rw [tcmp, tcmps, tc_int]
  show (if sgI i j = 0 then _ else _) = _
  rw [if_neg fun z => h (sgI_0.mp z)]
theorem rk_head : ∀ (a : C), a.ok → ∃ r, rk a = .tup (.int a.ord :: r)
  | .non, _ => ⟨[], by rw [rk]; rfl⟩
  | .bl b, _ => ⟨[.bl b], by rw [rk]; rfl⟩
  | .int b, _ => ⟨[.int b], by rw [rk]; rfl⟩
  | .str b, _ => ⟨[.str b], by rw [rk]; rfl⟩
  | .row b, _ => ⟨[.tup (rks b)], by rw [rk]; rfl⟩
  | .rcd b, _ => ⟨[.tup (rkps b)], by rw [rk]; rfl⟩
  | .odd, h => by rw [C.ok] at h; exact h.elim
theorem rk_apart {a b : C} (ha : a.ok) (hb : b.ok) (h : a.ord ≠ b.ord) : tcmp (rk a) (rk b) = some (cmpC a b) := by
  obtain ⟨r, e⟩ := rk_head a ha
  obtain ⟨r', e'⟩ := rk_head b hb
  rw [e, e', cmpC_ord _ _ h, tc_ne (by omega)]
mutual
theorem rk_cmp : ∀ (a b : C), a.ok → b.ok → tcmp (rk a) (rk b) = some (cmpC a b)
  | .non, b, ha, hb => by
    cases b with
    | non => rw [rk, cmpC, tcmp, tcmps, tc_int, sgI_self]; show (if (0 : Int) = 0 then tcmps [] [] else _) = _; rw [if_pos rfl, tcmps]
    | _ => exact rk_apart ha hb (by simp [C.ord])
  | .bl x, b, ha, hb => by
    cases b with
    | bl y => rw [rk, rk, cmpC]; exact tc_one 1 (by rw [tcmp])
    | _ => exact rk_apart ha hb (by simp [C.ord])
  | .int x, b, ha, hb => by
    cases b with
    | int y => rw [rk, rk, cmpC]; exact tc_one 2 (by rw [tcmp])
    | _ => exact rk_apart ha hb (by simp [C.ord])
  | .str x, b, ha, hb => by
    cases b with
    | str y => rw [rk, rk, cmpC]; exact tc_one 3 (by rw [tcmp])
    | _ => exact rk_apart ha hb (by simp [C.ord])
  | .row x, b, ha, hb => by
    cases b with
    | row y => rw [C.ok] at ha hb; rw [rk, rk, cmpC]; exact tc_one 4 (by rw [tcmp]; exact rks_cmp x y ha hb)
    | _ => exact rk_apart ha hb (by simp [C.ord])
  | .rcd x, b, ha, hb => by
    cases b with
    | rcd y => rw [C.ok] at ha hb; rw [rk, rk, cmpC]; exact tc_one 5 (by rw [tcmp]; exact rkps_cmp x y ha hb)
    | _ => exact rk_apart ha hb (by simp [C.ord])
  | .odd, b, ha, hb => by rw [C.ok] at ha; exact ha.elim
theorem rks_cmp : ∀ (a b : List C), C.oks a → C.oks b → tcmps (rks a) (rks b) = some (cmpCs a b)
  | [], [], _, _ => by rw [rks, tcmps, cmpCs]
  | [], _ :: _, _, _ => by rw [rks, rks, tcmps, cmpCs]
  | _ :: _, [], _, _ => by rw [rks, rks, tcmps, cmpCs]
  | x :: a, y :: b, ha, hb => by
    rw [C.oks] at ha hb
    rw [rks, rks, tcmps, rk_cmp x y ha.1 hb.1, cmpCs]
    show (if cmpC x y = 0 then tcmps (rks a) (rks b) else some (cmpC x y)) = _
    rw [rks_cmp a b ha.2 hb.2]
    split <;> rfl
theorem rkps_cmp : ∀ (a b : List C), C.okps a → C.okps b → tcmps (rkps a) (rkps b) = some (cmpCs a b)
  | [], [], _, _ => by rw [rkps, tcmps, cmpCs]
  | [], _ :: _, _, _ => by rw [rkps, rkps, tcmps, cmpCs]
  | _ :: _, [], _, _ => by rw [rkps, rkps, tcmps, cmpCs]
  | x :: a, y :: b, ha, hb => by
    rw [C.okps] at ha hb
    rw [rkps, rkps, tcmps, rkq_cmp x y ha.1 hb.1, cmpCs]
    show (if cmpC x y = 0 then tcmps (rkps a) (rkps b) else some (cmpC x y)) = _
    rw [rkps_cmp a b ha.2 hb.2]
    split <;> rfl
theorem rkq_cmp : ∀ (a b : C), C.okq a → C.okq b → tcmp (rkq a) (rkq b) = some (cmpC a b)
  | .row x, b, ha, hb => by
    cases b with
    | row y => rw [C.okq] at ha hb; rw [rkq, rkq, cmpC, tcmp]; exact rkl_cmp x y ha hb
    | _ => rw [C.okq] at hb; exact hb.elim
  | .non, b, ha, hb => by rw [C.okq] at ha; exact ha.elim
  | .bl _, b, ha, hb => by rw [C.okq] at ha; exact ha.elim
  | .int _, b, ha, hb => by rw [C.okq] at ha; exact ha.elim
  | .str _, b, ha, hb => by rw [C.okq] at ha; exact ha.elim
  | .rcd _, b, ha, hb => by rw [C.okq] at ha; exact ha.elim
  | .odd, b, ha, hb => by rw [C.okq] at ha; exact ha.elim
theorem rkl_cmp : ∀ (a b : List C), C.okl a → C.okl b → tcmps (rkl a) (rkl b) = some (cmpCs a b)
  | [], b, ha, hb => by rw [C.okl] at ha; exact ha.elim
  | _ :: _, [], ha, hb => by rw [C.okl] at hb; exact hb.elim
  | x :: a, y :: b, ha, hb => by
    rw [C.okl] at ha hb
    obtain ⟨⟨k, rfl⟩, _, h1⟩ := ha
    obtain ⟨⟨k', rfl⟩, _, h2⟩ := hb
    rw [rkl, rkl, tcmps, rawC, rawC, tcmp, cmpCs, cmpC]
    show (if cmpS k k' = 0 then tcmps (rks a) (rks b) else some (cmpS k k')) = _
    rw [rks_cmp a b h1 h2]
    split <;> rfl
end
theorem oks_of {cs : List C} (h : ∀ c ∈ cs, C.ok c) : C.oks cs := by
  induction cs with
  | nil => rw [C.oks]; exact True.intro
  | cons c cs ih => rw [C.oks]; exact ⟨h c List.mem_cons_self, ih fun u hu => h u (List.mem_cons_of_mem _ hu)⟩
theorem oks_mem {cs : List C} (h : C.oks cs) {c : C} (hc : c ∈ cs) : C.ok c := by
  induction cs with
  | nil => cases hc
  | cons d cs ih =>
    rw [C.oks] at h
    rcases List.mem_cons.mp hc with e | e
    · subst e; exact h.1
    · exact ih h.2 e
theorem okps_of {cs : List C} (h : ∀ c ∈ cs, C.okq c) : C.okps cs := by
  induction cs with
  | nil => rw [C.okps]; exact True.intro
  | cons c cs ih => rw [C.okps]; exact ⟨h c List.mem_cons_self, ih fun u hu => h u (List.mem_cons_of_mem _ hu)⟩
mutual
theorem canon_ok : ∀ (t : T), T.few t → (canon t).ok
  | .non, _ => by rw [canon, C.ok]; exact True.intro
  | .bl _, _ => by rw [canon, C.ok]; exact True.intro
  | .int _, _ => by rw [canon, C.ok]; exact True.intro
  | .str _, _ => by rw [canon, C.ok]; exact True.intro
  | .lst ts, h => by rw [canon, C.ok]; exact canons_ok ts h.2
  | .dic ks ts, h => by
    obtain ⟨_, _, hl, hf⟩ := h
    have z := canons_ok ts hf
    rw [canon, C.ok]
    refine okps_of fun c hc => ?_
    obtain ⟨k, hk, rfl⟩ := List.mem_map.mp hc
    rw [C.okq, C.okl]
    refine ⟨⟨k, rfl⟩, rfl, oks_of fun d hd => ?_⟩
    rw [List.mem_singleton] at hd
    subst hd
    rw [← look_canon]
    have hm := lookT_mem (mem_sortK.mp hk) hl
    refine oks_mem z ?_
    rw [canons_map]
    exact List.mem_map.mpr ⟨_, hm, rfl⟩
  | .tup _, h => h.elim
theorem canons_ok : ∀ (ts : List T), T.fews ts → C.oks (canons ts)
  | [], _ => by rw [canons, C.oks]; exact True.intro
  | t :: ts, h => by rw [canons, C.oks]; exact ⟨canon_ok t h.1, canons_ok ts h.2⟩
end
theorem rks_map : ∀ (cs : List C), rks cs = cs.map rk
  | [] => by rw [rks]; rfl
  | c :: cs => by rw [rks, rks_map cs]; rfl
theorem rkps_map : ∀ (cs : List C), rkps cs = cs.map rkq
  | [] => by rw [rkps]; rfl
  | c :: cs => by rw [rkps, rkps_map cs]; rfl
/-- a record's rank, name by name -/
theorem rk_dic (ks : List (List Nat)) (ts : List T) : rk (canon (.dic ks ts)) = .tup [.int 5, .tup ((sortK ks).map fun k => .tup [.str k, rk (canon (lookT k ks ts))])] := by
  rw [canon, rk, rkps_map, List.map_map]
  congr 3
  refine congrArg T.tup (List.map_congr_left fun k _ => ?_)
  show rkq (.row [.str k, lookC k ks (canons ts)]) = _
  rw [rkq, rkl, rks, rks, look_canon]
  rfl
theorem rk_lst (ts : List T) : rk (canon (.lst ts)) = .tup [.int 4, .tup (ts.map fun t => rk (canon t))] := by
  rw [canon, rk, rks_map, canons_map, List.map_map]
  rfl
theorem T.deps_of {n : Nat} {ts : List T} (h : ∀ t ∈ ts, T.dep t ≤ n) : T.deps ts ≤ n := by
  induction ts with
  | nil => exact Nat.zero_le _
  | cons t ts ih => exact Nat.max_le.mpr ⟨h t List.mem_cons_self, ih fun u hu => h u (List.mem_cons_of_mem _ hu)⟩
theorem dep_pair (x y : T) : T.dep (.tup [x, y]) = max (T.dep x) (T.dep y) + 1 := by
  show max (T.dep x) (max (T.dep y) 0) + 1 = _
  rw [Nat.max_zero]
theorem rk_dep : ∀ (n : Nat) (t : T), T.few t → T.dep t ≤ n → T.dep (rk (canon t)) ≤ 3 * n + 1 := by
  intro n
  induction n with
  | zero =>
    intro t hf h
    cases t with
    | lst ts => exact absurd h (Nat.not_succ_le_zero _)
    | dic ks ts => exact absurd h (Nat.not_succ_le_zero _)
    | tup ts => exact hf.elim
    | _ => rw [canon, rk]; exact Nat.le_refl _
  | succ n ih =>
    intro t hf h
    cases t with
    | lst ts =>
      have h' : T.deps ts + 1 ≤ n + 1 := h
      rw [rk_lst, dep_pair]
      have z : T.deps (ts.map fun t => rk (canon t)) ≤ 3 * n + 1 := T.deps_of fun u hu => by
        obtain ⟨t, ht, rfl⟩ := List.mem_map.mp hu
        have := T.deps_le ht
        exact ih t (T.fews_mem hf.2 ht) (by omega)
      show max 0 (T.deps (ts.map fun t => rk (canon t)) + 1) + 1 ≤ _
      omega
    | dic ks ts =>
      have h' : T.deps ts + 1 ≤ n + 1 := h
      obtain ⟨_, _, hl, hf⟩ := hf
      rw [rk_dic, dep_pair]
      have z : T.deps ((sortK ks).map fun k => T.tup [.str k, rk (canon (lookT k ks ts))]) ≤ 3 * n + 2 := T.deps_of fun u hu => by
        obtain ⟨k, hk, rfl⟩ := List.mem_map.mp hu
        have hm := lookT_mem (mem_sortK.mp hk) hl
        have := T.deps_le hm
        have := ih _ (T.fews_mem hf hm) (by omega)
        rw [dep_pair]
        show max 0 _ + 1 ≤ _
        omega
      show max 0 (T.deps ((sortK ks).map fun k => T.tup [.str k, rk (canon (lookT k ks ts))]) + 1) + 1 ≤ _
      omega
    | tup ts => exact hf.elim
    | non => rw [canon, rk]; show max 0 0 + 1 ≤ _; omega
    | bl b => rw [canon, rk]; show max 0 (max 0 0) + 1 ≤ _; omega
    | int b => rw [canon, rk]; show max 0 (max 0 0) + 1 ≤ _; omega
    | str b => rw [canon, rk]; show max 0 (max 0 0) + 1 ≤ _; omega
theorem tup_index {P : Program} {w : World} {A : Around} {s : Shared} {E : Value → Shared → Prop} {R : Fin → Shared → Prop} {a : Addr} {xs : Array Value} {x : Value} (e : Value → Bool) (j : Nat) (hj : j < xs.size)
    (hit : e xs[j] = true) (hno : ∀ m (hm : m < xs.size), m < j → e xs[m] = false) (hx : IsTup s.heap a xs) (he : ∀ y, y ∈ xs → SeqAt.EqAt A s y x (e y)) (h : R (.done (.ret (.int j s.toks))) { s with toks := s.toks + 1 }) :
    wpAny (model P w) A (Builtin.«tuple.index» ⟨[.ref a, x], []⟩) R E s := by
  obtain ⟨oa, hoa, _, na, hda⟩ := hx
  unfold Builtin.«tuple.index»
  refine wpAny_bind (m := selfAndSome _ _ _ _ _) (wpAny_pure ?_)
  refine wpAny_bind (wpAny_tupleItemsOf hoa hda ?_)
  refine wpAny_bind (wpAny_pure ?_)
  refine wpAny_bind (wpAny_pure ?_)
  refine wpAny_bind ?_
  rw [Std.Legacy.Range.forIn_eq_forIn_range']
  simp only [Std.Legacy.Range.size, Nat.sub_zero, Nat.add_sub_cancel, Nat.div_one, Nat.min_self]
  refine wpAny_forIn_list _ (fun rest z s' => s' = s ∧ z = (none, ()) ∧ ∃ i, rest = List.range' i (xs.size - i) ∧ i ≤ j) _ ?_ ?_ _ _ ⟨rfl, rfl, 0, by simp, Nat.zero_le _⟩
  · rintro y rest z s' ⟨rfl, rfl, i, hr, hi⟩
    have lt : i < xs.size := by omega
    have hr' : List.range' i (xs.size - i) = i :: List.range' (i + 1) (xs.size - (i + 1)) := by
      rw [show xs.size - i = (xs.size - (i + 1)) + 1 by omega, List.range'_succ]
    rw [hr'] at hr
    injection hr with h1 h2
    subst h1
    rw [show xs[y]? = some xs[y] from by simp [lt]]
    refine wpAny_bind (he _ (by simp) _ _ _ _ ?_)
    by_cases hy : y = j
    · subst hy
      rw [hit]
      simp only [if_true]
      exact wpAny_bind (m := retInt _) (wpAny_bind (m := mkInt _) (wpAny_mkInt (wpAny_pure (wpAny_pure (wpAny_pure h)))))
    · rw [hno y lt (by omega)]
      simp only [Bool.false_eq_true, if_false]
      exact wpAny_pure ⟨rfl, rfl, y + 1, h2, by omega⟩
  · rintro ⟨r1, r2⟩ s' ⟨rfl, hr, i, hz, hi⟩
    have : xs.size - i = 0 := by
      have := congrArg List.length hz
      simpa using this.symm
    omega
section
variable {X : Cx}
def rIndexT (K : PySem.W.Frag) : V → List V → Hp → VK → Prop := fun x vs H Q => ∃ (p : Addr) (ss : List Str) (k : Str) (j : Nat), x = .ref p ∧ vs = [.str k] ∧ SqT K H p (ss.map V.str) ∧ ss[j]? = some k ∧ (∀ i, i < j → ss[i]? ≠ some k) ∧ Q (.int j) H
theorem mt_index_t : MtR X "tuple.index" (rIndexT X.K) := by
  intro pins s σ H x vs v us Q I rx rv h
  obtain ⟨p, ss, k, j, rfl, rfl, hq, hj, hno, q⟩ := h
  cases rx
  obtain ⟨u, rfl, t, rfl⟩ := rv.one
  obtain ⟨its, r, pl, _⟩ := I.tuple hq
  have hl := r.length
  rw [List.length_map] at hl
  have hjl : j < ss.length := (List.getElem?_eq_some_iff.mp hj).1
  refine wpAny_call_entry PySem.F.slot_tuple_index pl.typeIs PySem.F.entry_tuple_index (tup_index (isStrK k) j (by simp; omega) ?_ ?_ pl (fun y hy => ?_) ⟨_, rfl, ⟨.int j, H, I.tok _, ⟨_, rfl⟩, q⟩⟩) (PySem.F.args_tuple_index_2 _ _)
  · obtain ⟨z, t', e1, e2⟩ := strOf_ix r (j := j) (by omega)
    rw [hj] at e1; cases e1
    show isStrK k its[j] = true
    rw [e2]; exact beq_self_eq_true k
  · intro m hm hlt
    obtain ⟨z, t', e1, e2⟩ := strOf_ix r (j := m) (by simpa using hm)
    show isStrK k its[m] = false
    rw [e2]
    have ne : z ≠ k := fun e => hno m hlt (by rw [e1, e])
    exact beq_eq_false_iff_ne.mpr ne
  · obtain ⟨m, hm, e⟩ := Array.mem_iff_getElem.mp hy
    obtain ⟨z, t', e1, e2⟩ := strOf_ix r (j := m) (by simpa using hm)
    have e3 : y = Value.str z t' := by rw [← e]; simpa using e2
    subst e3
    exact SeqAt.EqAt.str_str z t' k t
/-- a tuple of texts among the module's names -/
def TupG (K : PySem.W.Frag) (mg : Str → Option Value) (x : Str) (ss : List Str) (a : Addr) : Prop := mg x = some (.ref a) ∧ ∃ (o : Obj) (its : Array Value) (n : Nat), K.lookup a = some o ∧ o.cls = .type "tuple" ∧ o.dict = none ∧ o.data = .seq its n ∧ its.size ≤ sizeLine ∧ Vals (ss.map V.str) its.toList
theorem TupG.sq {K : PySem.W.Frag} {mg : Str → Option Value} {x : Str} {ss : List Str} {a : Addr} {H : Hp} (h : TupG K mg x ss a) : SqT K H a (ss.map V.str) := by
  obtain ⟨_, o, its, n, h1, h2, _, h4, h5, h6⟩ := h
  exact .inr ⟨o, its, n, h1, h2, h4, h5, h6⟩
theorem TupG.ty {K : PySem.W.Frag} {mg : Str → Option Value} {x : Str} {ss : List Str} {a : Addr} {H : Hp} (h : TupG K mg x ss a) : tyV K "tuple" (.ref a) H := by
  obtain ⟨_, o, its, n, h1, h2, h3, _⟩ := h
  exact .inr (.inl ⟨rfl, o, h1, h2, h3⟩)
theorem pe_gt {x : Str} {a : Addr} {pos : Pos} (hg : Gl X x) (h : X.mg x = some (.ref a)) (hd : (x == ("__debug__" : Str)) = false := by decide) : PE X (.Name x pos) (tC (.ref a)) := pe_glob hg h rfl hd
end
end L2

namespace L2
open PySem PySem.Spec PyProof.Rows
/-! ### xs[::-1], of a list and of a text -/
theorem range_get {α : Type} : ∀ (l : List α), (List.range l.length).filterMap (l[·]?) = l
  | [] => rfl
  | a :: l => by
    rw [List.length_cons, List.range_succ_eq_map, List.filterMap_cons]
    show a :: List.filterMap _ _ = _
    rw [List.filterMap_map]
    congr 1
    exact range_get l
theorem range_rev (n : Nat) : sliceRange ((n : Int) - 1) (-1) (-1) = (List.range n).reverse := by
  unfold sliceRange
  apply List.ext_getElem
  · by_cases h : n = 0
    · simp [h]
    · simp
      omega
  · intro i h1 h2
    simp at h2
    simp
    omega
theorem arr_rev {α : Type} (xs : Array α) : (List.range xs.size).reverse.filterMap (xs[·]?) = xs.toList.reverse := by
  rw [List.filterMap_reverse]
  congr 1
  have z := range_get xs.toList
  rw [Array.length_toList] at z
  simpa using z
theorem pick_rev (items : Array Value) : slicePick items none none (some (-1)) = items.toList.reverse.toArray := by
  unfold slicePick
  have hb : sliceBounds none none (some (-1)) items.size = ((items.size : Int) - 1, -1, -1) := by first | rfl | simp [sliceBounds]
  rw [hb]
  show ((sliceRange ((items.size : Int) - 1) (-1) (-1)).filterMap (items[·]?)).toArray = _
  rw [range_rev, arr_rev]
section
variable {X : Cx} {e k : Expr} {te : TE} {tk : TO} {pos p2 : Pos}
def RvR (X : Cx) (r : V → Hp → VK → Prop) : Prop :=
  ∀ (pins : List (Addr × Obj)) (s : Shared) (σ : St) (H : Hp) (x : V) (v vk : Value) (sl : Addr) (Q : VK), Inv X pins σ H s → RelV x v → s.heap.IsSliceOf sl .none .none vk → IsPart vk (some (-1)) → r x H Q →
    ∃ T id, typeLookup (.type T) "__getitem__" = pure (some (.builtin id)) ∧ s.TypeIs v T ∧ wpAny (model X.prog X.w) X.A (getItem v (.ref sl)) (EP X pins σ Q) X.xe s
def tRev (r : V → Hp → VK → Prop) (te : TE) (tk : TO) : TE := fun σ H Q => te σ H fun x H1 => tk σ H1 fun st H2 => st = some (-1) ∧ r x H2 Q
theorem pe_rev {r : V → Hp → VK → Prop} (hr : RvR X r) (he : PE X e te) (hk : PO X (some k) tk) : PE X (.Subscript e (.Slice none none (some k) p2) pos) (tRev r te tk) := by
  intro pins s σ H Q I h
  refine Subscript_ (thn (he pins s σ H _ I h) fun v s1 ⟨x, H1, I1, r1, q1⟩ => ?_)
  refine wpAny_Slice ?_
  rw [evalPart_none]
  refine wpAny_pure ?_
  refine wpAny_pure ?_
  refine thn (hk pins s1 σ H1 _ I1 q1) fun vk s3 ⟨u, H3, I3, pu, q3⟩ => ?_
  obtain ⟨rfl, q3⟩ := q3
  have I4 : Inv X pins σ H3 { s3 with heap := s3.heap.push { cls := .type "slice", data := .fields #[.none, .none, vk] } } := I3.kept (t' := s3.toks) fun b ob q => Heap.get?_push_of_some _ q
  obtain ⟨T, id, hT, ht, hg⟩ := hr pins { s3 with heap := s3.heap.push { cls := .type "slice", data := .fields #[.none, .none, vk] } } σ H3 x v vk s3.heap.objs.size Q I4 r1 (Heap.IsSliceOf.new ..) pu q3
  show wpAny (model X.prog X.w) X.A (subscriptTail e (.Slice none none (some k) p2) v (.ref s3.heap.objs.size)) (EP X pins σ Q) X.xe { s3 with heap := s3.heap.push { cls := .type "slice", data := .fields #[.none, .none, vk] } }
  exact tail_any (ops := [v, .ref s3.heap.objs.size]) ht hT hg (by with_unfolding_all rfl)
def rRvL (K : PySem.W.Frag) : V → Hp → VK → Prop := fun x H Q => ∃ a xs, x = .ref a ∧ SqL K H a xs ∧ ∀ l, H l = none → Q (.ref l) (upd H l (.lst xs.reverse))
theorem rv_list : RvR X (rRvL X.K) := by
  intro pins s σ H x v vk sl Q I rx hs pk h
  obtain ⟨a, xs, rfl, hx, q⟩ := h
  cases rx
  obtain ⟨its, r, ht, hz⟩ := I.list hx
  have hlen := r.length
  refine ⟨"list", _, slot_list_getitem.lookup, ht.isList.typeIs, ?_⟩
  refine wpAny_getItem_list_slice ht.isList hs .none .none pk (by simp) ?_ (by rw [List.size_toArray] <;> omega)
  rw [pick_rev]
  refine ⟨.ref s.heap.objs.size, _, I.laid (t' := s.toks) (o := .lst xs.reverse) (fun b ob q => Heap.get?_push_of_some _ q) (Nat.le_refl _) ?_, rfl, q _ (I.hok.fresh (Nat.le_refl _))⟩
  exact ⟨by rw [List.length_reverse]; exact hz, _, 0, r.reverse, Heap.get?_push_size _ rfl⟩
theorem signs_rev (n : Nat) : Builtin.Str.strSliceIndices none none (-1) n = (List.range n).reverse := by
  rw [← range_rev]
  unfold Builtin.Str.strSliceIndices
  first | rfl | simp
def rRvS : V → Hp → VK → Prop := fun x H Q => ∃ z, x = .str z ∧ z.length ≤ sizeLine ∧ Q (.str (tx (ts z).reverse)) H
theorem rv_str : RvR X rRvS := by
  intro pins s σ H x v vk sl Q I rx hs pk h
  obtain ⟨z, rfl, hz, q⟩ := h
  obtain ⟨t, rfl⟩ := rx
  refine ⟨"str", _, F.slot_str_getitem.lookup, typeIs_str _ _ _, ?_⟩
  cases pk with
  | int i u =>
    obtain ⟨o, ho, hc, hd⟩ := hs
    refine wpAny_getItem_str_slice (l := none) (u := none) (st := some (-1, u)) ⟨o, ho, hc, hd⟩ rfl ?_
    have e : sliceMade z t none none (some (-1, u)) = .str (tx (ts z).reverse) := by
      unfold sliceMade
      rw [if_neg (by simp)]
      congr 1
      show (⟨((Builtin.Str.strSliceIndices none none (-1) z.length).filterMap (z.cps[·]?)).toArray⟩ : Str) = _
      rw [signs_rev]
      show (⟨((List.range z.cps.size).reverse.filterMap (z.cps[·]?)).toArray⟩ : Str) = _
      rw [arr_rev]
    rw [e]
    exact ⟨by rw [tx_len, List.length_reverse, ← ts_len]; exact hz, ⟨.str (tx (ts z).reverse), H, I.tok _, ⟨_, rfl⟩, q⟩⟩
end
end L2

namespace L2
open PySem PySem.Spec PyProof.Rows
mutual
/-- small numbers, short texts -/
def T.calm : T → Prop
  | .int i => -(10 ^ 12) ≤ i ∧ i ≤ 10 ^ 12
  | .str x => x.length ≤ 100
  | .lst ts => T.calms ts
  | .dic _ ts => T.calms ts
  | .tup ts => T.calms ts
  | .non => True
  | .bl _ => True
def T.calms : List T → Prop
  | [] => True
  | t :: ts => T.calm t ∧ T.calms ts
end
theorem T.calms_mem {t : T} : ∀ {ts : List T}, T.calms ts → t ∈ ts → T.calm t
  | [], _, h => nomatch h
  | u :: ts, h, hm => (List.mem_cons.mp hm).elim (fun e => e ▸ h.1) (T.calms_mem h.2)
theorem T.calms_of {ts : List T} (h : ∀ t ∈ ts, T.calm t) : T.calms ts := by
  induction ts with
  | nil => exact True.intro
  | cons t ts ih => exact ⟨h t List.mem_cons_self, ih fun u hu => h u (List.mem_cons_of_mem _ hu)⟩
/-- what is drawn and varied: d deep at most, z things in all at most -/
structure Fit (d z : Nat) (t : T) : Prop where
  few : T.few t
  calm : T.calm t
  dep : T.dep t ≤ d
  sz : T.sz t ≤ z
theorem pick_any {K : PySem.W.Frag} {H : Hp} {p : Addr} {xs : List V} {i : Int} {Q : VK} (h : H p = some (.lst xs)) (h0 : 0 ≤ i) (h1 : i < xs.length) (q : ∀ x ∈ xs, Q x H) : rIxL K (.ref p) (.int i) H Q := by
  obtain ⟨x, hx, hm⟩ := atI_of h0 h1
  exact rIxL_i (SqL.of h) hx (q x hm)
theorem few_pure : ∀ (n : Nat) (t : T), T.dep t ≤ n → T.few t → T.pure t := by
  intro n
  induction n with
  | zero =>
    intro t hd hf
    cases t with
    | lst ts => exact absurd hd (Nat.not_succ_le_zero _)
    | dic ks ts => exact absurd hd (Nat.not_succ_le_zero _)
    | tup ts => exact hf.elim
    | _ => exact True.intro
  | succ n ih =>
    have all : ∀ ts : List T, T.deps ts ≤ n → T.fews ts → T.pures ts := by
      intro ts
      induction ts with
      | nil => intros; exact True.intro
      | cons t ts ih2 =>
        intro hd hf
        have hd' : max (T.dep t) (T.deps ts) ≤ n := hd
        exact ⟨ih t (by omega) hf.1, ih2 (by omega) hf.2⟩
    intro t hd hf
    cases t with
    | lst ts => exact all ts (Nat.le_of_succ_le_succ hd) hf.2
    | dic ks ts => exact ⟨hf.1, all ts (Nat.le_of_succ_le_succ hd) hf.2.2.2⟩
    | tup ts => exact hf.elim
    | _ => exact True.intro
theorem Fit.pure {d z : Nat} {t : T} (h : Fit d z t) : T.pure t := few_pure d t h.dep h.few
theorem Fit.mono {d z d' z' : Nat} {t : T} (h : Fit d z t) (hd : d ≤ d') (hz : z ≤ z') : Fit d' z' t := ⟨h.few, h.calm, Nat.le_trans h.dep hd, Nat.le_trans h.sz hz⟩
end L2

namespace L2
open PySem PySem.Spec PyProof.Rows
/-! ### d != {} -/
section
variable {P : Program} {w : World}
theorem pairs_0 {κ : Type} [DecidableEq κ] {knd : KeyKind P w κ} {A : Around} {E : Value → Shared → Prop} {s : Shared} {nm : String} {a b : Addr} {pa : List (κ × Value)} {Q : Bool → Shared → Prop} (na : (a == sysModules) = false) (nb : (b == sysModules) = false)
    (Da : s.heap.DictOf knd a pa) (Db : s.heap.DictOf knd b ([] : List (κ × Value))) (h0 : pa ≠ []) (q : Q false s) : wpAny (model P w) A (Builtin.Dict.samePairs nm a b) Q E s := by
  obtain ⟨o1, e1, n1, g1, _, d1, k1, p1, _⟩ := Da
  obtain ⟨o2, e2, n2, g2, _, d2, k2, p2, _⟩ := Db
  have s1 : pa.length = e1.size := by rw [← p1.length]; simp
  have s2 : (0 : Nat) = e2.size := by have := p2.length; simpa using this.symm
  have hpos : 0 < pa.length := List.length_pos_iff.mpr h0
  unfold Builtin.Dict.samePairs Builtin.Dict.showsAll
  rw [if_neg (show ¬ (a == sysModules) = true by rw [na]; exact Bool.false_ne_true), if_neg (show ¬ (b == sysModules) = true by rw [nb]; exact Bool.false_ne_true)]
  refine wpAny_bind (wpAny_pure (wpAny_bind (wpAny_pure (wpAny_bind (wpAny_dictEntries g1 d1 ?_)))))
  dsimp only
  refine wpAny_bind (wpAny_dictEntries g2 d2 ?_)
  rw [if_pos (by rw [← s1, ← s2]; simp; omega)]
  exact wpAny_bind (wpAny_rule (wpAny_pure q))
end
section
variable {X : Cx}
/-- a record beside an empty one -/
def rNeD : R2 := fun x y H Q => ∃ a b ps, x = .ref a ∧ y = .ref b ∧ H a = some (.dK ps) ∧ H b = some (.dK []) ∧ Q (.bl (!ps.isEmpty)) H
theorem op_ne_D (hu : X.A.units < cLine) : OpR X (compareOp .NotEq) rNeD := by
  intro pins s σ H x y v u Q I rx ry h
  obtain ⟨a, b, ps, rfl, rfl, ha, hb, q⟩ := h
  cases rx; cases ry
  obtain ⟨_, na, us, r1, Da⟩ := dk_of I.hok ha
  obtain ⟨_, nb, vs, r2, Db⟩ := dk_of I.hok hb
  have n1 := r1.length
  have n2 := r2.length
  have ev : vs = [] := List.length_eq_zero_iff.mp n2.symm
  subst ev
  refine wpAny_richCompare_same_room (op := .NotEq) Da.typeIs Db.typeIs PySem.F.slot_dict_ne (wpAny_call_entry PySem.F.slot_dict_ne Da.typeIs PySem.F.entry_dict_ne ?_ (PySem.F.args_dict_ne_2 _ _)) hu
  show wpAny _ _ (Builtin.Dict.dictSlotArgs "__ne__" ⟨[.ref a, .ref b], []⟩ >>= _) _ _ s
  refine wpAny_bind ?_
  unfold Builtin.Dict.dictSlotArgs
  refine wpAny_bind (wpAny_notOrdered_dict Da.typeIs ?_)
  show wpAny _ _ (pure (Value.ref a, Value.ref b)) _ _ s
  refine wpAny_pure (wpAny_bind (wpAny_isInstance (T := "dict") Db.typeIs F.sub_dict_dict ?_))
  simp only [Bool.not_true, Bool.false_eq_true, if_false]
  refine wpAny_bind (wpAny_pure (wpAny_bind (wpAny_pure ?_)))
  cases ps with
  | nil =>
    have eu : us = [] := List.length_eq_zero_iff.mp n1.symm
    subst eu
    exact wpAny_bind (eqm_pairs na nb Da Db rfl (fun i k v hi => by simp at hi) (wpAny_pure ⟨_, rfl, (fun x => nomatch x), ⟨.bl false, H, I, rfl, q⟩⟩))
  | cons p ps =>
    refine wpAny_bind (pairs_0 na nb Da Db (fun z => by rw [z] at n1; simp at n1) (wpAny_pure ⟨_, rfl, (fun x => nomatch x), ⟨.bl true, H, I, rfl, q⟩⟩))
end
theorem repl_away {k : Key} {v : V} : ∀ {ps : List (Key × V)}, k ∉ ps.map (·.1) → (ps.map fun kv => if kv.1 = k then (kv.1, v) else kv) = ps
  | [], _ => rfl
  | p :: ps, h => by
    rw [List.map_cons] at h ⊢
    have h1 : ¬ p.1 = k := fun e => h (by rw [← e]; exact List.mem_cons_self)
    rw [if_neg h1, repl_away fun z => h (List.mem_cons_of_mem _ z)]
theorem Reps.repl_sz {H : Hp} {k : Key} {v : V} {t : T} (hv : Rep H v t) : ∀ {ps : List (Key × V)} {ts : List T}, (ps.map (·.1)).Nodup → Reps H (ps.map (·.2)) ts →
    ∃ ts', Reps H ((ps.map fun kv => if kv.1 = k then (kv.1, v) else kv).map (·.2)) ts' ∧ (∀ u ∈ ts', u ∈ ts ∨ u = t) ∧ T.szs ts' ≤ T.szs ts + T.sz t
  | [], ts, _, h => ⟨ts, h, fun u hu => .inl hu, Nat.le_add_right _ _⟩
  | p :: ps, [], _, h => by
    have h' : (p :: ps).map (·.2) = [] := h
    cases h'
  | p :: ps, u :: ts, nd, ⟨v', r, e, h1, h2⟩ => by
    have e' : p.2 :: ps.map (·.2) = v' :: r := e
    injection e' with e1 e2
    subst e1 e2
    rw [List.map_cons, List.nodup_cons] at nd
    by_cases hk : p.1 = k
    · refine ⟨t :: ts, ⟨v, ps.map (·.2), ?_, hv, h2⟩, fun z hz => ?_, ?_⟩
      · rw [List.map_cons, if_pos hk, repl_away (by rw [← hk]; exact nd.1), List.map_cons]
      · rcases List.mem_cons.mp hz with q | q
        · exact .inr q
        · exact .inl (List.mem_cons_of_mem _ q)
      · show T.sz t + T.szs ts ≤ T.sz u + T.szs ts + T.sz t
        omega
    · obtain ⟨ts', r', m', z'⟩ := Reps.repl_sz hv nd.2 h2
      refine ⟨u :: ts', ⟨p.2, _, ?_, h1, r'⟩, fun z hz => ?_, ?_⟩
      · rw [List.map_cons, if_neg hk, List.map_cons]
      · rcases List.mem_cons.mp hz with q | q
        · exact .inl (by rw [q]; exact List.mem_cons_self)
        · exact (m' z q).imp (List.mem_cons_of_mem _) id
      · show T.sz u + T.szs ts' ≤ T.sz u + T.szs ts + T.sz t
        omega
theorem szs_snoc (t : T) : ∀ (ts : List T), T.szs (ts ++ [t]) = T.szs ts + T.sz t
  | [] => by show T.sz t + 0 = 0 + T.sz t; omega
  | u :: ts => by
    show T.sz u + T.szs (ts ++ [t]) = T.sz u + T.szs ts + T.sz t
    rw [szs_snoc t ts]; omega
/-- a pair put into a record, its size kept in sight -/
theorem put_sz {H : Hp} {ps : List (Key × V)} {ks : List (List Nat)} {ts : List T} {n : List Nat} {v : V} {t : T} (hk : ps.map (·.1) = ks.map nK) (hR : Reps H (ps.map (·.2)) ts) (nd : ks.Nodup) (hv : Rep H v t) :
    ∃ (ks' : List (List Nat)) (ts' : List T), (putK ps (nK n) v).map (·.1) = ks'.map nK ∧ Reps H ((putK ps (nK n) v).map (·.2)) ts' ∧ ks'.Nodup ∧ (∀ u ∈ ts', u ∈ ts ∨ u = t) ∧ ks'.length ≤ ks.length + 1 ∧ T.szs ts' ≤ T.szs ts + T.sz t := by
  unfold putK
  by_cases h : (ps.any fun kv => decide (kv.1 = nK n)) = true
  · rw [if_pos h]
    obtain ⟨ts', r', m', z'⟩ := Reps.repl_sz (k := nK n) hv (by rw [hk]; exact nodup_nK nd) hR
    refine ⟨ks, ts', ?_, r', nd, m', Nat.le_succ _, z'⟩
    rw [← hk, List.map_map]
    apply List.map_congr_left
    intro p _
    show (if p.1 = nK n then (p.1, v) else p).1 = p.1
    split <;> rfl
  · rw [if_neg h]
    refine ⟨ks ++ [n], ts ++ [t], by rw [List.map_append, hk, List.map_append]; rfl, by rw [List.map_append]; exact Reps.snoc hv hR, ?_, fun u hu => ?_, by simp, by rw [szs_snoc]; exact Nat.le_refl _⟩
    · refine nd_snoc nd fun hm => h (List.any_eq_true.mpr ?_)
      have hm' : nK n ∈ ps.map (·.1) := by rw [hk]; exact List.mem_map.mpr ⟨n, hm, rfl⟩
      obtain ⟨p, hp, e⟩ := List.mem_map.mp hm'
      exact ⟨p, hp, decide_eq_true e⟩
    · rcases List.mem_append.mp hu with q | q
      · exact .inl q
      · exact .inr (List.mem_singleton.mp q)
end L2

namespace L2
open PySem PySem.Spec PyProof.Rows
/-! ### xs[:i], xs[i:], xs[:-1] -/
theorem cut_to (xs : List V) (i : Nat) : cutV xs none (some (i : Int)) = xs.take i := by
  unfold cutV
  rw [HT.sIx_nat]
  show (xs.drop 0).take (min i xs.length - 0) = _
  rw [List.drop_zero, Nat.sub_zero]
  by_cases h : i ≤ xs.length
  · rw [Nat.min_eq_left h]
  · rw [Nat.min_eq_right (by omega), List.take_length, List.take_of_length_le (by omega)]
theorem cut_from (xs : List V) (i : Nat) : cutV xs (some (i : Int)) none = xs.drop i := by
  unfold cutV
  rw [HT.sIx_nat]
  show (xs.drop (min i xs.length)).take (xs.length - min i xs.length) = _
  by_cases h : i ≤ xs.length
  · rw [Nat.min_eq_left h, List.take_of_length_le (by rw [List.length_drop]; omega)]
  · rw [Nat.min_eq_right (by omega), List.drop_length, List.drop_of_length_le (by omega), List.take_nil]
theorem cut_last (xs : List V) : cutV xs none (some (-1)) = xs.take (xs.length - 1) := by
  unfold cutV
  show (xs.drop 0).take ((-1 + (xs.length : Int)).toNat - 0) = _
  rw [List.drop_zero, Nat.sub_zero]
  congr 1
  omega
theorem Reps.take {H : Hp} : ∀ {xs : List V} {us : List T} (i : Nat), Reps H xs us → Reps H (xs.take i) (us.take i)
  | xs, us, 0, _ => by rw [List.take_zero, List.take_zero]; exact rfl
  | xs, [], i + 1, h => by cases (show xs = [] from h); exact rfl
  | xs, u :: us, i + 1, ⟨x, r, e, h1, h2⟩ => by
    subst e
    rw [List.take_succ_cons, List.take_succ_cons]
    exact ⟨x, _, rfl, h1, Reps.take i h2⟩
theorem Reps.drop {H : Hp} : ∀ {xs : List V} {us : List T} (i : Nat), Reps H xs us → Reps H (xs.drop i) (us.drop i)
  | xs, us, 0, h => by rw [List.drop_zero, List.drop_zero]; exact h
  | xs, [], i + 1, h => by cases (show xs = [] from h); exact rfl
  | xs, u :: us, i + 1, ⟨x, r, e, h1, h2⟩ => by
    subst e
    rw [List.drop_succ_cons, List.drop_succ_cons]
    exact Reps.drop i h2
theorem Reps.reverse {H : Hp} : ∀ {xs : List V} {us : List T}, Reps H xs us → Reps H xs.reverse us.reverse
  | xs, [], h => by cases (show xs = [] from h); exact rfl
  | xs, u :: us, ⟨x, r, e, h1, h2⟩ => by
    subst e
    rw [List.reverse_cons, List.reverse_cons]
    exact Reps.snoc h1 (Reps.reverse h2)
theorem szs_append : ∀ (a b : List T), T.szs (a ++ b) = T.szs a + T.szs b
  | [], b => by show T.szs b = 0 + T.szs b; omega
  | u :: a, b => by
    show T.sz u + T.szs (a ++ b) = T.sz u + T.szs a + T.szs b
    rw [szs_append a b]; omega
theorem sz_pos : ∀ (t : T), 1 ≤ T.sz t
  | .lst ts => Nat.succ_le_succ (Nat.zero_le _)
  | .dic _ ts => Nat.succ_le_succ (Nat.zero_le _)
  | .tup ts => Nat.succ_le_succ (Nat.zero_le _)
  | .non => Nat.le_refl _
  | .bl _ => Nat.le_refl _
  | .int _ => Nat.le_refl _
  | .str _ => Nat.le_refl _
theorem len_szs : ∀ (ts : List T), ts.length ≤ T.szs ts
  | [] => Nat.le_refl _
  | t :: ts => by
    have := len_szs ts
    have := sz_pos t
    show ts.length + 1 ≤ T.sz t + T.szs ts
    omega
theorem szs_split {us : List T} {i : Nat} {t : T} (h : us[i]? = some t) : T.szs us = T.szs (us.take i) + T.sz t + T.szs (us.drop (i + 1)) := by
  obtain ⟨hl, e⟩ := List.getElem?_eq_some_iff.mp h
  conv => lhs; rw [← List.take_append_drop i us, szs_append, List.drop_eq_getElem_cons hl, e]
  show _ + (T.sz t + _) = _
  omega
/-- a row made of fitting things fits -/
theorem Fit.row {d z : Nat} {us : List T} (h : ∀ u ∈ us, T.few u ∧ T.calm u ∧ T.dep u + 1 ≤ d) (hd : 1 ≤ d) (hz : T.szs us + 1 ≤ z) (hl : T.szs us ≤ 100000) : Fit d z (.lst us) := by
  refine ⟨⟨Nat.le_trans (len_szs us) hl, fews_of fun u hu => (h u hu).1⟩, T.calms_of fun u hu => (h u hu).2.1, ?_, hz⟩
  have : T.deps us ≤ d - 1 := T.deps_of fun u hu => by have := (h u hu).2.2; omega
  show T.deps us + 1 ≤ d
  omega
theorem Fit.book {d z : Nat} {ks : List (List Nat)} {us : List T} (nk : ks.Nodup) (hk : ks.length < 64) (hl : ks.length = us.length) (h : ∀ u ∈ us, T.few u ∧ T.calm u ∧ T.dep u + 1 ≤ d) (hd : 1 ≤ d) (hz : T.szs us + 1 ≤ z) : Fit d z (.dic ks us) := by
  refine ⟨⟨nk, hk, hl, fews_of fun u hu => (h u hu).1⟩, T.calms_of fun u hu => (h u hu).2.1, ?_, hz⟩
  have : T.deps us ≤ d - 1 := T.deps_of fun u hu => by have := (h u hu).2.2; omega
  show T.deps us + 1 ≤ d
  omega
theorem kids_fit {us : List T} (hf : T.fews us) (hc : T.calms us) : ∀ u ∈ us, T.few u ∧ T.calm u ∧ T.dep u + 1 ≤ T.deps us + 1 := fun u hu => ⟨T.fews_mem hf hu, T.calms_mem hc hu, Nat.succ_le_succ (T.deps_le hu)⟩
end L2

namespace L2
open PySem PySem.Spec PyProof.Rows
/-! ### an object hidden for the time of an expression: what comes out does not hold it -/
section
variable {X : Cx} {pins : List (Addr × Obj)} {σ σ' : St} {H H' : Hp} {s s' : Shared}
theorem Inv.freezeL {d : Addr} {xs : List V} {o : Obj} (I : Inv X pins σ H s) (h : H d = some (.lst xs)) (hg : s.heap.get? d = some o) : Inv X pins σ (upd H d (.frz o (.lst xs))) s := by
  have ne : ∀ b u, H b = u → u ≠ some (.lst xs) → b ≠ d := fun b u e n z => by subst z; exact n (e.symm.trans h)
  refine I.sim (fun b e => by rw [upd_ne (ne b _ e (by intro z; cases z))]; exact e) (fun b a e => by rw [upd_ne (ne b _ e (by intro z; cases z))]; exact e) (fun b a e => by rw [upd_ne (ne b _ e (by intro z; cases z))]; exact e)
    (fun b a e => by rw [upd_ne (ne b _ e (by intro z; cases z))]; exact e) (fun b o' u e => ?_) fun b u e => ?_
  · have e' := I.base.frzs b o' u e
    rw [upd_ne (ne b _ e' (by intro z; cases z))]; exact e'
  · by_cases hb : b = d
    · subst hb
      rw [upd_same] at e; cases e
      exact .inr (.inr ⟨o, _, rfl, h, hg⟩)
    · rw [upd_ne hb] at e; exact .inl e
/-- the expression is run with the record (the row) at d hidden -/
def tHide (d : Addr) (t : TE) : TE := fun σ H Q => (∃ kvs, H d = some (.dK kvs) ∧ ∀ o, t σ (upd H d (.frz o (.dK kvs))) fun v H' => Q v (thaw H H')) ∨ ∃ xs, H d = some (.lst xs) ∧ ∀ o, t σ (upd H d (.frz o (.lst xs))) fun v H' => Q v (thaw H H')
def tHides (t : TE) : TE := fun σ H Q => ∃ d, tHide d t σ H Q
theorem pe_hide {e : Expr} {t : TE} (h : PE X e t) : PE X e (tHides t) := by
  intro pins s σ H Q I q
  obtain ⟨d, ⟨kvs, hd, q⟩ | ⟨xs, hd, q⟩⟩ := q
  · obtain ⟨_, _, us, _, D⟩ := dk_of I.hok hd
    obtain ⟨o, ho, _⟩ := D.typeIs
    exact thn (h pins s σ _ _ (I.freeze hd ho) (q o)) fun u s1 ⟨v, H1, I1, r, q1⟩ => ⟨v, _, I.thaw I1, r, q1⟩
  · obtain ⟨us, r1, pl, _⟩ := I.list (SqL.of hd)
    obtain ⟨o, n, ho, _⟩ := pl
    exact thn (h pins s σ _ _ (I.freezeL hd ho) (q o)) fun u s1 ⟨v, H1, I1, r, q1⟩ => ⟨v, _, I.thaw I1, r, q1⟩
end
/-- the heap without what stands at d -/
def hide (H : Hp) (d : Addr) : Hp := fun b => if b = d then none else H b
theorem hide_ne {H : Hp} {d b : Addr} (h : b ≠ d) : hide H d b = H b := if_neg h
theorem hide_at {H : Hp} {d : Addr} : hide H d d = none := if_pos rfl
theorem hide_upd {H : Hp} {d : Addr} {u : HO} : hide (upd H d u) d = hide H d := by
  funext b
  by_cases h : b = d
  · subst h; rw [hide_at, hide_at]
  · rw [hide_ne h, hide_ne h, upd_ne h]
theorem hide_sub {H : Hp} {d : Addr} {u : HO} : Same (hide H d) (upd H d u) := fun b v e => by
  by_cases h : b = d
  · subst h; rw [hide_at] at e; cases e
  · rw [hide_ne h] at e; rw [upd_ne h]; exact e
theorem hide_self {H : Hp} {d : Addr} : Same (hide H d) H := fun b v e => by
  by_cases h : b = d
  · subst h; rw [hide_at] at e; cases e
  · rw [hide_ne h] at e; exact e
theorem hide_new {H : Hp} {d : Addr} (h : H d = none) : hide H d = H := by
  funext b
  by_cases e : b = d
  · subst e; rw [hide_at, h]
  · rw [hide_ne e]
theorem hide_mono {H H' : Hp} {d : Addr} (h : Same H H') : Same (hide H d) (hide H' d) := fun b v e => by
  by_cases hb : b = d
  · subst hb; rw [hide_at] at e; cases e
  · rw [hide_ne hb] at e ⊢; exact h b v e
/-- seen with d hidden: it stands without d -/
theorem Rep.off {H H' : Hp} {d : Addr} {o : Obj} {u : HO} (hd : H' d = some (.frz o u)) {v : V} {t : T} (h : Rep H' v t) : Rep (hide (L2.thaw H H') d) v t :=
  Rep.plain (fun b w n e => by
    have hb : b ≠ d := fun z => by subst z; rw [hd] at e; cases e; exact n _ _ rfl
    rw [hide_ne hb]
    exact thaw_of e n) v t h
/-- what was seen with d hidden stands so still, behind an expression that was run with d hidden -/
theorem hide_thaw {H H' : Hp} {d : Addr} {o : Obj} {u : HO} (g : Same (upd H d (.frz o u)) H') : Same (hide H d) (hide (L2.thaw H H') d) := fun b w e => by
  by_cases hb : b = d
  · subst hb; rw [hide_at] at e; cases e
  · rw [hide_ne hb] at e ⊢
    have e' : H' b = some w := g b w (by rw [upd_ne hb]; exact e)
    cases w with
    | frz o' w' => rw [thaw_frz e]; exact e'
    | _ => exact thaw_of e' (by intro o v z; cases z)
theorem hide_back {H H' : Hp} {d : Addr} {o : Obj} {u : HO} (hd : H d = some u) (hu : ∀ o v, u ≠ .frz o v) (g : Same (upd H d (.frz o u)) H') : L2.thaw H H' d = some u :=
  thaw_at (g d _ upd_same) fun o v z => hu o v (Option.some.inj (hd.symm.trans z))
end L2

namespace L2
open PySem PySem.Spec PyProof.Rows
def sizeN : Nat → Nat
  | 0 => 1
  | d + 1 => 4 * sizeN d + 1
theorem sizeN_pos : ∀ d, 1 ≤ sizeN d
  | 0 => Nat.le_refl _
  | d + 1 => Nat.succ_le_succ (Nat.zero_le _)
theorem sizeN_le : ∀ d, d ≤ 4 → sizeN d ≤ 341 := by
  intro d h
  have : d = 0 ∨ d = 1 ∨ d = 2 ∨ d = 3 ∨ d = 4 := by omega
  rcases this with rfl | rfl | rfl | rfl | rfl <;> decide
theorem szs_bound {n : Nat} : ∀ {ts : List T}, (∀ t ∈ ts, T.sz t ≤ n) → T.szs ts ≤ ts.length * n
  | [], _ => Nat.zero_le _
  | t :: ts, h => by
    have h1 := h t List.mem_cons_self
    have h2 := szs_bound (ts := ts) fun u hu => h u (List.mem_cons_of_mem _ hu)
    show T.sz t + T.szs ts ≤ (ts.length + 1) * n
    rw [Nat.add_mul]; omega
theorem nice_fit : ∀ (d : Nat) (t : T), d ≤ 4 → Nice d t → Fit d (sizeN d) t
  | d, .non, _, _ => ⟨True.intro, True.intro, Nat.zero_le _, sizeN_pos d⟩
  | d, .bl _, _, _ => ⟨True.intro, True.intro, Nat.zero_le _, sizeN_pos d⟩
  | d, .int _, _, h => ⟨True.intro, h, Nat.zero_le _, sizeN_pos d⟩
  | d, .str x, _, h => by
    have h' : okText x = true := h
    unfold okText at h'
    rw [Bool.and_eq_true, decide_eq_true_eq] at h'
    exact ⟨True.intro, Nat.le_trans h'.1 (by decide), Nat.zero_le _, sizeN_pos d⟩
  | 0, .lst ts, _, h => absurd h.1 (by decide)
  | d + 1, .lst ts, hd, h => by
    obtain ⟨_, hl, hN⟩ := h
    have k : ∀ t ∈ ts, Fit d (sizeN d) t := fun t ht => nice_fit d t (by omega) (NiceL_iff.mp hN t ht)
    have z := szs_bound fun t ht => (k t ht).sz
    have z2 : ts.length * sizeN d ≤ 4 * sizeN d := Nat.mul_le_mul_right _ hl
    have z3 := sizeN_le d (by omega)
    refine Fit.row (fun u hu => ⟨(k u hu).few, (k u hu).calm, Nat.succ_le_succ (k u hu).dep⟩) (Nat.succ_le_succ (Nat.zero_le _)) ?_ (by omega)
    show _ ≤ 4 * sizeN d + 1
    omega
  | 0, .dic ks ts, _, h => absurd h.1 (by decide)
  | d + 1, .dic ks ts, hd, h => by
    obtain ⟨_, hl, hkl, nk, _, hN⟩ := h
    have k : ∀ t ∈ ts, Fit d (sizeN d) t := fun t ht => nice_fit d t (by omega) (NiceL_iff.mp hN t ht)
    have z := szs_bound fun t ht => (k t ht).sz
    have z2 : ts.length * sizeN d ≤ 4 * sizeN d := Nat.mul_le_mul_right _ hl
    refine Fit.book nk (by omega) hkl (fun u hu => ⟨(k u hu).few, (k u hu).calm, Nat.succ_le_succ (k u hu).dep⟩) (Nat.succ_le_succ (Nat.zero_le _)) ?_
    show _ ≤ 4 * sizeN d + 1
    omega
  | d, .tup ts, _, h => by cases d <;> exact h.elim
def kA : Key := Sum.inr (Str.ofString "a")
def kB : Key := Sum.inr (Str.ofString "b")
theorem two_merge (v u : V) : mergeK [] [(kA, v), (kB, u)] = [(kA, v), (kB, u)] := mergeK_nodup _ [] (by show [kA, kB].Nodup; decide +kernel)
theorem two_rep {H : Hp} {p : Addr} {v u : V} {t t' : T} (h : H p = some (.dK [(kA, v), (kB, u)])) (hv : Rep H v t) (hu : Rep H u t') : Rep H (.ref p) (.dic [ts (Str.ofString "a"), ts (Str.ofString "b")] [t, t']) :=
  ⟨p, _, rfl, h, by simp only [List.map_cons, List.map_nil, tx_ts, kA, kB], _, _, rfl, hv, _, _, rfl, hu, rfl⟩
theorem two_fit {d z z' : Nat} {t t' : T} (h : Fit d z t) (h' : Fit d z' t') : Fit (d + 1) (z + z' + 1) (.dic [ts (Str.ofString "a"), ts (Str.ofString "b")] [t, t']) := by
  refine Fit.book (by decide +kernel) (by decide) rfl (fun u hu => ?_) (Nat.succ_le_succ (Nat.zero_le _)) ?_
  · simp only [List.mem_cons, List.not_mem_nil, or_false] at hu
    rcases hu with rfl | rfl
    · exact ⟨h.few, h.calm, Nat.succ_le_succ h.dep⟩
    · exact ⟨h'.few, h'.calm, Nat.succ_le_succ h'.dep⟩
  · have := h.sz
    have := h'.sz
    show T.sz t + (T.sz t' + 0) + 1 ≤ _
    omega
theorem rows_fit {d z z' : Nat} {t t' : T} (h : Fit d z t) (h' : Fit d z' t') (hz : z + z' ≤ 100000) : Fit (d + 1) (z + z' + 1) (.lst [t, t']) := by
  have h1 := h.sz
  have h2 := h'.sz
  have e : T.szs [t, t'] = T.sz t + T.sz t' := by show T.sz t + (T.sz t' + 0) = _; omega
  refine Fit.row (fun u hu => ?_) (Nat.succ_le_succ (Nat.zero_le _)) (by omega) (by omega)
  simp only [List.mem_cons, List.not_mem_nil, or_false] at hu
  rcases hu with rfl | rfl
  · exact ⟨h.few, h.calm, Nat.succ_le_succ h.dep⟩
  · exact ⟨h'.few, h'.calm, Nat.succ_le_succ h'.dep⟩
theorem one_fit {d z : Nat} {t : T} (h : Fit d z t) (hz : z ≤ 100000) : Fit (d + 1) (z + 1) (.lst [t]) := by
  have h1 := h.sz
  have e : T.szs [t] = T.sz t := by show T.sz t + 0 = _; omega
  refine Fit.row (fun u hu => ?_) (Nat.succ_le_succ (Nat.zero_le _)) (by omega) (by omega)
  rw [List.mem_singleton] at hu
  subst hu
  exact ⟨h.few, h.calm, Nat.succ_le_succ h.dep⟩
theorem ints_reps {H : Hp} : ∀ (is : List Int), Reps H (is.map V.int) (is.map T.int)
  | [] => rfl
  | i :: is => ⟨_, _, rfl, rfl, ints_reps is⟩
theorem ints_szs : ∀ (is : List Int), T.szs (is.map T.int) = is.length
  | [] => rfl
  | i :: is => by
    show 1 + T.szs (is.map T.int) = is.length + 1
    rw [ints_szs is]; omega
theorem ints_fit {is : List Int} (hb : ∀ z ∈ is, -1000000000000 ≤ z ∧ z ≤ 1000000000000) (hl : is.length ≤ 50) : Fit 1 51 (.lst (is.map T.int)) := by
  refine Fit.row (fun u hu => ?_) (Nat.le_refl _) (by rw [ints_szs]; omega) (by rw [ints_szs]; omega)
  obtain ⟨z, hz, rfl⟩ := List.mem_map.mp hu
  exact ⟨True.intro, hb z hz, Nat.le_refl _⟩
theorem merge_reps {H : Hp} : ∀ (kvs : List (Key × V)) (ns : List (List Nat)) (ts : List T) (qs : List (Key × V)) (ks : List (List Nat)) (us : List T), kvs.map (·.1) = ns.map nK → Reps H (kvs.map (·.2)) ts → qs.map (·.1) = ks.map nK → Reps H (qs.map (·.2)) us → ks.Nodup →
    ∃ (ks2 : List (List Nat)) (us2 : List T), (mergeK qs kvs).map (·.1) = ks2.map nK ∧ Reps H ((mergeK qs kvs).map (·.2)) us2 ∧ ks2.Nodup ∧ ks2.length ≤ ks.length + kvs.length ∧ (∀ u ∈ us2, u ∈ us ∨ u ∈ ts) ∧ T.szs us2 ≤ T.szs us + T.szs ts
  | [], ns, ts, qs, ks, us, _, _, h3, h4, h5 => ⟨ks, us, h3, h4, h5, Nat.le_refl _, fun u hu => .inl hu, Nat.le_add_right _ _⟩
  | (k, v) :: kvs, [], ts, qs, ks, us, h1, _, _, _, _ => by simp at h1
  | (k, v) :: kvs, n :: ns, [], qs, ks, us, _, h2, _, _, _ => by
    have h2' : ((k, v) :: kvs).map (·.2) = [] := h2
    cases h2'
  | (k, v) :: kvs, n :: ns, t :: ts, qs, ks, us, h1, ⟨x, r, e, hx, hr⟩, h3, h4, h5 => by
    rw [List.map_cons, List.map_cons] at h1
    injection h1 with e1 e2
    have e' : v :: kvs.map (·.2) = x :: r := e
    injection e' with e3 e4
    subst e3 e4
    have ek : k = nK n := e1
    subst ek
    obtain ⟨ks1, us1, a1, a2, a3, a4, a5, a6⟩ := put_sz (n := n) h3 h4 h5 hx
    obtain ⟨ks2, us2, b1, b2, b3, b4, b5, b6⟩ := merge_reps kvs ns ts (putK qs (nK n) v) ks1 us1 e2 hr a1 a2 a3
    refine ⟨ks2, us2, b1, b2, b3, ?_, fun u hu => ?_, ?_⟩
    · rw [List.length_cons]; omega
    · rcases b5 u hu with z | z
      · rcases a4 u z with z | z
        · exact .inl z
        · exact .inr (by rw [z]; exact List.mem_cons_self)
      · exact .inr (List.mem_cons_of_mem _ z)
    · show T.szs us2 ≤ T.szs us + (T.sz t + T.szs ts)
      omega
theorem ix_listC {X : Cx} {K : PySem.W.Frag} (h : X.K = K) : IxR X (rIxL K) := by subst h; exact ix_list
end L2

namespace L2
open PySem PySem.Spec PyProof.Rows PySem.Builtin PySem.Builtin.Str

/-! ### texts: glued, parted, one for another -/
section
variable {prog : Program} {w : World} {A : Around} {E : Value → Shared → Prop} {s : Shared} {x y : Str} {t u : Tok} {Q : Value → Shared → Prop}
/-- parted by a text: the new list lies at the heap's end -/
theorem split_new (hy : (y.length == 0) = false) (hx : x.length ≤ 1000000)
    (q : ∀ (l : List (Str × Tok)) (k : Nat), l.map (·.1) = Txt.split x y → Q (.ref s.heap.objs.size) { s with heap := s.heap.push { cls := .type "list", data := .seq (strValues l).toArray }, toks := k }) :
    wpAny (model prog w) A (call (.builtin "str.split") [.str x t, .str y u]) Q E s := by
  have hz : x.length ≤ sizeLine := by rw [sizeLine_eq]; omega
  cases c1 : (decide (x.length < y.length) || decide (PySem.Builtin.Str.strKind x < PySem.Builtin.Str.strKind y)) with
  | true =>
    refine call_meets F.slot_str_split (typeIs_str _ _ _) F.entry_str_split (F.args_str_split_2 _ _)
      (meets_str_split_cannot_occur x y t u c1) ?_
    exact q [(x, t)] s.toks (by unfold Txt.split; rw [if_pos c1]; rfl)
  | false =>
    have n1 : ¬ ((decide (x.length < y.length) || decide (PySem.Builtin.Str.strKind x < PySem.Builtin.Str.strKind y)) = true) := by rw [c1]; exact Bool.false_ne_true
    cases c2 : (occurrences x y 0 x.length (x.length + 1)).isEmpty with
    | true =>
      refine call_meets F.slot_str_split (typeIs_str _ _ _) F.entry_str_split (F.args_str_split_2 _ _)
        (meets_str_split_not_found x y t u c1 hy c2) ?_
      exact q [(x, t)] s.toks (by unfold Txt.split; rw [if_neg n1, if_pos c2]; rfl)
    | false =>
      have n2 : ¬ ((occurrences x y 0 x.length (x.length + 1)).isEmpty = true) := by rw [c2]; exact Bool.false_ne_true
      have hn : (partsBetween x (occurrences x y 0 x.length (x.length + 1)) y.length).length ≤ sizeLine := by
        have := StrLaws.occ_length_le x y 0 x.length (x.length + 1)
        rw [length_partsBetween, sizeLine_eq]; omega
      refine call_meets F.slot_str_split (typeIs_str _ _ _) F.entry_str_split (F.args_str_split_2 _ _)
        (meets_str_split_sep x y t u c1 hy c2 hz hn) ?_
      have z := q (numbered s.toks (partsBetween x (occurrences x y 0 x.length (x.length + 1)) y.length)) (s.toks + (partsBetween x (occurrences x y 0 x.length (x.length + 1)) y.length).length)
        ((numbered_texts _ _).trans (by unfold Txt.split; rw [if_neg n1, if_neg n2]))
      rw [← strsFrom_eq] at z
      exact z
end
theorem kind_pos (x : Str) : 1 ≤ PySem.Builtin.Str.strKind x := by
  unfold PySem.Builtin.Str.strKind
  split
  · exact Nat.le_refl _
  · split <;> decide
theorem glue_one (z x : Str) : glued z [x] = x := rfl
/-- the quote's parts, glued by two quotes: each quote told twice -/
theorem join_split_is (x : Str) : Txt.join (Str.ofString "''") (Txt.split x (Str.ofString "'")) = Txt.replace x (Str.ofString "'") (Str.ofString "''") := by
  have e0 : ((Str.ofString "'").length == 0) = false := by decide +kernel
  have k1 : PySem.Builtin.Str.strKind (Str.ofString "'") = 1 := by decide +kernel
  have l1 : (Str.ofString "'").length = 1 := by decide +kernel
  unfold Txt.join Txt.split Txt.replace
  cases c1 : (decide (x.length < (Str.ofString "'").length) || decide (PySem.Builtin.Str.strKind x < PySem.Builtin.Str.strKind (Str.ofString "'"))) with
  | true =>
    have hx : x = tx [] := by
      have := kind_pos x
      simp only [Bool.or_eq_true, decide_eq_true_eq, k1, l1] at c1
      have h0 : x.length = 0 := by omega
      apply str_ext
      rw [ts_len] at h0
      exact List.eq_nil_of_length_eq_zero h0
    subst hx
    rw [if_pos rfl, glue_one]
    decide +kernel
  | false =>
    rw [if_neg Bool.false_ne_true]
    cases c2 : (occurrences x (Str.ofString "'") 0 x.length (x.length + 1)).isEmpty with
    | true => rw [if_pos rfl, Bool.true_or, if_pos rfl, glue_one]
    | false => rw [if_neg Bool.false_ne_true, e0, Bool.false_and, Bool.or_false, if_neg Bool.false_ne_true]
theorem replace_len (x y z : Str) : (Txt.replace x y z).length ≤ x.length + (x.length + 1) * z.length := by
  unfold Txt.replace
  split
  · omega
  · have h1 := StrLaws.occ_length_le x y 0 x.length (x.length + 1)
    have hy : (glued y (partsBetween x (occurrences x y 0 x.length (x.length + 1)) y.length)).length = x.length := by rw [StrLaws.glued_between_self]
    rw [size_glued, length_partsBetween, Nat.add_sub_cancel] at hy
    rw [size_glued, length_partsBetween, Nat.add_sub_cancel]
    have h2 : (occurrences x y 0 x.length (x.length + 1)).length * z.length ≤ (x.length + 1) * z.length := Nat.mul_le_mul_right _ h1
    omega

section
variable {X : Cx}
def rJoinG (K : PySem.W.Frag) : V → List V → Hp → VK → Prop := fun x vs H Q => ∃ (g : Str) (p : Addr) (ys : List Str), x = .str g ∧ vs = [.ref p] ∧ SqL K H p (ys.map V.str) ∧ (ys.map (·.length)).sum + ys.length * g.length ≤ 16777216 ∧ Q (.str (Txt.join g ys)) H
theorem mt_joinG : MtR X "str.join" (rJoinG X.K) := by
  intro pins s σ H x vs v us Q I rx rv h
  obtain ⟨g, p, ys, rfl, rfl, hq, hz, q⟩ := h
  obtain ⟨t, rfl⟩ := rx
  obtain ⟨u, rfl, ru⟩ := rv.one
  cases ru
  obtain ⟨its, r, pl, _⟩ := I.list hq
  exact join_list (ys := ys) pl.isList (by simpa using strsAre_of r) hz fun t' k => ⟨.str (Txt.join g ys), H, I.tok _, ⟨_, rfl⟩, q⟩
def rSplit : V → List V → Hp → VK → Prop := fun x vs H Q => ∃ (z y : Str), x = .str z ∧ vs = [.str y] ∧ y.length ≠ 0 ∧ z.length ≤ 1000000 ∧ ∀ l, H l = none → Q (.ref l) (upd H l (.lst ((Txt.split z y).map V.str)))
theorem strVals_of : ∀ (l : List (Str × Tok)), Vals ((l.map (·.1)).map V.str) (strValues l)
  | [] => .nil
  | p :: l => .cons ⟨p.2, rfl⟩ (strVals_of l)
theorem mt_split : MtR X "str.split" rSplit := by
  intro pins s σ H x vs v us Q I rx rv h
  obtain ⟨z, y, rfl, rfl, hy, hz, q⟩ := h
  obtain ⟨t, rfl⟩ := rx
  obtain ⟨u, rfl, t', rfl⟩ := rv.one
  refine split_new (by simp [hy]) hz fun l k e => ?_
  have hf : H s.heap.objs.size = none := I.hok.fresh (Nat.le_refl _)
  refine ⟨.ref s.heap.objs.size, upd H s.heap.objs.size (.lst ((Txt.split z y).map V.str)), I.laid (fun b u e => Heap.get?_push_of_some _ e) (Nat.le_refl _) ?_, rfl, q _ hf⟩
  refine ⟨?_, strValues l, 0, ?_, Heap.get?_push_size _ rfl⟩
  · have := split_le z y
    rw [List.length_map, sizeLine_eq]; omega
  · rw [← e]; exact strVals_of l
/-- with a token drawn ahead: what is told of an expression -/
def PEt (X : Cx) (e : Expr) (t : TE) : Prop :=
  ∀ (pins : List (Addr × Obj)) (s : Shared) (σ : St) (H : Hp) (Q : VK), Inv X pins σ H s → 0 < s.toks → t σ H Q → wpAny (model X.prog X.w) X.A (eval e X.env) (EP X pins σ Q) X.xe s
theorem pe_op_lit {op : Operator} {r : R2} {z : Str} {j : Nat} {b : Expr} {tb : TE} {p1 pos : Pos} (ho : OpR X (binaryOp op) r) (hb : PEt X b tb) : PE X (.BinOp (.Constant (.str z) j p1) op b pos) (tOp r (tC (.str z)) tb) := by
  intro pins s σ H Q I h
  refine wpAny_BinOp (Calls.Constant_str ?_)
  refine thn (hb pins _ σ H _ (I.tok _) (Nat.succ_pos _) h) fun u s2 ⟨y, H2, I2, r2, q2⟩ => ?_
  exact ho pins s2 σ H2 (.str z) y _ u Q I2 ⟨_, rfl⟩ r2 q2
def tRepl (i : Nat) (y z : Str) : TE := fun σ H Q => ∃ x, σ[i]? = some (some (.str x)) ∧ x.length ≤ 1000000 ∧ Q (.str (Txt.replace x y z)) H
theorem pet_replace {x : Str} {i : Nat} {y z : Str} {j1 j2 : Nat} {p0 p1 p2 apos cpos : Pos} (hN : X.N[i]? = some x) (hv : Vis X.env.scope x) (hyz : (y == z) = false) (hz : z.length ≤ 14)
    (hline : (apos.endLine == cpos.line) = true := by rfl) (hd : (x == ("__debug__" : Str)) = false := by decide) (hcd : (x == ("__classdict__" : Str)) = false := by decide) :
    PEt X (.Call (.Attribute (.Name x p0) "replace" apos) [.Constant (.str y) j1 p1, .Constant (.str z) j2 p2] [] cpos) (tRepl i y z) := by
  intro pins s σ H Q I h0 h
  obtain ⟨vx, e, hl, q⟩ := h
  refine wpAny_Call_method_late rfl rfl hline rfl ?_
  obtain ⟨m, hn, hlk⟩ := I.loc
  obtain ⟨u, ⟨t, ru⟩, l⟩ := hlk i x (.str vx) hN e hv
  subst ru
  have fin : MethodOn X.prog X.w X.A "replace" cpos (.str vx t) (backTo cpos (starEach [.Constant (.str y) j1 p1, .Constant (.str z) j2 p2] X.env)) (EP X pins σ Q) X.xe s := by
    refine ⟨"str", "str.replace", F.plainAttrs_str, F.slot_str_replace, F.type_str_replace, typeIs_str _ _ _, (fun _ e => nomatch e), ?_⟩
    refine Calls.callWith_builtin rfl (Calls.evalArgs_plain ?_)
    refine Calls.spliced_cons (Calls.Constant_str (k := j1) (pos := p1) (Calls.spliced_cons (Calls.Constant_str (k := j2) (pos := p2) (Calls.spliced_nil ?_))))
    refine SC.replaceW (Nat.pos_iff_ne_zero.mp h0) (Nat.succ_ne_zero _) (fun c => absurd (show s.toks = s.toks + 1 from c) (by omega)) hyz (by omega) hz fun t' k => ?_
    exact ⟨.str (Txt.replace vx y z), H, I.tok _, ⟨_, rfl⟩, q⟩
  rcases l with ⟨hk, hm⟩ | ⟨hk, c, hc, hcell⟩
  · exact wpAny_Name (wpAny_loadName_local I.ok.kind hk hn hm fin) hd
  · rcases hk with hk | hk
    · exact wpAny_Name (wpAny_loadName_cell I.ok.kind hk hc hcell fin) hd
    · exact wpAny_Name (wpAny_loadName_free I.ok.kind hk hc hcell fin hcd) hd
end
structure Bl3 (mg : Str → Option Value) : Prop extends Bl2 mg where
  abs : mg "abs" = none
end L2

namespace L2
open PySem PySem.Spec PyProof.Rows

/-! ### what is drawn, told outright -/
def cellF (ns : List Int) (k : Int) : Int :=
  let m := if ns = [] then k * 7919 else (k * 7919 + k / ns.length * 104729 + ns.getD (k % ns.length).toNat 0 * 48271) % 1000003
  (m * m / 11 + 13 * m) % 1000003
theorem cellF_lo (ns : List Int) (k : Int) : 0 ≤ cellF ns k := Int.emod_nonneg _ (by decide)
theorem cellF_hi (ns : List Int) (k : Int) : cellF ns k < 1000003 := Int.emod_lt_of_pos _ (by decide)
def numF (m : Int) : Int := if m % 3 = 0 then m / 3 % 41 - 20 else if m % 3 = 1 then m ^ 4 % 2000000000001 - 1000000000000
  else ([1000000000000, -1000000000000, 999999999999, 0, 1, -1, 100000000000, 999] : List Int).getD (m / 3 % 8).toNat 0
theorem getD_in {α : Type} {xs : List α} {i : Int} (d : α) (h0 : 0 ≤ i) (h1 : i < xs.length) : xs.getD i.toNat d ∈ xs := by
  have h : i.toNat < xs.length := by omega
  rw [List.getD_eq_getElem?_getD, List.getElem?_eq_getElem h]
  exact List.getElem_mem h
theorem numF_in (m : Int) : -(10 ^ 12) ≤ numF m ∧ numF m ≤ 10 ^ 12 := by
  unfold numF
  split
  · omega
  · split
    · have h1 := Int.emod_nonneg (m ^ 4) (show (2000000000001 : Int) ≠ 0 by decide)
      have h2 := Int.emod_lt_of_pos (m ^ 4) (show (0 : Int) < 2000000000001 by decide)
      omega
    · have h := getD_in (xs := ([1000000000000, -1000000000000, 999999999999, 0, 1, -1, 100000000000, 999] : List Int)) (i := m / 3 % 8) 0 (by omega) (by simp only [List.length_cons, List.length_nil]; omega)
      revert h
      generalize ([1000000000000, -1000000000000, 999999999999, 0, 1, -1, 100000000000, 999] : List Int).getD (m / 3 % 8).toNat 0 = z
      intro h
      simp only [List.mem_cons, List.not_mem_nil, or_false] at h
      rcases h with rfl | rfl | rfl | rfl | rfl | rfl | rfl | rfl <;> decide
def chF (i : Int) : Nat := (letL ++ figL).getD i.toNat 0
theorem chF_at {i : Int} (h0 : 0 ≤ i) (h1 : i < 36) : atI (letL ++ figL) i = some (chF i) := atI_getD h0 (by show i < ((36 : Nat) : Int); omega)
theorem chF_in {i : Int} (h0 : 0 ≤ i) (h1 : i < 36) : chF i ∈ letL ++ figL := getD_in 0 h0 (by show i < ((36 : Nat) : Int); omega)
theorem chF_let {i : Int} (h0 : 0 ≤ i) (h1 : i < 26) : chF i ∈ letL := by
  obtain ⟨c, e, h⟩ := at_l26 h0 h1
  rw [chF_at h0 (by omega)] at e
  cases e
  exact h
def sizF (m : Int) : Int := ([1, 1 + m / 3 % 4, 1 + m / 3 % 12] : List Int).getD (m % 3).toNat 0
theorem sizF_in (m : Int) : 1 ≤ sizF m ∧ sizF m ≤ 12 := by
  unfold sizF
  have h := getD_in (xs := ([1, 1 + m / 3 % 4, 1 + m / 3 % 12] : List Int)) (i := m % 3) 0 (by omega) (by simp only [List.length_cons, List.length_nil]; omega)
  revert h
  generalize ([1, 1 + m / 3 % 4, 1 + m / 3 % 12] : List Int).getD (m % 3).toNat 0 = z
  intro h
  simp only [List.mem_cons, List.not_mem_nil, or_false] at h
  rcases h with rfl | rfl | rfl <;> omega
theorem sizF_at (m : Int) : atI [V.int 1, V.int (1 + m / 3 % 4), V.int (1 + m / 3 % 12)] (m % 3) = some (.int (sizF m)) := by
  rw [atI_getD (d := V.int 0) (by omega) (by simp only [List.length_cons, List.length_nil]; omega)]
  unfold sizF
  rcases (by omega : m % 3 = 0 ∨ m % 3 = 1 ∨ m % 3 = 2) with e | e | e <;> rw [e] <;> rfl
def restF (m : Int) (n : Nat) : List Nat := (List.range n).map fun (i : Nat) => chF ((m / 7 + (0 + (i : Int)) * (1 + m / 11 % 35)) % 36)
def nameF (m : Int) : List Nat :=
  if m / 36 % 2 = 1 then List.replicate (m / 72 % sizF m).toNat 97 ++ [chF (m / 864 % 26)] ++ List.replicate (sizF m - m / 72 % sizF m - 1).toNat 97
  else chF (m / 72 % 26) :: restF m (sizF m - 1).toNat
theorem nameF_ok (m : Int) : okName (nameF m) = true := by
  obtain ⟨n1, n12⟩ := sizF_in m
  unfold nameF
  split
  · have a0 := Int.emod_nonneg (m / 72) (show sizF m ≠ 0 by omega)
    have a1 := Int.emod_lt_of_pos (m / 72) (show 0 < sizF m by omega)
    have hcl := chF_let (i := m / 864 % 26) (by omega) (by omega)
    refine okName_of ?_ ?_ ?_
    · simp only [List.length_append, List.length_replicate, List.length_singleton]; omega
    · cases e : (m / 72 % sizF m).toNat with
      | zero => exact ⟨_, _, rfl, hcl⟩
      | succ k => exact ⟨97, _, rfl, a_letL⟩
    · intro d hd
      simp only [List.mem_append, List.mem_replicate, List.mem_singleton] at hd
      rcases hd with (⟨_, rfl⟩ | rfl) | ⟨_, rfl⟩
      · exact letL_sub a_letL
      · exact letL_sub hcl
      · exact letL_sub a_letL
  · have hcl := chF_let (i := m / 72 % 26) (by omega) (by omega)
    refine okName_of ?_ ⟨_, _, rfl, hcl⟩ ?_
    · simp only [List.length_cons, restF, List.length_map, List.length_range]; omega
    · intro d hd
      rcases List.mem_cons.mp hd with z | z
      · rw [z]; exact letL_sub hcl
      · obtain ⟨i, _, rfl⟩ := List.mem_map.mp z
        exact chF_in (by omega) (by omega)
def sgF (i : Int) : Nat := sgnL.getD i.toNat 0
theorem sgF_at {i : Int} (h0 : 0 ≤ i) (h1 : i < 94) : atI sgnL i = some (sgF i) := atI_getD h0 (by show i < ((94 : Nat) : Int); omega)
theorem sgF_in {i : Int} (h0 : 0 ≤ i) (h1 : i < 94) : sgF i ∈ sgnL := getD_in 0 h0 (by show i < ((94 : Nat) : Int); omega)
def lenF (m : Int) : Int := ([m / 5 % 4, m / 5 % 9, m / 5 % 31] : List Int).getD (m % 3).toNat 0
theorem lenF_in (m : Int) : 0 ≤ lenF m ∧ lenF m ≤ 30 := by
  unfold lenF
  have h := getD_in (xs := ([m / 5 % 4, m / 5 % 9, m / 5 % 31] : List Int)) (i := m % 3) 0 (by omega) (by simp only [List.length_cons, List.length_nil]; omega)
  revert h
  generalize ([m / 5 % 4, m / 5 % 9, m / 5 % 31] : List Int).getD (m % 3).toNat 0 = z
  intro h
  simp only [List.mem_cons, List.not_mem_nil, or_false] at h
  rcases h with rfl | rfl | rfl <;> omega
theorem lenF_at (m : Int) : atI [V.int (m / 5 % 4), V.int (m / 5 % 9), V.int (m / 5 % 31)] (m % 3) = some (.int (lenF m)) := by
  rw [atI_getD (d := V.int 0) (by omega) (by simp only [List.length_cons, List.length_nil]; omega)]
  unfold lenF
  rcases (by omega : m % 3 = 0 ∨ m % 3 = 1 ∨ m % 3 = 2) with e | e | e <;> rw [e] <;> rfl
def runF (m : Int) (n : Nat) : List Nat := (List.range n).map fun (i : Nat) => sgF ((m / 7 + (0 + (i : Int)) * (1 + m / 13 % 93)) % 94)
def textF (m : Int) : List Nat :=
  if m / 155 % 3 = 1 then List.replicate (lenF m / 2).toNat 39 ++ List.replicate (lenF m - lenF m / 2).toNat (sgF (m / 465 % 94)) else runF m (lenF m).toNat
theorem textF_ok (m : Int) : okText (textF m) = true := by
  obtain ⟨n0, n30⟩ := lenF_in m
  unfold textF
  split
  · refine okText_of ?_ ?_
    · simp only [List.length_append, List.length_replicate]; omega
    · intro d hd
      simp only [List.mem_append, List.mem_replicate] at hd
      rcases hd with ⟨_, rfl⟩ | ⟨_, rfl⟩
      · exact q_sgnL
      · exact sgF_in (by omega) (by omega)
  · refine okText_of ?_ ?_
    · simp only [runF, List.length_map, List.length_range]; omega
    · intro d hd
      obtain ⟨i, _, rfl⟩ := List.mem_map.mp hd
      exact sgF_in (by omega) (by omega)
theorem range_snoc {α : Type} (f : Nat → α) (i : Nat) : (List.range (i + 1)).map f = (List.range i).map f ++ [f i] := by rw [List.range_succ, List.map_append]; rfl

/-! ### a record's pairs, told outright -/
def putTs (n : List Nat) (t : T) : List (List Nat) → List T → List T
  | k :: ks, u :: us => (if k = n then t else u) :: putTs n t ks us
  | _, us => us
def putT (p : List (List Nat) × List T) (n : List Nat) (t : T) : List (List Nat) × List T := if n ∈ p.1 then (p.1, putTs n t p.1 p.2) else (p.1 ++ [n], p.2 ++ [t])
theorem putTs_len (n : List Nat) (t : T) : ∀ (ks : List (List Nat)) (us : List T), (putTs n t ks us).length = us.length
  | [], us => by unfold putTs; rfl
  | _ :: _, [] => rfl
  | k :: ks, u :: us => by
    show (putTs n t ks us).length + 1 = us.length + 1
    rw [putTs_len n t ks us]
theorem putTs_mem (n : List Nat) (t : T) : ∀ (ks : List (List Nat)) (us : List T) (u : T), u ∈ putTs n t ks us → u ∈ us ∨ u = t
  | [], us, u, h => by unfold putTs at h; exact .inl h
  | _ :: _, [], u, h => .inl h
  | k :: ks, v :: us, u, h => by
    have h' : u ∈ (if k = n then t else v) :: putTs n t ks us := h
    rcases List.mem_cons.mp h' with z | z
    · split at z
      · exact .inr z
      · exact .inl (by rw [z]; exact List.mem_cons_self)
    · exact (putTs_mem n t ks us u z).imp (List.mem_cons_of_mem _) id
theorem Reps.replT {H : Hp} {n : List Nat} {v : V} {t : T} (hv : Rep H v t) : ∀ {ps : List (Key × V)} {ks : List (List Nat)} {us : List T}, ps.map (·.1) = ks.map nK → Reps H (ps.map (·.2)) us → Reps H ((ps.map fun kv => if kv.1 = nK n then (kv.1, v) else kv).map (·.2)) (putTs n t ks us)
  | [], [], us, _, h => by
    have e : putTs n t [] us = us := by unfold putTs; rfl
    rw [e]; exact h
  | [], _ :: _, _, e, _ => by simp at e
  | _ :: _, [], _, e, _ => by simp at e
  | p :: ps, k :: ks, [], _, h => by
    have h' : (p :: ps).map (·.2) = [] := h
    cases h'
  | p :: ps, k :: ks, u :: us, e, ⟨v', r, e0, h1, h2⟩ => by
    have e' : p.2 :: ps.map (·.2) = v' :: r := e0
    injection e' with e1 e2
    subst e1 e2
    have e3 : p.1 :: ps.map (·.1) = nK k :: ks.map nK := e
    injection e3 with e4 e5
    have ih := Reps.replT (n := n) hv e5 h2
    by_cases hk : k = n
    · refine ⟨v, _, ?_, ?_, ih⟩
      · rw [List.map_cons, if_pos (by rw [e4, hk]), List.map_cons]
      · rw [if_pos hk]; exact hv
    · refine ⟨p.2, _, ?_, ?_, ih⟩
      · rw [List.map_cons, if_neg (by rw [e4]; exact fun z => hk (nK_inj z)), List.map_cons]
      · rw [if_neg hk]; exact h1
theorem put_repT {H : Hp} {ps : List (Key × V)} {p : List (List Nat) × List T} {n : List Nat} {v : V} {t : T} (hk : ps.map (·.1) = p.1.map nK) (hR : Reps H (ps.map (·.2)) p.2) (hv : Rep H v t) :
    (putK ps (nK n) v).map (·.1) = (putT p n t).1.map nK ∧ Reps H ((putK ps (nK n) v).map (·.2)) (putT p n t).2 := by
  have hm : (ps.any fun kv => decide (kv.1 = nK n)) = true ↔ n ∈ p.1 := by
    rw [List.any_eq_true]
    constructor
    · rintro ⟨kv, hkv, e⟩
      have : nK n ∈ ps.map (·.1) := List.mem_map.mpr ⟨kv, hkv, of_decide_eq_true e⟩
      rw [hk] at this
      obtain ⟨k, h1, h2⟩ := List.mem_map.mp this
      rw [← nK_inj h2]; exact h1
    · intro h
      have : nK n ∈ ps.map (·.1) := by rw [hk]; exact List.mem_map.mpr ⟨n, h, rfl⟩
      obtain ⟨kv, h1, h2⟩ := List.mem_map.mp this
      exact ⟨kv, h1, decide_eq_true h2⟩
  unfold putK putT
  by_cases h : n ∈ p.1
  · rw [if_pos (hm.mpr h), if_pos h]
    refine ⟨?_, Reps.replT hv hk hR⟩
    show _ = p.1.map nK
    rw [← hk, List.map_map]
    apply List.map_congr_left
    intro q _
    show (if q.1 = nK n then (q.1, v) else q).1 = q.1
    split <;> rfl
  · rw [if_neg (fun z => h (hm.mp z)), if_neg h]
    exact ⟨by rw [List.map_append, hk, List.map_append]; rfl, by rw [List.map_append]; exact Reps.snoc hv hR⟩
def dicG (nm : Nat → List Nat) (us : List T) : Nat → List (List Nat) × List T
  | 0 => ([], [])
  | i + 1 => putT (dicG nm us i) (nm i) (us.getD i .non)
theorem dicG_ok (nm : Nat → List Nat) (us : List T) (hn : ∀ i, okName (nm i) = true) : ∀ i, i ≤ us.length → (dicG nm us i).1.Nodup ∧ (∀ n ∈ (dicG nm us i).1, okName n = true) ∧ (∀ u ∈ (dicG nm us i).2, u ∈ us) ∧ (dicG nm us i).1.length = (dicG nm us i).2.length ∧ (dicG nm us i).1.length ≤ i
  | 0, _ => ⟨List.nodup_nil, fun _ h => (nomatch h), fun _ h => (nomatch h), rfl, Nat.le_refl _⟩
  | i + 1, hi => by
    obtain ⟨h1, h2, h3, h4, h5⟩ := dicG_ok nm us hn i (by omega)
    have hin : us.getD i .non ∈ us := by
      rw [List.getD_eq_getElem?_getD, List.getElem?_eq_getElem (by omega)]
      exact List.getElem_mem _
    unfold dicG putT
    split
    · exact ⟨h1, h2, fun u hu => (putTs_mem _ _ _ _ u hu).elim (h3 u) (fun e => by rw [e]; exact hin), by rw [putTs_len]; exact h4, Nat.le_succ_of_le h5⟩
    · rename_i hm
      refine ⟨nd_snoc h1 hm, fun n hn' => ?_, fun u hu => ?_, by simp [h4], by simp only [List.length_append, List.length_singleton]; omega⟩
      · rcases List.mem_append.mp hn' with q | q
        · exact h2 n q
        · rw [List.mem_singleton.mp q]; exact hn i
      · rcases List.mem_append.mp hu with q | q
        · exact h3 u q
        · rw [List.mem_singleton.mp q]; exact hin
def leafF (m kd : Int) : T := if kd = 0 then ([.non, .bl true, .bl false] : List T).getD (m / 9 % 3).toNat .non else if kd < 3 then .int (numF (m / 9)) else .str (textF (m / 9))
theorem leafF_nice (m kd : Int) (d : Nat) : Nice d (leafF m kd) := by
  unfold leafF
  split
  · rcases (by omega : m / 9 % 3 = 0 ∨ m / 9 % 3 = 1 ∨ m / 9 % 3 = 2) with e | e | e <;> rw [e] <;> exact True.intro
  · split
    · exact numF_in _
    · exact textF_ok _
theorem leafF_at {H : Hp} (m : Int) : ∃ v, atI [V.non, V.bl true, V.bl false] (m / 9 % 3) = some v ∧ Rep H v (leafF m 0) := by
  have e0 : leafF m 0 = ([.non, .bl true, .bl false] : List T).getD (m / 9 % 3).toNat .non := if_pos rfl
  rw [e0]
  rcases (by omega : m / 9 % 3 = 0 ∨ m / 9 % 3 = 1 ∨ m / 9 % 3 = 2) with e | e | e <;> rw [e]
  · exact ⟨.non, rfl, rfl⟩
  · exact ⟨.bl true, rfl, rfl⟩
  · exact ⟨.bl false, rfl, rfl⟩
def kidN (ns : List Int) (k : Int) (j : Nat) : List Nat := nameF (cellF ns (k * 5 + 1 + (0 + (j : Int))) / 9 + (0 + (j : Int)))
def thT (ns : List Int) : Nat → Int → T
  | 0, k => leafF (cellF ns k) (cellF ns k % 5)
  | e + 1, k => if cellF ns k % 9 < 5 then leafF (cellF ns k) (cellF ns k % 9) else
    if cellF ns k % 9 < 7 then .lst ((List.range (cellF ns k / 9 % 5).toNat).map fun (j : Nat) => thT ns e (k * 5 + 1 + (0 + (j : Int))))
    else .dic (dicG (kidN ns k) ((List.range (cellF ns k / 9 % 5).toNat).map fun (j : Nat) => thT ns e (k * 5 + 1 + (0 + (j : Int)))) (cellF ns k / 9 % 5).toNat).1 (dicG (kidN ns k) ((List.range (cellF ns k / 9 % 5).toNat).map fun (j : Nat) => thT ns e (k * 5 + 1 + (0 + (j : Int)))) (cellF ns k / 9 % 5).toNat).2
theorem thT_nice (ns : List Int) : ∀ (d : Nat) (k : Int), Nice d (thT ns d k)
  | 0, k => leafF_nice _ _ _
  | e + 1, k => by
    unfold thT
    split
    · exact leafF_nice _ _ _
    · have hN : NiceL e ((List.range (cellF ns k / 9 % 5).toNat).map fun (j : Nat) => thT ns e (k * 5 + 1 + (0 + (j : Int)))) := NiceL_iff.mpr fun t ht => by
        obtain ⟨j, _, rfl⟩ := List.mem_map.mp ht
        exact thT_nice ns e _
      have hl : ((List.range (cellF ns k / 9 % 5).toNat).map fun (j : Nat) => thT ns e (k * 5 + 1 + (0 + (j : Int)))).length = (cellF ns k / 9 % 5).toNat := by simp
      have hle : (cellF ns k / 9 % 5).toNat ≤ 4 := by omega
      split
      · exact ⟨by omega, by omega, hN⟩
      · obtain ⟨h1, h2, h3, h4, h5⟩ := dicG_ok (kidN ns k) _ (fun j => nameF_ok _) (cellF ns k / 9 % 5).toNat (Nat.le_of_eq hl.symm)
        exact ⟨by omega, by omega, h4, h1, h2, NiceL_iff.mpr fun u hu => NiceL_iff.mp hN u (h3 u hu)⟩
end L2

namespace L2
open PySem PySem.Spec PyProof.Rows PySem.Builtin PySem.Builtin.Str
/-! ### how a thing is written -/
def lookS (k : List Nat) : List (List Nat) → List Str → Str
  | k' :: ks, c :: cs => if k' = k then c else lookS k ks cs
  | _, _ => Str.ofString ""
def quoted (x : List Nat) : Str := Str.ofString "'" ++ Txt.replace (tx x) (Str.ofString "'") (Str.ofString "''") ++ Str.ofString "'"
mutual
def wrT : T → Str
  | .non => Str.ofString "none"
  | .bl b => if b then Str.ofString "yes" else Str.ofString "no"
  | .int i => Str.ofString (toString i)
  | .str x => quoted x
  | .lst us => Str.ofString "[" ++ Txt.join (Str.ofString ", ") (wrTs us) ++ Str.ofString "]"
  | .dic ks us => Str.ofString "{" ++ Txt.join (Str.ofString ", ") ((sortK ks).map fun k => tx k ++ Str.ofString ": " ++ lookS k ks (wrTs us)) ++ Str.ofString "}"
  | .tup _ => Str.ofString ""
def wrTs : List T → List Str
  | [] => []
  | t :: ts => wrT t :: wrTs ts
end
theorem wrTs_map : ∀ (ts : List T), wrTs ts = ts.map wrT
  | [] => rfl
  | t :: ts => by rw [List.map_cons, ← wrTs_map ts]; rfl
theorem look_wr (k : List Nat) : ∀ (ks : List (List Nat)) (ts : List T), wrT (lookT k ks ts) = lookS k ks (wrTs ts)
  | [], _ => rfl
  | _ :: _, [] => rfl
  | k' :: ks, t :: ts => by
    show wrT (if k' = k then t else lookT k ks ts) = if k' = k then wrT t else lookS k ks (wrTs ts)
    split
    · rfl
    · exact look_wr k ks ts
mutual
/-- numbers, texts and names within their bounds, records whole -/
def T.okw : T → Prop
  | .non => True
  | .bl _ => True
  | .int i => -(10 ^ 12) ≤ i ∧ i ≤ 10 ^ 12
  | .str x => x.length ≤ 30
  | .lst ts => T.okws ts
  | .dic ks ts => ks.Nodup ∧ ks.length < 64 ∧ ks.length = ts.length ∧ (∀ k ∈ ks, k.length ≤ 12) ∧ T.okws ts
  | .tup _ => False
def T.okws : List T → Prop
  | [] => True
  | t :: ts => T.okw t ∧ T.okws ts
end
theorem T.okws_mem {t : T} : ∀ {ts : List T}, T.okws ts → t ∈ ts → T.okw t
  | [], _, h => nomatch h
  | u :: ts, h, hm => (List.mem_cons.mp hm).elim (fun e => e ▸ h.1) (T.okws_mem h.2)
theorem T.okws_of {ts : List T} (h : ∀ t ∈ ts, T.okw t) : T.okws ts := by
  induction ts with
  | nil => exact True.intro
  | cons t ts ih => exact ⟨h t List.mem_cons_self, ih fun u hu => h u (List.mem_cons_of_mem _ hu)⟩
theorem okName_len {k : List Nat} (h : okName k = true) : k.length ≤ 12 := by
  unfold okName at h
  simp only [Bool.and_eq_true, decide_eq_true_eq] at h
  omega
theorem okText_len {k : List Nat} (h : okText k = true) : k.length ≤ 30 := by
  unfold okText at h
  simp only [Bool.and_eq_true, decide_eq_true_eq] at h
  omega
mutual
theorem Nice.okw {d : Nat} : ∀ (t : T), Nice d t → T.okw t
  | .non, _ => True.intro
  | .bl _, _ => True.intro
  | .int _, h => h
  | .str _, h => okText_len h
  | .lst ts, h => NiceL.okw ts h.2.2
  | .dic ks ts, h => by
    obtain ⟨_, h1, h2, h3, h4, h5⟩ := h
    exact ⟨h3, by omega, h2, fun k hk => okName_len (h4 k hk), NiceL.okw ts h5⟩
  | .tup _, h => h.elim
theorem NiceL.okw {d : Nat} : ∀ (ts : List T), NiceL d ts → T.okws ts
  | [], _ => True.intro
  | t :: ts, h => ⟨Nice.okw t h.1, NiceL.okw ts h.2⟩
end
theorem app_len (x y : Str) : (x ++ y).length = x.length + y.length := by
  rw [← tx_ts x, ← tx_ts y, app_tx, tx_len, tx_len, tx_len, List.length_append]
theorem int_len {i : Int} (h : -(10 ^ 12) ≤ i ∧ i ≤ 10 ^ 12) : (Str.ofString (toString i)).length ≤ 14 := by
  rw [ofString_len]
  have z : ∀ m : Nat, m ≤ 10 ^ 12 → (Nat.repr m).length ≤ 13 := fun m hm => (Nat.length_repr_le_iff (by decide)).mpr (Nat.lt_of_le_of_lt hm (by decide))
  cases i with
  | ofNat m =>
    have hm : m ≤ 10 ^ 12 := by
      have := h.2
      have e : (Int.ofNat m) = (m : Int) := rfl
      omega
    exact Nat.le_trans (z m hm) (by decide)
  | negSucc m =>
    have hm : m + 1 ≤ 10 ^ 12 := by
      have := h.1
      have e : Int.negSucc m = -((m : Int) + 1) := by omega
      omega
    show ("-" ++ Nat.repr (m + 1)).length ≤ 14
    rw [String.length_append]
    have h1 : ("-" : String).length = 1 := by decide
    have := z _ hm
    omega
theorem quoted_len {x : List Nat} (h : x.length ≤ 30) : (quoted x).length ≤ 100 := by
  unfold quoted
  rw [app_len, app_len]
  have h1 := replace_len (tx x) (Str.ofString "'") (Str.ofString "''")
  have h2 : (Str.ofString "''").length = 2 := by decide +kernel
  have h3 : (Str.ofString "'").length = 1 := by decide +kernel
  have hx : (tx x).length = x.length := tx_len x
  rw [hx, h2] at h1
  omega
theorem join_len (g : Str) (ys : List Str) : (Txt.join g ys).length ≤ (ys.map (·.length)).sum + ys.length * g.length := by
  show (glued g ys).length ≤ _
  rw [size_glued]
  have : (ys.length - 1) * g.length ≤ ys.length * g.length := Nat.mul_le_mul_right _ (Nat.sub_le _ _)
  omega
theorem look_self {ws : List Str} : ∀ {ks : List (List Nat)}, ks.Nodup → ks.length = ws.length → ks.map (fun k => lookS k ks ws) = ws := by
  induction ws with
  | nil =>
    intro ks _ h
    cases ks with
    | nil => rfl
    | cons k ks => cases h
  | cons w ws ih =>
    intro ks hn h
    cases ks with
    | nil => cases h
    | cons k ks =>
      obtain ⟨h1, h2⟩ := List.nodup_cons.mp hn
      have e1 : (lookS k (k :: ks) (w :: ws)) = w := by show (if k = k then w else _) = w; rw [if_pos rfl]
      rw [List.map_cons, e1]
      congr 1
      have e2 : ks.map (fun k' => lookS k' (k :: ks) (w :: ws)) = ks.map (fun k' => lookS k' ks ws) := List.map_congr_left fun k' hk' => by
        show (if k = k' then w else lookS k' ks ws) = lookS k' ks ws
        rw [if_neg fun z => h1 (by rw [z]; exact hk')]
      rw [e2]
      exact ih h2 (by simpa using h)
theorem sum_add (f g : List Nat → Nat) : ∀ ks : List (List Nat), (ks.map fun k => f k + g k).sum = (ks.map f).sum + (ks.map g).sum
  | [] => rfl
  | k :: ks => by simp only [List.map_cons, List.sum_cons, sum_add f g ks]; omega
theorem sum_le {f : List Nat → Nat} {c : Nat} : ∀ {ks : List (List Nat)}, (∀ k ∈ ks, f k ≤ c) → (ks.map f).sum ≤ ks.length * c
  | [], _ => Nat.zero_le _
  | k :: ks, h => by
    have h1 := h k List.mem_cons_self
    have h2 := sum_le (ks := ks) fun k' hk' => h k' (List.mem_cons_of_mem _ hk')
    simp only [List.map_cons, List.sum_cons, List.length_cons, Nat.succ_mul]
    omega
/-- what stands in a record's text, in all -/
theorem dic_sum {ks : List (List Nat)} {ws : List Str} (hn : ks.Nodup) (hl : ks.length = ws.length) (hk : ∀ k ∈ ks, k.length ≤ 12) :
    (((sortK ks).map fun k => tx k ++ Str.ofString ": " ++ lookS k ks ws).map (·.length)).sum ≤ ks.length * 14 + (ws.map (·.length)).sum := by
  have h2 : (Str.ofString ": ").length = 2 := by decide +kernel
  rw [List.map_map]
  have e : ((·.length) ∘ fun k => tx k ++ Str.ofString ": " ++ lookS k ks ws) = fun k => (k.length + 2) + (lookS k ks ws).length := by
    funext k
    show (tx k ++ Str.ofString ": " ++ lookS k ks ws).length = _
    rw [app_len, app_len, tx_len, h2]
  rw [e, ((sortK_perm ks).map _).sum_nat, sum_add]
  have h3 : (ks.map fun k => (lookS k ks ws).length).sum = (ws.map (·.length)).sum := by
    have := look_self hn hl
    calc (ks.map fun k => (lookS k ks ws).length).sum = ((ks.map fun k => lookS k ks ws).map (·.length)).sum := by rw [List.map_map]; rfl
      _ = _ := by rw [this]
  rw [h3]
  have h4 : (ks.map fun k => k.length + 2).sum ≤ ks.length * 14 := sum_le fun k hk' => by have := hk k hk'; omega
  omega
theorem split_sum (x y : Str) : ((Txt.split x y).map (·.length)).sum ≤ x.length := by
  unfold Txt.split
  split
  · simp
  · split
    · simp
    · have hy : (glued y (partsBetween x (occurrences x y 0 x.length (x.length + 1)) y.length)).length = x.length := by rw [StrLaws.glued_between_self]
      rw [size_glued] at hy
      omega
theorem wrTs_len (ts : List T) : (wrTs ts).length = ts.length := by rw [wrTs_map, List.length_map]
mutual
theorem wr_len : ∀ (t : T), T.okw t → (wrT t).length + 20 ≤ 120 * T.sz t
  | .non, _ => by decide +kernel
  | .bl b, _ => by cases b <;> decide +kernel
  | .int i, h => by
    have := int_len h
    show (Str.ofString (toString i)).length + 20 ≤ 120 * 1
    omega
  | .str x, h => by
    have := quoted_len h
    show (quoted x).length + 20 ≤ 120 * 1
    omega
  | .lst ts, h => by
    have h1 := wrs_len ts h
    have h2 := join_len (Str.ofString ", ") (wrTs ts)
    have h3 : (Str.ofString ", ").length = 2 := by decide +kernel
    have h4 : (Str.ofString "[").length = 1 := by decide +kernel
    have h5 : (Str.ofString "]").length = 1 := by decide +kernel
    have e : T.sz (.lst ts) = T.szs ts + 1 := rfl
    show (Str.ofString "[" ++ Txt.join (Str.ofString ", ") (wrTs ts) ++ Str.ofString "]").length + 20 ≤ _
    rw [app_len, app_len, h4, h5, e]
    rw [h3, wrTs_len] at h2
    omega
  | .dic ks ts, h => by
    obtain ⟨hn, _, hl, hk, hw⟩ := h
    have h1 := wrs_len ts hw
    have h0 := dic_sum (ws := wrTs ts) hn (by rw [wrTs_len]; exact hl) hk
    have h2 := join_len (Str.ofString ", ") ((sortK ks).map fun k => tx k ++ Str.ofString ": " ++ lookS k ks (wrTs ts))
    have h3 : (Str.ofString ", ").length = 2 := by decide +kernel
    have h4 : (Str.ofString "{").length = 1 := by decide +kernel
    have h5 : (Str.ofString "}").length = 1 := by decide +kernel
    have e : T.sz (.dic ks ts) = T.szs ts + 1 := rfl
    show (Str.ofString "{" ++ Txt.join (Str.ofString ", ") ((sortK ks).map fun k => tx k ++ Str.ofString ": " ++ lookS k ks (wrTs ts)) ++ Str.ofString "}").length + 20 ≤ _
    rw [app_len, app_len, h4, h5, e]
    have h6 : (sortK ks).length = ks.length := (sortK_perm ks).length_eq
    rw [h3, List.length_map, h6] at h2
    omega
  | .tup _, h => h.elim
theorem wrs_len : ∀ (ts : List T), T.okws ts → ((wrTs ts).map (·.length)).sum + 20 * ts.length ≤ 120 * T.szs ts
  | [], _ => Nat.zero_le _
  | t :: ts, h => by
    have h1 := wr_len t h.1
    have h2 := wrs_len ts h.2
    have e : T.szs (t :: ts) = T.sz t + T.szs ts := rfl
    show (wrT t).length + ((wrTs ts).map (·.length)).sum + 20 * (ts.length + 1) ≤ _
    rw [e]
    omega
end
theorem logs_ok13 {b : Int} (h1 : -(10 ^ 12) ≤ b) (h2 : b ≤ 10 ^ 12) : b.natAbs.log2 < 1920 := by
  by_cases h : b.natAbs = 0
  · rw [h]; decide
  · refine (Nat.log2_lt h).mpr (Nat.lt_of_le_of_lt (show b.natAbs ≤ 10 ^ 12 by omega) (Nat.lt_of_lt_of_le (show 10 ^ 12 < 2 ^ 40 by decide) (Nat.pow_le_pow_right (by decide) (by decide))))
theorem of_app (a b : String) : Str.ofString (a ++ b) = Str.ofString a ++ Str.ofString b := by
  have e : ∀ s : String, Str.ofString s = tx (s.toList.map Char.toNat) := fun s => Str.ofString_eq_toList s
  rw [e, e, e, app_tx, String.toList_append, List.map_append]
theorem int_text (i : Int) : Str.ofString (toString i) = tx (List.replicate (if i < 0 then 1 else 0 : Int).toNat 45) ++ Str.ofString (toString (if i < 0 then -i else i)) := by
  have n0 : tx (List.replicate 0 45) ++ Str.ofString (toString i) = Str.ofString (toString i) := by
    rw [← tx_ts (Str.ofString (toString i)), app_tx]; rfl
  by_cases h : i < 0
  · rw [if_pos h, if_pos h]
    cases i with
    | ofNat m => exact absurd h (by have e : Int.ofNat m = (m : Int) := rfl; omega)
    | negSucc m =>
      show Str.ofString ("-" ++ Nat.repr (m + 1)) = tx [45] ++ Str.ofString (Nat.repr (m + 1))
      rw [of_app]
      have : Str.ofString "-" = tx [45] := by decide +kernel
      rw [this]
  · rw [if_neg h, if_neg h]
    exact n0.symm
end L2

namespace L2
open PySem PySem.Spec PyProof.Rows
/-! ### list(range(n)) -/
theorem bt_range : bootBuiltins "range" = some (.type "range") := by decide +kernel
def rngO (p : Addr) (n : Int) : HO := .ext fun h => ∃ t u v, IsRange h p 0 n 1 t u v
section
variable {X : Cx}
theorem call_range : CallR X (.type "range") (fun xs H Q => ∃ n, xs = [.int n] ∧ ∀ p, H p = none → Q (.ref p) (upd H p (rngO p n))) := by
  intro pins s σ H xs us Q I r h
  obtain ⟨n, rfl, q⟩ := h
  obtain ⟨u, rfl, t, rfl⟩ := vals1 r
  refine call_range_1 ?_
  refine ⟨.ref s.heap.objs.size, _, I.laid (t' := s.toks + 1 + 1) (fun b o e => Heap.get?_push_of_some _ e) (Nat.le_refl _) (o := rngO s.heap.objs.size n) ?_, rfl, q _ (I.hok.fresh (Nat.le_refl _))⟩
  exact ⟨⟨_, _, _, Heap.get?_push_size _ rfl⟩, ⟨_, Heap.get?_push_size _ rfl⟩, fun h1 h2 ⟨t, u, v, e⟩ k => ⟨t, u, v, k _ e⟩⟩
theorem ints_vals : ∀ (us : List Value) (k : Nat), (∀ (j : Nat) (v : Value), us[j]? = some v → ∃ t, v = .int (0 + ((k + j : Nat) : Int) * 1) t) → Vals ((List.range' k us.length).map fun (i : Nat) => V.int (i : Int)) us
  | [], _, _ => .nil
  | u :: us, k, h => by
    obtain ⟨t, e⟩ := h 0 u rfl
    subst e
    rw [List.length_cons, List.range'_succ, List.map_cons]
    refine .cons ⟨t, ?_⟩ (ints_vals us (k + 1) fun j v hv => ?_)
    · show Value.int _ t = Value.int _ t
      congr 1
      omega
    · obtain ⟨t', e'⟩ := h (j + 1) v (by simpa using hv)
      exact ⟨t', by rw [e']; congr 2; omega⟩
theorem call_list_r (hc : X.calm = true) : CallR X (.type "list") (fun xs H Q => ∃ p n, xs = [.ref p] ∧ H p = some (rngO p n) ∧ 0 ≤ n ∧ n ≤ 100000 ∧ ∀ l, H l = none → Q (.ref l) (upd H l (.lst ((List.range n.toNat).map fun (i : Nat) => V.int (i : Int))))) := by
  intro pins s σ H xs us Q I r h
  obtain ⟨p, n, rfl, hp, n0, n1, q⟩ := h
  obtain ⟨u, rfl, rx⟩ := vals1 r
  cases rx
  obtain ⟨⟨t, u, v, hr⟩, _⟩ := (show ObjOk X.prog X.w H s.heap p (rngO p n) from I.hok p _ hp)
  refine call_list_range (n := n.toNat) (I.ok.hd hc) hr (small_one (by omega) (by omega) (by omega) (by omega)) ?_ (by omega) fun h' tk acc c' hk hg hi => ?_
  · rw [rangeSize_one]; split <;> omega
  refine ⟨.ref s.heap.objs.size, _, I.laid (t' := tk) hk (Nat.le_refl _) (o := .lst ((List.range n.toNat).map fun (i : Nat) => V.int (i : Int))) ?_, rfl, q _ (I.hok.fresh (Nat.le_refl _))⟩
  have hl : acc.toList.length = n.toNat := by rw [Array.length_toList]; exact hi.1
  refine ⟨by rw [List.length_map, List.length_range, sizeLine_eq]; omega, acc.toList, c', ?_, by simpa using hg⟩
  have z := ints_vals acc.toList 0 fun j v e => by
    obtain ⟨t', e'⟩ := hi.2 j v (by rw [← Array.getElem?_toList]; exact e)
    exact ⟨t', by rw [e']; congr 2; omega⟩
  rw [hl] at z
  rw [List.range_eq_range']
  exact z
/-- one way or the other -/
def tEither (t u : TE) : TE := fun σ H Q => t σ H Q ∨ u σ H Q
theorem pe_either {e : Expr} {t u : TE} (h1 : PE X e t) (h2 : PE X e u) : PE X e (tEither t u) := fun pins s σ H Q I h => h.elim (h1 pins s σ H Q I) (h2 pins s σ H Q I)
end
end L2

namespace L2
open PySem PySem.Spec PyProof.Rows
/-! ### the spots of a thing -/
def scv : T → V
  | .int i => .int i
  | .str x => .str (tx x)
  | _ => .non
def stepsT : T → List T
  | .lst us => (List.range us.length).map fun (i : Nat) => T.int (i : Int)
  | .dic ks _ => (sortK ks).map T.str
  | _ => []
def kid : T → T → T
  | .lst us, .int i => us.getD i.toNat .non
  | .dic ks us, .str k => lookT k ks us
  | _, _ => .non
def pth : Nat → T → List (List T)
  | 0, _ => []
  | n + 1, t => [] :: ((stepsT t).map fun s => (pth n (kid t s)).map (s :: ·)).flatten
def Sc (t : T) : Prop := (∃ i, t = .int i) ∨ ∃ x, t = .str x
theorem Sc.rep {H : Hp} {t : T} (h : Sc t) : Rep H (scv t) t := by
  rcases h with ⟨i, rfl⟩ | ⟨x, rfl⟩ <;> rfl
theorem Sc.reps {H : Hp} : ∀ {ts : List T}, (∀ t ∈ ts, Sc t) → Reps H (ts.map scv) ts
  | [], _ => rfl
  | t :: ts, h => ⟨scv t, ts.map scv, rfl, (h t List.mem_cons_self).rep, Sc.reps fun u hu => h u (List.mem_cons_of_mem _ hu)⟩
theorem Sc.of_rep {H : Hp} {v : V} {t : T} (h : Sc t) (hr : Rep H v t) : v = scv t := by
  rcases h with ⟨i, rfl⟩ | ⟨x, rfl⟩ <;> exact hr
theorem steps_sc (t : T) : ∀ s ∈ stepsT t, Sc s := by
  intro s hs
  cases t with
  | lst us =>
    obtain ⟨i, _, rfl⟩ := List.mem_map.mp hs
    exact .inl ⟨_, rfl⟩
  | dic ks us =>
    obtain ⟨i, _, rfl⟩ := List.mem_map.mp hs
    exact .inr ⟨_, rfl⟩
  | _ => cases hs
theorem mem_pth {n : Nat} {t : T} {p : List T} (h : p ∈ pth (n + 1) t) : p = [] ∨ ∃ s r, p = s :: r ∧ s ∈ stepsT t ∧ r ∈ pth n (kid t s) := by
  have h' : p ∈ [] :: ((stepsT t).map fun s => (pth n (kid t s)).map (s :: ·)).flatten := h
  rcases List.mem_cons.mp h' with z | z
  · exact .inl z
  · obtain ⟨l, hl, hp⟩ := List.mem_flatten.mp z
    obtain ⟨s, hs, rfl⟩ := List.mem_map.mp hl
    obtain ⟨r, hr, rfl⟩ := List.mem_map.mp hp
    exact .inr ⟨s, r, rfl, hs, hr⟩
theorem pth_sc : ∀ (n : Nat) (t : T) (p : List T), p ∈ pth n t → (∀ s ∈ p, Sc s) ∧ p.length < n
  | 0, _, _, h => nomatch h
  | n + 1, t, p, h => by
    rcases mem_pth h with rfl | ⟨s, r, rfl, hs, hr⟩
    · exact ⟨fun _ h => (nomatch h), by simp⟩
    · obtain ⟨h1, h2⟩ := pth_sc n _ r hr
      refine ⟨fun u hu => ?_, by simp only [List.length_cons]; omega⟩
      rcases List.mem_cons.mp hu with z | z
      · rw [z]; exact steps_sc t s hs
      · exact h1 u z
theorem len_flat (f : T → List (List T)) : ∀ (l : List T), ((l.map fun s => (f s).map (s :: ·)).flatten).length = (l.map fun s => (f s).length).sum
  | [] => rfl
  | s :: l => by simp only [List.map_cons, List.flatten_cons, List.length_append, List.sum_cons, len_flat f l, List.length_map]
theorem sum_mono {f g : T → Nat} : ∀ {l : List T}, (∀ s ∈ l, f s ≤ g s) → (l.map f).sum ≤ (l.map g).sum
  | [], _ => Nat.le_refl _
  | s :: l, h => by
    have h1 := h s List.mem_cons_self
    have h2 := sum_mono (l := l) fun u hu => h u (List.mem_cons_of_mem _ hu)
    simp only [List.map_cons, List.sum_cons]
    omega
theorem szs_sum : ∀ (us : List T), (us.map T.sz).sum = T.szs us
  | [] => rfl
  | t :: us => by rw [List.map_cons, List.sum_cons, szs_sum us]; rfl
theorem getD_all : ∀ (us : List T) (d : T), (List.range us.length).map (fun i => us.getD i d) = us := by
  intro us d
  apply List.ext_getElem?
  intro i
  rw [List.getElem?_map]
  by_cases h : i < us.length
  · rw [List.getElem?_range h, Option.map_some, List.getD_eq_getElem?_getD, List.getElem?_eq_getElem h]; rfl
  · rw [List.getElem?_eq_none (by simp; omega), List.getElem?_eq_none (by omega)]; rfl
theorem lookT_self {us : List T} : ∀ {ks : List (List Nat)}, ks.Nodup → ks.length = us.length → ks.map (fun k => lookT k ks us) = us := by
  induction us with
  | nil =>
    intro ks _ h
    cases ks with
    | nil => rfl
    | cons k ks => cases h
  | cons w ws ih =>
    intro ks hn h
    cases ks with
    | nil => cases h
    | cons k ks =>
      obtain ⟨h1, h2⟩ := List.nodup_cons.mp hn
      have e1 : (lookT k (k :: ks) (w :: ws)) = w := by show (if k = k then w else _) = w; rw [if_pos rfl]
      rw [List.map_cons, e1]
      congr 1
      have e2 : ks.map (fun k' => lookT k' (k :: ks) (w :: ws)) = ks.map (fun k' => lookT k' ks ws) := List.map_congr_left fun k' hk' => by
        show (if k = k' then w else lookT k' ks ws) = lookT k' ks ws
        rw [if_neg fun z => h1 (by rw [z]; exact hk')]
      rw [e2]
      exact ih h2 (by simpa using h)
theorem kids_sum (t : T) (h : T.few t) : ((stepsT t).map fun s => T.sz (kid t s)).sum + 1 ≤ T.sz t := by
  cases t with
  | lst us =>
    have e : ((stepsT (.lst us)).map fun s => T.sz (kid (.lst us) s)) = us.map T.sz := by
      show (((List.range us.length).map fun (i : Nat) => T.int (i : Int)).map fun s => T.sz (kid (.lst us) s)) = _
      rw [List.map_map]
      conv => rhs; rw [← getD_all us .non]
      rw [List.map_map]
      rfl
    rw [e, szs_sum]
    exact Nat.le_refl _
  | dic ks us =>
    obtain ⟨nk, _, hl, _⟩ := h
    have e : ((stepsT (.dic ks us)).map fun s => T.sz (kid (.dic ks us) s)) = (sortK ks).map fun k => T.sz (lookT k ks us) := by
      show (((sortK ks).map T.str).map fun s => T.sz (kid (.dic ks us) s)) = _
      rw [List.map_map]
      rfl
    rw [e, ((sortK_perm ks).map _).sum_nat]
    have e2 : (ks.map fun k => T.sz (lookT k ks us)) = us.map T.sz := by
      conv => rhs; rw [← lookT_self nk hl]
      rw [List.map_map]
      rfl
    rw [e2, szs_sum]
    exact Nat.le_refl _
  | tup _ => exact h.elim
  | _ => exact Nat.le_refl _
theorem few_kid {t s : T} (h : T.few t) (hs : s ∈ stepsT t) : T.few (kid t s) ∧ T.dep (kid t s) < T.dep t ∧ T.sz (kid t s) < T.sz t := by
  cases t with
  | lst us =>
    obtain ⟨i, hi, rfl⟩ := List.mem_map.mp hs
    have hi := List.mem_range.mp hi
    have e : kid (.lst us) (T.int (i : Int)) = us[i] := by
      show us.getD (i : Int).toNat .non = _
      rw [Int.toNat_natCast, List.getD_eq_getElem?_getD, List.getElem?_eq_getElem hi]; rfl
    rw [e]
    have hm : us[i] ∈ us := List.getElem_mem hi
    exact ⟨T.fews_mem h.2 hm, Nat.lt_succ_of_le (T.deps_le hm), Nat.lt_succ_of_le (T.szs_le hm)⟩
  | dic ks us =>
    obtain ⟨k, hk, rfl⟩ := List.mem_map.mp hs
    obtain ⟨nk, h64, hl, hf⟩ := h
    have hm : lookT k ks us ∈ us := lookT_mem (mem_sortK.mp hk) hl
    exact ⟨T.fews_mem hf hm, Nat.lt_succ_of_le (T.deps_le hm), Nat.lt_succ_of_le (T.szs_le hm)⟩
  | _ => cases hs
theorem pth_len : ∀ (n : Nat) (t : T), T.few t → (pth n t).length ≤ T.sz t
  | 0, _, _ => Nat.zero_le _
  | n + 1, t, h => by
    have e : (pth (n + 1) t).length = ((stepsT t).map fun s => (pth n (kid t s)).length).sum + 1 := by
      show (((stepsT t).map fun s => (pth n (kid t s)).map (s :: ·)).flatten).length + 1 = _
      rw [len_flat]
    have h1 : ((stepsT t).map fun s => (pth n (kid t s)).length).sum ≤ ((stepsT t).map fun s => T.sz (kid t s)).sum := sum_mono fun s hs => pth_len n _ (few_kid h hs).1
    have h2 := kids_sum t h
    omega
/-- what stands so far: the first i steps -/
def pthTo (n : Nat) (t : T) (i : Nat) : List (List T) := [] :: (((stepsT t).take i).map fun s => (pth n (kid t s)).map (s :: ·)).flatten
theorem pthTo_all (n : Nat) (t : T) : pthTo n t (stepsT t).length = pth (n + 1) t := by
  unfold pthTo
  rw [List.take_length]; rfl
theorem pthTo_succ {n : Nat} {t s : T} {i : Nat} (h : (stepsT t)[i]? = some s) : pthTo n t (i + 1) = pthTo n t i ++ (pth n (kid t s)).map (s :: ·) := by
  unfold pthTo
  rw [take_succ_of h]
  simp
theorem pthTo_len {n : Nat} {t : T} (i : Nat) : (pthTo n t i).length ≤ (pth (n + 1) t).length := by
  show _ ≤ ([] :: ((stepsT t).map fun s => (pth n (kid t s)).map (s :: ·)).flatten).length
  unfold pthTo
  rw [List.length_cons, List.length_cons, len_flat, len_flat]
  have e : ((stepsT t).map fun s => (pth n (kid t s)).length).sum = (((stepsT t).take i).map fun s => (pth n (kid t s)).length).sum + (((stepsT t).drop i).map fun s => (pth n (kid t s)).length).sum := by
    conv => lhs; rw [← List.take_append_drop i (stepsT t)]
    rw [List.map_append, List.sum_append]
  omega
/-! ### lists laid out -/
def Lay (H : Hp) : List Addr → List (List V) → Prop
  | [], [] => True
  | p :: ps, v :: vs => H p = some (.lst v) ∧ Lay H ps vs
  | _, _ => False
theorem Lay.same {H H' : Hp} (g : Same H H') : ∀ {ps : List Addr} {vs : List (List V)}, Lay H ps vs → Lay H' ps vs
  | [], [], _ => True.intro
  | _ :: _, _ :: _, h => ⟨g _ _ h.1, Lay.same g h.2⟩
  | [], _ :: _, h => h.elim
  | _ :: _, [], h => h.elim
theorem Lay.away {H : Hp} {a : Addr} {o : HO} : ∀ {ps : List Addr} {vs : List (List V)}, a ∉ ps → Lay H ps vs → Lay (upd H a o) ps vs
  | [], [], _, _ => True.intro
  | p :: _, _ :: _, hn, h => ⟨by rw [upd_ne fun z => hn (by rw [← z]; exact List.mem_cons_self)]; exact h.1, Lay.away (fun z => hn (List.mem_cons_of_mem _ z)) h.2⟩
  | [], _ :: _, _, h => h.elim
  | _ :: _, [], _, h => h.elim
theorem Lay.append {H : Hp} {qs : List Addr} {ws : List (List V)} (h' : Lay H qs ws) : ∀ {ps : List Addr} {vs : List (List V)}, Lay H ps vs → Lay H (ps ++ qs) (vs ++ ws)
  | [], [], _ => h'
  | _ :: _, _ :: _, h => ⟨h.1, Lay.append h' h.2⟩
  | [], _ :: _, h => h.elim
  | _ :: _, [], h => h.elim
theorem Lay.length {H : Hp} : ∀ {ps : List Addr} {vs : List (List V)}, Lay H ps vs → ps.length = vs.length
  | [], [], _ => rfl
  | _ :: _, _ :: _, h => by rw [List.length_cons, List.length_cons, Lay.length h.2]
  | [], _ :: _, h => h.elim
  | _ :: _, [], h => h.elim
theorem Lay.get {H : Hp} : ∀ {ps : List Addr} {vs : List (List V)} {i : Nat} {p : Addr}, Lay H ps vs → ps[i]? = some p → ∃ v, vs[i]? = some v ∧ H p = some (.lst v)
  | [], [], i, p, _, e => by simp at e
  | q :: ps, v :: vs, 0, p, h, e => by
    simp at e
    exact ⟨v, rfl, by rw [← e]; exact h.1⟩
  | q :: ps, v :: vs, i + 1, p, h, e => by
    obtain ⟨w, e1, e2⟩ := Lay.get (i := i) h.2 (by simpa using e)
    exact ⟨w, by simpa using e1, e2⟩
  | [], _ :: _, _, _, h, _ => h.elim
  | _ :: _, [], _, _, h, _ => h.elim
theorem Lay.there {H : Hp} {p : Addr} : ∀ {ps : List Addr} {vs : List (List V)}, Lay H ps vs → p ∈ ps → ∃ o, H p = some o
  | [], _, _, h => nomatch h
  | q :: ps, v :: vs, h, hm => by
    rcases List.mem_cons.mp hm with z | z
    · exact ⟨_, by rw [z]; exact h.1⟩
    · exact Lay.there h.2 z
  | _ :: _, [], h, _ => h.elim
/-- one of them written anew -/
theorem Lay.put {H : Hp} {w : List V} : ∀ {ps : List Addr} {vs : List (List V)} {i : Nat} {p : Addr}, ps.Nodup → Lay H ps vs → ps[i]? = some p → Lay (upd H p (.lst w)) ps (vs.set i w)
  | [], [], i, p, _, _, e => by simp at e
  | q :: ps, v :: vs, 0, p, hn, h, e => by
    simp at e
    subst e
    exact ⟨upd_same, Lay.away (List.nodup_cons.mp hn).1 h.2⟩
  | q :: ps, v :: vs, i + 1, p, hn, h, e => by
    have e' : ps[i]? = some p := by simpa using e
    have hne : q ≠ p := fun z => (List.nodup_cons.mp hn).1 (by rw [z]; exact List.mem_of_getElem? e')
    exact ⟨by rw [upd_ne hne]; exact h.1, Lay.put (List.nodup_cons.mp hn).2 h.2 e'⟩
  | [], _ :: _, _, _, _, h, _ => h.elim
  | _ :: _, [], _, _, _, h, _ => h.elim
theorem set_step {α : Type} (f : α → α) : ∀ (l : List α) (i : Nat) (x : α), l[i]? = some x → ((l.take i).map f ++ l.drop i).set i (f x) = (l.take (i + 1)).map f ++ l.drop (i + 1)
  | [], _, _, h => by simp at h
  | a :: l, 0, x, h => by
    simp at h
    subst h
    rfl
  | a :: l, i + 1, x, h => by
    have h' : l[i]? = some x := by simpa using h
    have := set_step f l i x h'
    simp only [List.take_succ_cons, List.map_cons, List.drop_succ_cons, List.cons_append, List.set_cons_succ]
    rw [this]
theorem Lay.rep {H : Hp} : ∀ {ps : List Addr} {pp : List (List T)}, (∀ p ∈ pp, ∀ s ∈ p, Sc s) → Lay H ps (pp.map (·.map scv)) → Reps H (ps.map V.ref) (pp.map T.lst)
  | [], [], _, _ => rfl
  | a :: ps, p :: pp, hs, h => ⟨.ref a, ps.map V.ref, rfl, ⟨a, p.map scv, rfl, h.1, Sc.reps (hs p List.mem_cons_self)⟩, Lay.rep (fun q hq => hs q (List.mem_cons_of_mem _ hq)) h.2⟩
  | [], _ :: _, _, h => h.elim
  | _ :: _, [], _, h => h.elim
theorem atI_nn {α : Type} {xs : List α} {i : Nat} {x : α} (h : xs[i]? = some x) : atI xs (i : Int) = some x := atI_nat h
/-- a step gone: of a row by its place, of a record by its name -/
theorem sub_kid {K : PySem.W.Frag} {σ : St} {H : Hp} {Q : VK} {i j : Nat} {v : V} {t s : T} (hi : σ[i]? = some (some v)) (hj : σ[j]? = some (some (scv s))) (hv : Rep H v t) (hf : T.few t) (hs : s ∈ stepsT t) (q : ∀ c, Rep H c (kid t s) → Q c H) :
    tEither (tOp (rIxL K) (tVar i) (tVar j)) (tDGet (tVar i) (tVar j)) σ H Q := by
  cases t with
  | lst us =>
    obtain ⟨m, hm, rfl⟩ := List.mem_map.mp hs
    have hm := List.mem_range.mp hm
    obtain ⟨a, xs, rfl, ha, hx⟩ := hv
    have hml : m < xs.length := by rw [hx.length]; exact hm
    obtain ⟨t', ht', hr'⟩ := hx.get (i := m) (v := xs[m]) (by simp [hml])
    have e : kid (.lst us) (T.int (m : Int)) = t' := by
      show us.getD (m : Int).toNat .non = _
      rw [Int.toNat_natCast, List.getD_eq_getElem?_getD, ht']; rfl
    refine .inl ⟨_, hi, _, hj, rIxL_i (SqL.of ha) (v := xs[m]) (atI_nn (by simp [hml])) (q _ ?_)⟩
    rw [e]; exact hr'
  | dic ks us =>
    obtain ⟨k, hk, rfl⟩ := List.mem_map.mp hs
    obtain ⟨a, ps, rfl, ha, hkk, hx⟩ := hv
    obtain ⟨nk, h64, hle, hf⟩ := hf
    obtain ⟨c, hc1, hc2⟩ := Rep.at_name nk hkk hx (mem_sortK.mp hk)
    exact .inr ⟨_, hi, _, hj, a, c, rfl, .inl ⟨ps, Sum.inr (tx k), .inl ha, rfl, hc1.symm⟩, q c hc2⟩
  | _ => cases hs
end L2

namespace K34
open PySem L2
local macro_rules | `(tactic| walk_at "rd") => `(tactic| simp only [cxOf_K, nox_K, compCx_K, tSeq, tNext, tAsg, gName, tRet, tRetN, tIfS, tDrop, tOp, tUn, tVar, tC, tCall, tCons, tNil, tTest, tB, tAnd, tOr, tNot, tAndV, tOrV, tNotV, tIf, tCB, tBM, tComp, tTrue, tPart, tNoPart, tSl, tChain, tIsN, tNotN, tLst, tTup, tFor_eq, sDPut, tDNewK, tNever, rI0, rI, rU, rEq, rNe, rMulS, rInC, iRng1, iStr, CDiv, CMul, CPow, scal, List.append_nil, List.getElem?_cons_zero, List.getElem?_cons_succ, List.set_cons_zero, List.set_cons_succ, List.map_cons, List.map_nil, List.length_cons, List.length_nil, sizeLine_eq, Nat.reduceAdd, Nat.reduceLeDiff, Option.join_some, Option.join_none, Option.some.injEq, V.int.injEq, V.str.injEq, V.bl.injEq, V.ref.injEq, V.ty.injEq, List.cons.injEq, and_true, true_and, and_self, exists_eq_left', exists_eq_left, exists_and_left, exists_and_right, decide_eq_true_eq, Bool.not_eq_eq_eq_not, Bool.not_true, Bool.not_false, decide_eq_false_iff_not, Int.reduceLT, Int.reduceLE, Int.reduceNeg, Int.reducePow, Int.reduceAdd, Int.reduceSub, Int.reduceMul, Int.reduceToNat, natAbs10, Nat.reduceLT, Nat.reducePow, or_true, true_or, if_true, if_false, Bool.false_eq_true, ite_true, ite_false, reduceCtorEq])
seal L2.PSs L2.PS L2.PE L2.PT L2.PW L2.PA L2.PI L2.PG L2.PGs L2.PPs L2.PTs

def top (i : Nat) : Stmt := PySem.Challenge.pw_cabinet_k34_spots.main.body.getD i (.Pass ⟨0, 0, 0, 0⟩)
abbrev sCell : Stmt := top 4
abbrev sNum : Stmt := top 8
/-! ### the drawn cells -/
def spCell (K : PySem.W.Frag) : Sp := fun vs H Q _ => ∃ (a : Addr) (ns : List Int) (k : Int), vs = [.ref a, .int k] ∧ SqL K H a (ns.map V.int) ∧ ns.length ≤ 63 ∧ 0 ≤ k ∧ k < 1000000 ∧ ∀ H', Same H H' → Q (.int (cellF ns k)) H'
theorem spCell_i {K : PySem.W.Frag} {H : Hp} {Q : VK} {E : XK} {a : Addr} {ns : List Int} {k : Int} (hS : SqL K H a (ns.map V.int)) (h63 : ns.length ≤ 63) (h0 : 0 ≤ k) (h1 : k < 1000000) (q : ∀ H', Same H H' → Q (.int (cellF ns k)) H') :
    spCell K [.ref a, .int k] H Q E := ⟨a, ns, k, rfl, hS, h63, h0, h1, q⟩
section
variable {P : Program} {w : World} {K : PySem.W.Frag} {mg : Str → Option Value} {base : Heap} {f : Addr} {fd : FuncData}
theorem scCell : FnScope ["_law_script", "_law_k", "_law_more"] ["_law_script", "_law_k"] (defScope sCell) := ⟨rfl, rfl, rfl, by decide +kernel, rfl, by decide +kernel, by decide +kernel⟩
theorem ok_cell (F : Fun K "_law_cell" "_law_cell" sCell f fd) (B : Bl mg) : FnOk P w K mg base CX0 1 f fd ["_law_script", "_law_k"] (spCell K) := by
  refine F.ok scCell (fun vs H Q E h => ?_) (fun cdv A outer s H vs Q E hr h => ?_)
  · obtain ⟨a, ns, k, rfl, _⟩ := h
    rfl
  obtain ⟨a, ns, k, rfl, hS, h63, h0, h1, q⟩ := h
  have nd := scCell.nd
  have hu0 := hr.units0
  refine ⟨_, (pss_cons (ps_set (i := 2) nd rfl (Or.inl rfl) (pe_op op_mul (pv 1) pe_int))
    (pss_cons (ps_if (pt_cmpR (op_ne_l hu0) (pv 0) (pe_lst pa_nil) (nomark _)) (pss_cons (ps_set (i := 2) nd rfl (Or.inl rfl) (pe_op op_add (pv 2) (pe_op op_mul (pe_op op_fdiv (pv 1) (pe_callB call_len_l rfl B.len bt_len (pa_cons (pv 0) pa_nil))) pe_int)))
    (pss_one (ps_set (i := 2) nd rfl (Or.inl rfl) (pe_op op_mod (pe_op op_add (pv 2) (pe_op op_mul (pe_ix ix_list (pv 0) (pe_op op_mod (pv 1) (pe_callB call_len_l rfl B.len bt_len (pa_cons (pv 0) pa_nil))) (fun _ _ => rfl)) pe_int)) pe_int)))) pss_nil)
    (pss_one (ps_ret (pe_op op_mod (pe_op op_add (pe_op op_fdiv (pe_op op_mul (pv 2) (pv 2)) pe_int) (pe_op op_mul pe_int (pv 2))) pe_int))))), ?_⟩
  rw [show start ["_law_script", "_law_k", "_law_more"] [.ref a, .int k] = [some (.ref a), some (.int k), none] from rfl]
  walk_at "rd"
  intro p hp
  have hS' := (same_new hp (.lst [])).seq hS
  refine rEqL_i hS' (SqL.of upd_same) (flat_ints ns) rfl ⟨_, rfl, ?_⟩
  rw [eqLs_nil]
  by_cases hn : ns = []
  · subst hn
    refine iteF ⟨.inl (by omega), ?_⟩
    exact q _ (same_new hp _)
  · have hpos : 0 < ns.length := List.length_pos_iff.mpr hn
    have e1 : (ns.map V.int).isEmpty = false := by cases ns with | nil => exact absurd rfl hn | cons _ _ => rfl
    rw [if_pos rfl, e1]
    have hl : (ns.map V.int).length = ns.length := List.length_map _
    have hm0 : 0 ≤ k % (ns.length : Int) := Int.emod_nonneg _ (by omega)
    have hm1 : k % (ns.length : Int) < ns.length := Int.emod_lt_of_pos _ (by omega)
    refine iteT ⟨ns.map V.int, hS', by rw [hl]; omega, ns.map V.int, hS', by rw [hl]; omega, ?_⟩
    rw [hl]
    refine rIxL_i hS' (atI_getD (d := .int 0) hm0 (by rw [hl]; exact hm1)) ⟨ns.getD (k % ns.length).toNat 0, ?_, .inl ?_, ?_⟩
    · simp [List.getD, List.getElem?_map]
    · generalize (k * 7919 + k / ns.length * 104729 + ns.getD (k % ns.length).toNat 0 * 48271) = z
      omega
    · have e : cellF ns k = _ := rfl
      have e2 : cellF ns k = (((k * 7919 + k / ns.length * 104729 + ns.getD (k % ns.length).toNat 0 * 48271) % 1000003 * ((k * 7919 + k / ns.length * 104729 + ns.getD (k % ns.length).toNat 0 * 48271) % 1000003) / 11 + 13 * ((k * 7919 + k / ns.length * 104729 + ns.getD (k % ns.length).toNat 0 * 48271) % 1000003)) % 1000003) := by
        unfold cellF; rw [if_neg hn]
      rw [← e2]
      exact q _ (same_new hp _)
/-! ### numbers -/
def spNum : Sp := fun vs H Q _ => ∃ (m : Int), vs = [.int m] ∧ 0 ≤ m ∧ m < 2000000 ∧ ∀ H', Same H H' → Q (.int (numF m)) H'
theorem scNum : FnScope ["_law_more"] ["_law_more"] (defScope sNum) := ⟨rfl, rfl, rfl, by decide +kernel, rfl, by decide +kernel, by decide +kernel⟩
theorem ok_num (F : Fun K "_law_number_by" "_law_number_by" sNum f fd) : FnOk P w K mg base CX0 1 f fd ["_law_more"] spNum := by
  refine F.ok scNum (fun vs H Q E h => ?_) (fun cdv A outer s H vs Q E hr h => ?_)
  · obtain ⟨m, rfl, _⟩ := h
    rfl
  obtain ⟨m, rfl, h0, h1, q⟩ := h
  have nd := scNum.nd
  refine ⟨_, (pss_cons (ps_if (pt_cmpR op_eq (pe_op op_mod (pv 0) pe_int) pe_int (nomark _)) (pss_one (ps_ret (pe_op op_sub (pe_op op_mod (pe_op op_fdiv (pv 0) pe_int) pe_int) pe_int))) pss_nil)
    (pss_cons (ps_if (pt_cmpR op_eq (pe_op op_mod (pv 0) pe_int) pe_int (nomark _)) (pss_one (ps_ret (pe_op op_sub (pe_op op_mod (pe_op op_pow (pv 0) pe_int) (pe_op op_add (pe_op op_mul pe_int (pe_op op_pow pe_int pe_int)) pe_int)) (pe_op op_pow pe_int pe_int)))) pss_nil)
    (pss_one (ps_ret (pe_ix ix_list (pe_lst (pa_cons (pe_op op_pow pe_int pe_int) (pa_cons (pe_un un_neg (pe_op op_pow pe_int pe_int)) (pa_cons (pe_op op_sub (pe_op op_pow pe_int pe_int) pe_int) (pa_cons pe_int (pa_cons pe_int (pa_cons (pe_un un_neg pe_int) (pa_cons (pe_op op_pow pe_int pe_int) (pa_cons pe_int pa_nil))))))))) (pe_op op_mod (pe_op op_fdiv (pv 0) pe_int) pe_int) (fun _ _ => rfl)))))), ?_⟩
  rw [show start ["_law_more"] [.int m] = [some (.int m)] from rfl]
  walk_at "rd"
  unfold numF at q
  split
  · rename_i hc
    rw [if_pos hc] at q
    exact q _ (Same.refl H)
  · rename_i hc
    rw [if_neg hc] at q
    split
    · rename_i hd
      rw [if_pos hd] at q
      exact ⟨by omega, q _ (Same.refl H)⟩
    · rename_i hd
      rw [if_neg hd] at q
      intro p hp
      refine rIxL_i (SqL.of upd_same) (atI_getD (d := .int 0) (by omega) (by simp only [List.length_cons, List.length_nil]; omega)) ?_
      have e : ([V.int 1000000000000, V.int (-1000000000000), V.int 999999999999, V.int 0, V.int 1, V.int (-1), V.int 100000000000, V.int 999] : List V).getD (m / 3 % 8).toNat (.int 0) = .int (([1000000000000, -1000000000000, 999999999999, 0, 1, -1, 100000000000, 999] : List Int).getD (m / 3 % 8).toNat 0) := by
        rcases (by omega : m / 3 % 8 = 0 ∨ m / 3 % 8 = 1 ∨ m / 3 % 8 = 2 ∨ m / 3 % 8 = 3 ∨ m / 3 % 8 = 4 ∨ m / 3 % 8 = 5 ∨ m / 3 % 8 = 6 ∨ m / 3 % 8 = 7) with e | e | e | e | e | e | e | e <;> rw [e] <;> rfl
      rw [e]
      exact q _ (same_new hp _)
end
section
variable {P : Program} {w : World} {K : PySem.W.Frag} {mg : Str → Option Value} {base : Heap} {f : Addr} {fd : FuncData}
/-! ### names -/
abbrev sName : Stmt := top 5
def spName : Sp := fun vs H Q _ => ∃ (m : Int), vs = [.int m] ∧ 0 ≤ m ∧ m < 2000000 ∧ ∀ H', Same H H' → Q (.str (tx (nameF m))) H'
theorem scName : FnScope ["_law_more", "_law_letters", "_law_size", "_law_at", "_law_word", "_law_rest"] ["_law_more"] (defScope sName) := ⟨rfl, rfl, rfl, by decide +kernel, rfl, by decide +kernel, by decide +kernel⟩
theorem ok_name (F : Fun K "_law_name_by" "_law_name_by" sName f fd) (B : Bl mg) : FnOk P w K mg base CX0 1 f fd ["_law_more"] spName := by
  refine F.ok scName (fun vs H Q E h => ?_) (fun cdv A outer s H vs Q E hr h => ?_)
  · obtain ⟨m, rfl, _⟩ := h
    rfl
  obtain ⟨m, rfl, h0, h1, q⟩ := h
  have nd := scName.nd
  refine ⟨_, (pss_cons (ps_set (i := 1) nd rfl (Or.inr rfl) pe_str)
    (pss_cons (ps_set (i := 2) nd rfl (Or.inl rfl) (pe_ix ix_list (pe_lst (pa_cons pe_int (pa_cons (pe_op op_add pe_int (pe_op op_mod (pe_op op_fdiv (pv 0) pe_int) pe_int)) (pa_cons (pe_op op_add pe_int (pe_op op_mod (pe_op op_fdiv (pv 0) pe_int) pe_int)) pa_nil)))) (pe_op op_mod (pv 0) pe_int) (fun _ _ => rfl)))
    (pss_cons (ps_if (pt_cmpR op_eq (pe_op op_mod (pe_op op_fdiv (pv 0) pe_int) pe_int) pe_int (nomark _)) (pss_cons (ps_set (i := 3) nd rfl (Or.inl rfl) (pe_op op_mod (pe_op op_fdiv (pv 0) pe_int) (pv 2)))
    (pss_cons (ps_set (i := 4) nd rfl (Or.inl rfl) (pe_op op_add_str (pe_op op_add_str (pe_op op_mul_str pe_str (pv 3)) (pe_ix ix_str (pv 1) (pe_op op_mod (pe_op op_fdiv (pv 0) pe_int) pe_int) (fun _ _ => rfl))) (pe_op op_mul_str pe_str (pe_op op_sub (pe_op op_sub (pv 2) (pv 3)) pe_int))))
    (pss_one (ps_ret (pv 4))))) pss_nil)
    (pss_cons (ps_set (i := 5) nd rfl (Or.inl rfl) (pe_bm PySem.F.plainAttrs_str PySem.F.slot_str_join PySem.F.type_str_join mt_join pe_str (pa_cons (pe_comp (own := ["_law_j"]) (F := [("_law_letters", 1), ("_law_more", 0)]) ⟨rfl, by with_unfolding_all rfl, by with_unfolding_all rfl, by with_unfolding_all rfl, (.cons rfl rfl rfl (.cons rfl rfl rfl .nil))⟩ rfl (pi_range1 rfl B.range (pa_cons (pe_op op_sub (pv 2) pe_int) pa_nil)) (fun _ _ _ _ => pg_name (i := 0) (by show (compN ["_law_j"] [("_law_letters", 1), ("_law_more", 0)]).Nodup; decide +kernel) rfl (Or.inl rfl)) (fun _ _ _ _ => pts_nil) (fun _ _ _ _ => (pe_ix ix_str (pv 1) (pe_op op_mod (pe_op op_add (pe_op op_fdiv (pv 2) pe_int) (pe_op op_mul (pv 0) (pe_op op_add pe_int (pe_op op_mod (pe_op op_fdiv (pv 2) pe_int) pe_int)))) pe_int) (fun _ _ => rfl)))) pa_nil)))
    (pss_one (ps_ret (pe_op op_add_str (pe_ix ix_str (pv 1) (pe_op op_mod (pe_op op_fdiv (pv 0) pe_int) pe_int) (fun _ _ => rfl)) (pv 5)))))))), ?_⟩
  rw [show start ["_law_more", "_law_letters", "_law_size", "_law_at", "_law_word", "_law_rest"] [.int m] = [some (.int m), none, none, none, none, none] from rfl]
  walk_at "rd"
  intro p hp
  obtain ⟨n1, n12⟩ := sizF_in m
  refine rIxL_i (SqL.of upd_same) (sizF_at m) ?_
  simp only [ts_a, rep_one, of_nil]
  unfold nameF at q
  generalize sizF m = n at *
  split
  · rename_i hc
    rw [if_pos hc] at q
    have a0 := Int.emod_nonneg (m / 72) (show n ≠ 0 by omega)
    have a1 := Int.emod_lt_of_pos (m / 72) (show 0 < n by omega)
    refine ⟨n, rfl, by omega, by decide, by omega, by omega, rIxS_i (by decide) (by rw [ts_l36]; exact chF_at (by omega) (by omega)) ⟨_, rfl, ?_, n, rfl, by decide, by omega, by omega, ?_, ?_⟩⟩
    · rw [tx_len, tx_len]; simp only [List.length_replicate, List.length_singleton]; omega
    · rw [app_tx, tx_len, tx_len]; simp only [List.length_append, List.length_replicate, List.length_singleton]; omega
    · rw [app_tx, app_tx]
      exact q _ (same_new hp _)
  · rename_i hc
    rw [if_neg hc] at q
    refine ⟨rfl, n, rfl, by omega, by omega, comp_rng (fun i ys H' => Same (upd H p (.lst [V.int 1, V.int (1 + m / 3 % 4), V.int (1 + m / 3 % 12)])) H' ∧ ys = ((restF m i).map fun c => tx [c]).map V.str) (by rw [sizeLine_eq]; omega) ⟨Same.refl _, rfl⟩ ?_ ?_⟩
    · rintro i ys H' hi _ ⟨hs, rfl⟩
      walk_at "rd"
      refine ⟨.inl (by omega), rIxS_i (by decide) (by rw [ts_l36]; exact chF_at (by omega) (by omega)) ⟨hs, ?_⟩⟩
      unfold restF
      rw [range_snoc]
      simp
    · rintro ys H' hl ⟨hs, rfl⟩ p' hp'
      have hrl : (restF m (n - 1).toNat).length = (n - 1).toNat := by simp [restF]
      refine ⟨p', (restF m (n - 1).toNat).map fun c => tx [c], rfl, rfl, SqL.of upd_same, by rw [flat_one]; omega, rIxS_i (by decide) (by rw [ts_l36]; exact chF_at (by omega) (by omega)) ⟨_, rfl, _, rfl, ?_, ?_⟩⟩
      · rw [flat_one, tx_len, tx_len, List.length_singleton]; omega
      · rw [flat_one, app_tx]
        exact q _ ((same_new hp _).trans (hs.trans (same_new hp' _)))
end
end K34

namespace K34
open PySem L2
local macro_rules | `(tactic| walk_at "rd") => `(tactic| simp only [cxOf_K, nox_K, compCx_K, tSeq, tNext, tAsg, gName, tRet, tRetN, tIfS, tDrop, tOp, tUn, tVar, tC, tCall, tCons, tNil, tTest, tB, tAnd, tOr, tNot, tAndV, tOrV, tNotV, tIf, tCB, tBM, tComp, tTrue, tPart, tNoPart, tSl, tChain, tIsN, tNotN, tLst, tTup, tFor_eq, sDPut, tDNewK, tNever, rI0, rI, rU, rEq, rNe, rMulS, rInC, iRng1, iStr, CDiv, CMul, CPow, scal, List.append_nil, List.getElem?_cons_zero, List.getElem?_cons_succ, List.set_cons_zero, List.set_cons_succ, List.map_cons, List.map_nil, List.length_cons, List.length_nil, sizeLine_eq, Nat.reduceAdd, Nat.reduceLeDiff, Option.join_some, Option.join_none, Option.some.injEq, V.int.injEq, V.str.injEq, V.bl.injEq, V.ref.injEq, V.ty.injEq, List.cons.injEq, and_true, true_and, and_self, exists_eq_left', exists_eq_left, exists_and_left, exists_and_right, decide_eq_true_eq, Bool.not_eq_eq_eq_not, Bool.not_true, Bool.not_false, decide_eq_false_iff_not, Int.reduceLT, Int.reduceLE, Int.reduceNeg, Int.reducePow, Int.reduceAdd, Int.reduceSub, Int.reduceMul, Int.reduceToNat, natAbs10, Nat.reduceLT, Nat.reducePow, or_true, true_or, if_true, if_false, Bool.false_eq_true, ite_true, ite_false, reduceCtorEq])
seal L2.PSs L2.PS L2.PE L2.PT L2.PW L2.PA L2.PI L2.PG L2.PGs L2.PPs L2.PTs

abbrev sSigns : Stmt := top 6
abbrev sText : Stmt := top 7
section
variable {P : Program} {w : World} {K : PySem.W.Frag} {mg : Str → Option Value} {base : Heap} {f : Addr} {fd : FuncData}
def spSigns : Sp := fun vs H Q _ => vs = [] ∧ Q (.str (tx sgnL)) H
theorem scSigns : FnScope ["_law_some"] [] (defScope sSigns) := ⟨rfl, rfl, rfl, by decide +kernel, rfl, by decide +kernel, by decide +kernel⟩
theorem ok_signs (F : Fun K "_law_signs" "_law_signs" sSigns f fd) : FnOk P w K mg base CX0 1 f fd [] spSigns := by
  refine F.ok scSigns (fun vs H Q E h => ?_) (fun cdv A outer s H vs Q E hr h => ?_)
  · obtain ⟨rfl, _⟩ := h
    rfl
  obtain ⟨rfl, q⟩ := h
  have nd := scSigns.nd
  refine ⟨_, (pss_cons (ps_set (i := 0) nd rfl (Or.inl rfl) pe_str)
    (pss_one (ps_ret (pe_op op_add_str (pv 0) pe_str)))), ?_⟩
  rw [show start ["_law_some"] [] = [none] from rfl]
  walk_at "rd"
  refine ⟨by decide, ?_⟩
  rw [ts_sgn]; exact q
def spText : Sp := fun vs H Q _ => ∃ (m : Int), vs = [.int m] ∧ 0 ≤ m ∧ m < 2000000 ∧ ∀ H', Same H H' → Q (.str (tx (textF m))) H'
theorem scText : FnScope ["_law_more", "_law_signs_here", "_law_size"] ["_law_more"] (defScope sText) := ⟨rfl, rfl, rfl, by decide +kernel, rfl, by decide +kernel, by decide +kernel⟩
theorem ok_text (F : Fun K "_law_text_by" "_law_text_by" sText f fd) (B : Bl mg) (G_law_signs : Dn P w K mg base 1 "_law_signs" [] spSigns) : FnOk P w K mg base CX0 2 f fd ["_law_more"] spText := by
  refine F.ok scText (fun vs H Q E h => ?_) (fun cdv A outer s H vs Q E hr h => ?_)
  · obtain ⟨m, rfl, _⟩ := h
    rfl
  obtain ⟨m, rfl, h0, h1, q⟩ := h
  have nd := scText.nd
  refine ⟨_, (pss_cons (ps_set (i := 1) nd rfl (Or.inr rfl) (pe_cd0 G_law_signs hr (by omega) rfl))
    (pss_cons (ps_set (i := 2) nd rfl (Or.inl rfl) (pe_ix ix_list (pe_lst (pa_cons (pe_op op_mod (pe_op op_fdiv (pv 0) pe_int) pe_int) (pa_cons (pe_op op_mod (pe_op op_fdiv (pv 0) pe_int) pe_int) (pa_cons (pe_op op_mod (pe_op op_fdiv (pv 0) pe_int) pe_int) pa_nil)))) (pe_op op_mod (pv 0) pe_int) (fun _ _ => rfl)))
    (pss_cons (ps_if (pt_cmpR op_eq (pe_op op_mod (pe_op op_fdiv (pv 0) pe_int) pe_int) pe_int (nomark _)) (pss_one (ps_ret (pe_op op_add_str (pe_op op_mul_str pe_str (pe_op op_fdiv (pv 2) pe_int)) (pe_op op_mul_str (pe_ix ix_str (pv 1) (pe_op op_mod (pe_op op_fdiv (pv 0) pe_int) pe_int) (fun _ _ => rfl)) (pe_op op_sub (pv 2) (pe_op op_fdiv (pv 2) pe_int)))))) pss_nil)
    (pss_one (ps_ret (pe_bm PySem.F.plainAttrs_str PySem.F.slot_str_join PySem.F.type_str_join mt_join pe_str (pa_cons (pe_comp (own := ["_law_j"]) (F := [("_law_signs_here", 1), ("_law_more", 0)]) ⟨rfl, by with_unfolding_all rfl, by with_unfolding_all rfl, by with_unfolding_all rfl, (.cons rfl rfl rfl (.cons rfl rfl rfl .nil))⟩ rfl (pi_range1 rfl B.range (pa_cons (pv 2) pa_nil)) (fun _ _ _ _ => pg_name (i := 0) (by show (compN ["_law_j"] [("_law_signs_here", 1), ("_law_more", 0)]).Nodup; decide +kernel) rfl (Or.inl rfl)) (fun _ _ _ _ => pts_nil) (fun _ _ _ _ => (pe_ix ix_str (pv 1) (pe_op op_mod (pe_op op_add (pe_op op_fdiv (pv 2) pe_int) (pe_op op_mul (pv 0) (pe_op op_add pe_int (pe_op op_mod (pe_op op_fdiv (pv 2) pe_int) pe_int)))) pe_int) (fun _ _ => rfl)))) pa_nil))))))), ?_⟩
  rw [show start ["_law_more", "_law_signs_here", "_law_size"] [.int m] = [some (.int m), none, none] from rfl]
  walk_at "rd"
  refine ⟨rfl, fun p hp => ?_⟩
  obtain ⟨n0, n30⟩ := lenF_in m
  refine rIxL_i (SqL.of upd_same) (lenF_at m) ?_
  simp only [ts_q, rep_one, of_nil]
  unfold textF at q
  generalize lenF m = n at *
  split
  · rename_i hc
    rw [if_pos hc] at q
    refine ⟨n, rfl, by decide, by omega, by omega, rIxS_i (by decide) (sgF_at (by omega) (by omega)) ⟨n, rfl, n, rfl, _, rfl, (show (1 : Nat) ≤ 1000 by decide), by omega, by omega, ?_, ?_⟩⟩
    · rw [ts_tx, rep_one, tx_len, tx_len]; simp only [List.length_replicate]; omega
    · rw [ts_tx, rep_one, app_tx]
      exact q _ (same_new hp _)
  · rename_i hc
    rw [if_neg hc] at q
    refine ⟨rfl, n, rfl, by omega, by omega, comp_rng (fun i ys H' => Same (upd H p (.lst [V.int (m / 5 % 4), V.int (m / 5 % 9), V.int (m / 5 % 31)])) H' ∧ ys = ((runF m i).map fun c => tx [c]).map V.str) (by rw [sizeLine_eq]; omega) ⟨Same.refl _, rfl⟩ ?_ ?_⟩
    · rintro i ys H' hi _ ⟨hs, rfl⟩
      walk_at "rd"
      refine ⟨.inl (by omega), rIxS_i (by decide) (sgF_at (by omega) (by omega)) ⟨hs, ?_⟩⟩
      unfold runF
      rw [range_snoc]
      simp
    · rintro ys H' hl ⟨hs, rfl⟩ p' hp'
      have hrl : (runF m n.toNat).length = n.toNat := by simp [runF]
      refine ⟨p', (runF m n.toNat).map fun c => tx [c], rfl, rfl, SqL.of upd_same, by rw [flat_one]; omega, ?_⟩
      rw [flat_one]
      exact q _ ((same_new hp _).trans (hs.trans (same_new hp' _)))
end
end K34

namespace K34
open PySem L2
local macro_rules | `(tactic| walk_at "rd") => `(tactic| simp only [cxOf_K, nox_K, compCx_K, tSeq, tNext, tAsg, gName, tRet, tRetN, tIfS, tDrop, tOp, tUn, tVar, tC, tCall, tCons, tNil, tTest, tB, tAnd, tOr, tNot, tAndV, tOrV, tNotV, tIf, tCB, tBM, tComp, tTrue, tPart, tNoPart, tSl, tChain, tIsN, tNotN, tLst, tTup, tFor_eq, sDPut, tDNewK, tNever, rI0, rI, rU, rEq, rNe, rMulS, rInC, iRng1, iStr, CDiv, CMul, CPow, scal, List.append_nil, List.getElem?_cons_zero, List.getElem?_cons_succ, List.set_cons_zero, List.set_cons_succ, List.map_cons, List.map_nil, List.length_cons, List.length_nil, sizeLine_eq, Nat.reduceAdd, Nat.reduceLeDiff, Option.join_some, Option.join_none, Option.some.injEq, V.int.injEq, V.str.injEq, V.bl.injEq, V.ref.injEq, V.ty.injEq, List.cons.injEq, and_true, true_and, and_self, exists_eq_left', exists_eq_left, exists_and_left, exists_and_right, decide_eq_true_eq, Bool.not_eq_eq_eq_not, Bool.not_true, Bool.not_false, decide_eq_false_iff_not, Int.reduceLT, Int.reduceLE, Int.reduceNeg, Int.reducePow, Int.reduceAdd, Int.reduceSub, Int.reduceMul, Int.reduceToNat, natAbs10, Nat.reduceLT, Nat.reducePow, or_true, true_or, if_true, if_false, Bool.false_eq_true, ite_true, ite_false, reduceCtorEq])
seal L2.PSs L2.PS L2.PE L2.PT L2.PW L2.PA L2.PI L2.PG L2.PGs L2.PPs L2.PTs

abbrev sThing : Stmt := top 9
def spThing (K : PySem.W.Frag) (d : Nat) : Sp := fun vs H Q _ => ∃ (a : Addr) (ns : List Int) (k : Int), vs = [.ref a, .int k, .int d] ∧ SqL K H a (ns.map V.int) ∧ ns.length ≤ 63 ∧ 0 ≤ k ∧ (k + 2) * 5 ^ d ≤ 1000000 ∧
  ∀ v H', Same H H' → Rep H' v (thT ns d k) → Q v H'
section
variable {P : Program} {w : World} {K : PySem.W.Frag} {mg : Str → Option Value} {base : Heap} {f : Addr} {fd : FuncData}
theorem scThing : FnScope ["_law_script", "_law_k", "_law_deep_here", "_law_more", "_law_kind", "_law_some", "_law_found", "_law_j"] ["_law_script", "_law_k", "_law_deep_here"] (defScope sThing) := ⟨rfl, rfl, rfl, by decide +kernel, rfl, by decide +kernel, by decide +kernel⟩
/-- the record so far: at p2, its things out of us, all of them in Hl -/
def DInv (nm : Nat → List Nat) (us : List T) (Hl : Hp) (p2 : Addr) (i : Nat) (H2 : Hp) : Prop := ∃ (ps : List (Key × V)), H2 p2 = some (.dK ps) ∧ ps.map (·.1) = (dicG nm us i).1.map nK ∧ Reps Hl (ps.map (·.2)) (dicG nm us i).2
theorem pow5 (e : Nat) : (1 : Int) ≤ 5 ^ e := by
  induction e with
  | zero => decide
  | succ n ih => rw [Int.pow_succ]; omega
theorem ok_thing0 (F : Fun K "_law_thing_by" "_law_thing_by" sThing f fd) (B : Bl mg) (G_law_cell : Dn P w K mg base 1 "_law_cell" ["_law_script", "_law_k"] (spCell K)) (G_law_number_by : Dn P w K mg base 1 "_law_number_by" ["_law_more"] spNum)
    (G_law_text_by : Dn P w K mg base 2 "_law_text_by" ["_law_more"] spText) : FnOk P w K mg base CX0 3 f fd ["_law_script", "_law_k", "_law_deep_here"] (spThing K 0) := by
  refine F.ok scThing (fun vs H Q E h => ?_) (fun cdv A outer s H vs Q E hr h => ?_)
  · obtain ⟨a, ns, k, rfl, _⟩ := h
    rfl
  obtain ⟨a, ns, k, rfl, hS, h63, h0, h1, q⟩ := h
  have nd := scThing.nd
  refine ⟨_, (pss_cons (ps_set (i := 3) nd rfl (Or.inl rfl) (pe_cd G_law_cell hr (by omega) rfl (pa_cons (pv 0) (pa_cons (pv 1) pa_nil))))
    (pss_cons (ps_set (i := 4) nd rfl (Or.inl rfl) (pe_op op_mod (pv 3) (pe_ix ix_list (pe_lst (pa_cons pe_int (pa_cons pe_int pa_nil))) (pe_callTy call_intB rfl B.int bt_int (pa_cons (pe_cmpR op_gt (pv 2) pe_int (nomark _)) pa_nil)) (fun _ _ => rfl))))
    (pss_cons (ps_if (pt_cmpR op_eq (pv 4) pe_int (nomark _)) (pss_one (ps_ret (pe_ix ix_list (pe_lst (pa_cons pe_non (pa_cons pe_bl (pa_cons pe_bl pa_nil)))) (pe_op op_mod (pe_op op_fdiv (pv 3) pe_int) pe_int) (fun _ _ => rfl)))) pss_nil)
    (pss_cons (ps_if (pt_cmpR op_lt (pv 4) pe_int (nomark _)) (pss_one (ps_ret (pe_cd G_law_number_by hr (by omega) rfl (pa_cons (pe_op op_fdiv (pv 3) pe_int) pa_nil)))) pss_nil)
    (pss_cons (ps_if (pt_cmpR op_lt (pv 4) pe_int (nomark _)) (pss_one (ps_ret (pe_cd G_law_text_by hr (by omega) rfl (pa_cons (pe_op op_fdiv (pv 3) pe_int) pa_nil)))) pss_nil)
    pss_never))))), ?_⟩
  rw [show start ["_law_script", "_law_k", "_law_deep_here", "_law_more", "_law_kind", "_law_some", "_law_found", "_law_j"] [.ref a, .int k, .int ((0 : Nat) : Int)] = [some (.ref a), some (.int k), some (.int ((0 : Nat) : Int)), none, none, none, none, none] from rfl]
  walk_at "rd"
  refine spCell_i hS h63 h0 (by omega) fun H1 g1 p hp => rIxL_i (SqL.of upd_same) (v := .int 5) rfl ⟨_, rfl, 5, rfl, by decide, ?_⟩
  have c0 := cellF_lo ns k
  have c1 := cellF_hi ns k
  have gp := g1.trans (same_new hp (.lst [V.int 5, V.int 9]))
  split
  · intro p2 hp2
    refine ⟨_, rfl, ?_⟩
    rename_i hc
    obtain ⟨v, hv, hr'⟩ := leafF_at (H := upd (upd H1 p (.lst [V.int 5, V.int 9])) p2 (.lst [V.non, V.bl true, V.bl false])) (cellF ns k)
    refine rIxL_i (SqL.of upd_same) hv (q _ _ (gp.trans (same_new hp2 _)) ?_)
    show Rep _ v (leafF (cellF ns k) (cellF ns k % 5))
    rw [hc]; exact hr'
  · split
    · rename_i n0 hc
      refine ⟨_, rfl, _, rfl, by omega, by omega, fun H2 g2 => q _ _ (gp.trans g2) ?_⟩
      show Rep _ _ (leafF (cellF ns k) (cellF ns k % 5))
      unfold leafF
      rw [if_neg n0, if_pos hc]; rfl
    · rename_i n0 n1
      rw [if_pos (by omega)]
      refine ⟨_, rfl, _, rfl, by omega, by omega, fun H2 g2 => q _ _ (gp.trans g2) ?_⟩
      show Rep _ _ (leafF (cellF ns k) (cellF ns k % 5))
      unfold leafF
      rw [if_neg n0, if_neg n1]; rfl
theorem ok_thingS {e : Nat} (F : Fun K "_law_thing_by" "_law_thing_by" sThing f fd) (B : Bl mg) (G_law_cell : Dn P w K mg base 1 "_law_cell" ["_law_script", "_law_k"] (spCell K)) (G_law_number_by : Dn P w K mg base 1 "_law_number_by" ["_law_more"] spNum)
    (G_law_text_by : Dn P w K mg base 2 "_law_text_by" ["_law_more"] spText) (G_law_name_by : Dn P w K mg base 1 "_law_name_by" ["_law_more"] spName)
    (G_law_thing_by : Dn P w K mg base (3 + e) "_law_thing_by" ["_law_script", "_law_k", "_law_deep_here"] (spThing K e)) : FnOk P w K mg base CX0 (3 + e + 1) f fd ["_law_script", "_law_k", "_law_deep_here"] (spThing K (e + 1)) := by
  refine F.ok scThing (fun vs H Q E h => ?_) (fun cdv A outer s H vs Q E hr h => ?_)
  · obtain ⟨a, ns, k, rfl, _⟩ := h
    rfl
  obtain ⟨a, ns, k, rfl, hS, h63, h0, h1, q⟩ := h
  have nd := scThing.nd
  have hu := hu_of hr
  refine ⟨_, (pss_cons (ps_set (i := 3) nd rfl (Or.inl rfl) (pe_cd G_law_cell hr (by omega) rfl (pa_cons (pv 0) (pa_cons (pv 1) pa_nil))))
    (pss_cons (ps_set (i := 4) nd rfl (Or.inl rfl) (pe_op op_mod (pv 3) (pe_ix ix_list (pe_lst (pa_cons pe_int (pa_cons pe_int pa_nil))) (pe_callTy call_intB rfl B.int bt_int (pa_cons (pe_cmpR op_gt (pv 2) pe_int (nomark _)) pa_nil)) (fun _ _ => rfl))))
    (pss_cons (ps_if (pt_cmpR op_eq (pv 4) pe_int (nomark _)) (pss_one (ps_ret (pe_ix ix_list (pe_lst (pa_cons pe_non (pa_cons pe_bl (pa_cons pe_bl pa_nil)))) (pe_op op_mod (pe_op op_fdiv (pv 3) pe_int) pe_int) (fun _ _ => rfl)))) pss_nil)
    (pss_cons (ps_if (pt_cmpR op_lt (pv 4) pe_int (nomark _)) (pss_one (ps_ret (pe_cd G_law_number_by hr (by omega) rfl (pa_cons (pe_op op_fdiv (pv 3) pe_int) pa_nil)))) pss_nil)
    (pss_cons (ps_if (pt_cmpR op_lt (pv 4) pe_int (nomark _)) (pss_one (ps_ret (pe_cd G_law_text_by hr (by omega) rfl (pa_cons (pe_op op_fdiv (pv 3) pe_int) pa_nil)))) pss_nil)
    (pss_cons (ps_comp (i := 5) nd rfl (Or.inl rfl) (own := ["_law_j"]) (F := [("_law_script", 0), ("_law_k", 1), ("_law_deep_here", 2)]) ⟨rfl, by with_unfolding_all rfl, by with_unfolding_all rfl, by with_unfolding_all rfl, (.cons rfl rfl rfl (.cons rfl rfl rfl (.cons rfl rfl rfl .nil)))⟩ rfl (pi_range1 rfl B.range (pa_cons (pe_op op_mod (pe_op op_fdiv (pv 3) pe_int) pe_int) pa_nil)) (fun _ _ _ _ => pg_name (i := 0) (by show (compN ["_law_j"] [("_law_script", 0), ("_law_k", 1), ("_law_deep_here", 2)]).Nodup; decide +kernel) rfl (Or.inl rfl)) (fun _ _ _ _ => pts_nil) (fun _ _ _ _ => (pe_cd G_law_thing_by hr (by omega) rfl (pa_cons (pv 1) (pa_cons (pe_op op_add (pe_op op_add (pe_op op_mul (pv 2) pe_int) pe_int) (pv 0)) (pa_cons (pe_op op_sub (pv 3) pe_int) pa_nil))))))
    (pss_cons (ps_if (pt_cmpR op_lt (pv 4) pe_int (nomark _)) (pss_one (ps_ret (pv 5))) pss_nil)
    (pss_cons (ps_set (i := 6) nd rfl (Or.inl rfl) pe_dnewK)
    (pss_cons (ps_for PassesOwn.never rfl (pi_range1 rfl B.range (pa_cons (pe_callB call_len_l rfl B.len bt_len (pa_cons (pv 5) pa_nil)) pa_nil)) (pg_name (i := 7) nd rfl (Or.inl rfl)) (pss_one (ps_dput hu (pv 6) (pe_cd G_law_name_by hr (by omega) rfl (pa_cons (pe_op op_add (pe_op op_fdiv (pe_cd G_law_cell hr (by omega) rfl (pa_cons (pv 0) (pa_cons (pe_op op_add (pe_op op_add (pe_op op_mul (pv 1) pe_int) pe_int) (pv 7)) pa_nil))) pe_int) (pv 7)) pa_nil)) (pe_ix ix_list (pv 5) (pv 7) (fun _ _ => rfl)) rfl)))
    (pss_one (ps_ret (pv 6)))))))))))), ?_⟩
  rw [show start ["_law_script", "_law_k", "_law_deep_here", "_law_more", "_law_kind", "_law_some", "_law_found", "_law_j"] [.ref a, .int k, .int ((e + 1 : Nat) : Int)] = [some (.ref a), some (.int k), some (.int ((e + 1 : Nat) : Int)), none, none, none, none, none] from rfl]
  walk_at "rd"
  have hpow : (1 : Int) ≤ 5 ^ e := pow5 e
  have hpow2 : (5 : Int) ^ (e + 1) = 5 ^ e * 5 := Int.pow_succ ..
  have h2 : (k + 2) * 5 * 5 ^ e ≤ 1000000 := by rw [Int.mul_assoc, Int.mul_comm 5 (5 ^ e), ← hpow2]; exact h1
  have h3 : (k + 2) * 5 ≤ 1000000 := by
    have : (k + 2) * 5 * 1 ≤ (k + 2) * 5 * 5 ^ e := Int.mul_le_mul_of_nonneg_left hpow (by omega)
    omega
  refine spCell_i hS h63 h0 (by omega) fun H1 g1 p hp => rIxL_i (SqL.of upd_same) (v := .int 9) ?_ ⟨_, rfl, 9, rfl, by decide, ?_⟩
  · rw [if_pos (by omega)]; rfl
  have c0 := cellF_lo ns k
  have c1 := cellF_hi ns k
  have gp := g1.trans (same_new hp (.lst [V.int 5, V.int 9]))
  split
  · intro p2 hp2
    refine ⟨_, rfl, ?_⟩
    rename_i hc
    obtain ⟨v, hv, hr'⟩ := leafF_at (H := upd (upd H1 p (.lst [V.int 5, V.int 9])) p2 (.lst [V.non, V.bl true, V.bl false])) (cellF ns k)
    refine rIxL_i (SqL.of upd_same) hv (q _ _ (gp.trans (same_new hp2 _)) ?_)
    unfold thT
    rw [if_pos (by omega), hc]; exact hr'
  · split
    · rename_i n0 hc
      refine ⟨_, rfl, _, rfl, by omega, by omega, fun H2 g2 => q _ _ (gp.trans g2) ?_⟩
      unfold thT leafF
      rw [if_pos (by omega), if_neg n0, if_pos hc]; rfl
    · split
      · rename_i n0 n1 hc
        refine ⟨_, rfl, _, rfl, by omega, by omega, fun H2 g2 => q _ _ (gp.trans g2) ?_⟩
        unfold thT leafF
        rw [if_pos hc, if_neg n0, if_neg n1]; rfl
      · rename_i n0 n1 n5
        unfold thT at q
        rw [if_neg n5] at q
        have hnn : (cellF ns k / 9 % 5).toNat ≤ 4 := by omega
        refine ⟨_, rfl, by omega, by omega, comp_rng (fun i ys H' => Same (upd H1 p (.lst [V.int 5, V.int 9])) H' ∧ Reps H' ys ((List.range i).map fun (j : Nat) => thT ns e (k * 5 + 1 + (0 + (j : Int))))) (by rw [sizeLine_eq]; omega) ⟨Same.refl _, rfl⟩ ?_ ?_⟩
        · rintro i ys H' hi _ ⟨hs, hR⟩
          walk_at "rd"
          refine ⟨a, ns, k * 5 + 1 + (0 + (i : Int)), ?_, hs.seq (gp.seq hS), h63, by omega, ?_, fun v H2 g2 hv => ⟨hs.trans g2, ?_⟩⟩
          · rw [show ((e + 1 : Nat) : Int) - 1 = (e : Int) by omega]
          · have : (k * 5 + 1 + (0 + (i : Int)) + 2) * 5 ^ e ≤ (k + 2) * 5 * 5 ^ e := Int.mul_le_mul_of_nonneg_right (by omega) (by omega)
            omega
          · rw [range_snoc]
            exact Reps.snoc hv (Reps.same g2 _ _ hR)
        · rintro ys H' hl ⟨hs, hR⟩ p' hp'
          have gl := gp.trans (hs.trans (same_new hp' (.lst ys)))
          have hR' : Reps (upd H' p' (.lst ys)) ys _ := Reps.same (same_new hp' _) _ _ hR
          have hlen : ys.length = (cellF ns k / 9 % 5).toNat := by rw [hR.length]; simp
          generalize hus : ((List.range (cellF ns k / 9 % 5).toNat).map fun (j : Nat) => thT ns e (k * 5 + 1 + (0 + (j : Int)))) = us at *
          have hul : us.length = (cellF ns k / 9 % 5).toNat := by rw [← hus]; simp
          by_cases h7 : cellF ns k % 9 < 7
          · rw [if_pos h7]
            rw [if_pos h7] at q
            exact q _ _ gl ⟨p', ys, rfl, upd_same, hR'⟩
          rw [if_neg h7]
          rw [if_neg h7] at q
          intro p2 hp2
          have gd := same_new hp2 (.dK [])
          have hSl : SqL K (upd (upd H' p' (.lst ys)) p2 (.dK [])) p' ys := SqL.of (gd _ _ upd_same)
          refine ⟨p', rfl, ys, hSl, by omega, by omega, ?_⟩
          rw [Int.toNat_natCast]
          refine forB_rng (fun i σ H2 => (∃ o, σ = [some (V.ref a), some (V.int k), some (V.int ((e + 1 : Nat) : Int)), some (V.int (cellF ns k)), some (V.int (cellF ns k % 9)), some (V.ref p'), some (V.ref p2), o]) ∧ Same (upd H' p' (.lst ys)) H2 ∧ DInv (kidN ns k) us (upd H' p' (.lst ys)) p2 i H2) ⟨⟨_, rfl⟩, gd, [], upd_same, rfl, rfl⟩ ?_ ?_
          · rintro i σ H2 hi ⟨⟨o, rfl⟩, g2, ps, hd, hk, hU⟩
            walk_at "rd"
            obtain ⟨v, hv⟩ : ∃ v, ys[i]? = some v := ⟨ys[i], by simp [hi]⟩
            obtain ⟨t, ht, hvt⟩ := hR'.get hv
            have hut : us.getD i .non = t := by rw [List.getD_eq_getElem?_getD, ht]; rfl
            refine rIxL_i (SqL.of (g2 _ _ upd_same)) (by rw [Int.zero_add]; exact atI_nat hv) (spCell_i (g2.seq (gl.seq hS)) h63 (by omega) (by omega) fun H3 g3 => ?_)
            have c0' := cellF_lo ns (k * 5 + 1 + (0 + (i : Int)))
            have c1' := cellF_hi ns (k * 5 + 1 + (0 + (i : Int)))
            refine ⟨_, rfl, _, rfl, by omega, by omega, fun H4 g4 => ⟨_, DPut.k (k := nK (kidN ns k i)) (g4 _ _ (g3 _ _ hd)) ?_, ⟨_, rfl⟩, ?_, ?_⟩⟩
            · have l1 := congrArg List.length hk
              have l2 := (dicG_ok (kidN ns k) us (fun j => nameF_ok _) i (by omega)).2.2.2.2
              simp only [List.length_map] at l1
              rw [sizeLine_eq]; omega
            · intro b o' hb
              have hne : b ≠ p2 := fun z => by rw [z, hp2] at hb; cases hb
              rw [upd_ne hne]
              exact g4 _ _ (g3 _ _ (g2 _ _ hb))
            · obtain ⟨e1, e2⟩ := put_repT (n := kidN ns k i) hk hU hvt
              refine ⟨_, upd_same, ?_, ?_⟩
              · show _ = (putT (dicG (kidN ns k) us i) (kidN ns k i) (us.getD i .non)).1.map nK
                rw [hut]; exact e1
              · show Reps _ _ (putT (dicG (kidN ns k) us i) (kidN ns k i) (us.getD i .non)).2
                rw [hut]; exact e2
          · rintro σ H2 ⟨⟨o, rfl⟩, g2, ps, hd, hk, hU⟩
            walk_at "rd"
            rw [hlen] at hk hU
            exact q _ _ (gl.trans g2) ⟨p2, ps, rfl, hd, hk, Reps.same g2 _ _ hU⟩
end
end K34

namespace K34
open PySem L2
local macro_rules | `(tactic| walk_at "rd") => `(tactic| simp only [cxOf_K, nox_K, compCx_K, tSeq, tNext, tAsg, gName, tRet, tRetN, tIfS, tDrop, tOp, tUn, tVar, tC, tCall, tCons, tNil, tTest, tB, tAnd, tOr, tNot, tAndV, tOrV, tNotV, tIf, tCB, tBM, tComp, tTrue, tPart, tNoPart, tSl, tChain, tIsN, tNotN, tLst, tTup, tFor_eq, sDPut, tDNewK, tNever, rI0, rI, rU, rEq, rNe, rMulS, rInC, iRng1, iStr, CDiv, CMul, CPow, scal, List.append_nil, List.getElem?_cons_zero, List.getElem?_cons_succ, List.set_cons_zero, List.set_cons_succ, List.map_cons, List.map_nil, List.length_cons, List.length_nil, sizeLine_eq, Nat.reduceAdd, Nat.reduceLeDiff, Option.join_some, Option.join_none, Option.some.injEq, V.int.injEq, V.str.injEq, V.bl.injEq, V.ref.injEq, V.ty.injEq, List.cons.injEq, and_true, true_and, and_self, exists_eq_left', exists_eq_left, exists_and_left, exists_and_right, decide_eq_true_eq, Bool.not_eq_eq_eq_not, Bool.not_true, Bool.not_false, decide_eq_false_iff_not, Int.reduceLT, Int.reduceLE, Int.reduceNeg, Int.reducePow, Int.reduceAdd, Int.reduceSub, Int.reduceMul, Int.reduceToNat, natAbs10, Nat.reduceLT, Nat.reducePow, or_true, true_or, if_true, if_false, Bool.false_eq_true, ite_true, ite_false, reduceCtorEq])
local macro_rules | `(tactic| walk_at "rd2") => `(tactic| simp only [tDisp, tPairs, tBM0, iList, iDict, tThaw, tMaxD, rMaxD, tDGet, rVals, tComp, cxOf_K, nox_K, compCx_K, tSeq, tNext, tAsg, gName, tRet, tRetN, tIfS, tDrop, tOp, tUn, tVar, tC, tCall, tCons, tNil, tTest, tB, tAnd, tOr, tNot, tAndV, tOrV, tNotV, tIf, tCB, tBM, tComp, tTrue, tPart, tNoPart, tSl, tChain, tIsN, tNotN, tLst, tTup, tFor_eq, sDPut, tDNewK, tNever, rI0, rI, rU, rEq, rNe, rMulS, rInC, iRng1, iStr, CDiv, CMul, CPow, scal, List.append_nil, List.getElem?_cons_zero, List.getElem?_cons_succ, List.set_cons_zero, List.set_cons_succ, List.map_cons, List.map_nil, List.length_cons, List.length_nil, sizeLine_eq, Nat.reduceAdd, Nat.reduceLeDiff, Option.join_some, Option.join_none, Option.some.injEq, V.int.injEq, V.str.injEq, V.bl.injEq, V.ref.injEq, V.ty.injEq, List.cons.injEq, and_true, true_and, and_self, exists_eq_left', exists_eq_left, exists_and_left, exists_and_right, decide_eq_true_eq, Bool.not_eq_eq_eq_not, Bool.not_true, Bool.not_false, decide_eq_false_iff_not, Int.reduceLT, Int.reduceLE, Int.reduceNeg, Int.reducePow, Int.reduceAdd, Int.reduceSub, Int.reduceMul, Int.reduceToNat, natAbs10, Nat.reduceLT, Nat.reducePow, or_true, true_or, if_true, if_false, Bool.false_eq_true, ite_true, ite_false, reduceCtorEq])
seal L2.PSs L2.PS L2.PE L2.PT L2.PW L2.PA L2.PI L2.PG L2.PGs L2.PPs L2.PTs

abbrev sHeld : Stmt := top 14
section
variable {P : Program} {w : World} {K : PySem.W.Frag} {mg : Str → Option Value} {base : Heap} {f : Addr} {fd : FuncData}
def spHeld (e : Nat) : Sp := fun vs H Q _ => ∃ (v : V) (t : T), vs = [v] ∧ Rep H v t ∧ T.pure t ∧ T.dep t ≤ e ∧ T.sz t ≤ 100000 ∧ ∀ v' H', Same H H' → Rep H' v' t → Q v' H'
theorem scHeld : FnScope ["_law_thing"] ["_law_thing"] (defScope sHeld) := ⟨rfl, rfl, rfl, by decide +kernel, rfl, by decide +kernel, by decide +kernel⟩
theorem ok_heldS {e : Nat} (F : Fun K "_law_copy" "_law_copy" sHeld f fd) (B : Bl mg) (G_law_copy : Dn P w K mg base (1 + e) "_law_copy" ["_law_thing"] (spHeld e)) : FnOk P w K mg base CX0 (1 + e + 1) f fd ["_law_thing"] (spHeld (e + 1)) := by
  refine F.ok scHeld (fun vs H Q E h => ?_) (fun cdv A outer s H vs Q E hr h => ?_)
  · obtain ⟨v, t, rfl, _⟩ := h
    rfl
  obtain ⟨v, t, rfl, hv, hp, hd, hz, q⟩ := h
  have nd := scHeld.nd
  have hu := hu_of hr
  refine ⟨_, (pss_cons (ps_if (pt_val (pe_callB (call_isi (T := "list") (by decide)) rfl B.isinstance bt_isinstance (pa_cons (pv 0) (pa_cons (pe_bltn (v := .ty "list") rfl B.list bt_list rfl) pa_nil)))) (pss_one (ps_ret (pe_comp (own := ["_law_one"]) (F := []) ⟨rfl, by with_unfolding_all rfl, by with_unfolding_all rfl, by with_unfolding_all rfl, .nil⟩ rfl (pi_list (pv 0)) (fun _ _ _ _ => pg_name (i := 0) (by show (compN ["_law_one"] []).Nodup; decide +kernel) rfl (Or.inl rfl)) (fun _ _ _ _ => pts_nil) (fun _ _ _ _ => (pe_cd G_law_copy hr (by omega) rfl (pa_cons (pv 0) pa_nil)))))) pss_nil)
    (pss_cons (ps_if (pt_val (pe_callB (call_isi (T := "dict") (by decide)) rfl B.isinstance bt_isinstance (pa_cons (pv 0) (pa_cons (pe_bltn (v := .ty "dict") rfl B.dict bt_dict rfl) pa_nil)))) (pss_one (ps_ret (pe_callTy (call_dict_p rfl) rfl B.dict bt_dict (pa_cons (pe_thaw (pe_comp (own := ["_law_name"]) (F := [("_law_thing", 0)]) ⟨rfl, by with_unfolding_all rfl, by with_unfolding_all rfl, by with_unfolding_all rfl, (.cons rfl rfl rfl .nil)⟩ rfl (pi_dict (pv 0)) (fun _ _ _ _ => pg_name (i := 0) (by show (compN ["_law_name"] [("_law_thing", 0)]).Nodup; decide +kernel) rfl (Or.inl rfl)) (fun _ _ _ _ => pts_nil) (fun _ _ _ _ => (pe_tup (pa_cons (pv 0) (pa_cons (pe_cd G_law_copy hr (by omega) rfl (pa_cons (pe_dget hu (pv 1) (pv 0) (fun _ _ => rfl)) pa_nil)) pa_nil)))))) pa_nil)))) pss_nil)
    (pss_one (ps_ret (pv 0))))), ?_⟩
  rw [show start ["_law_thing"] [v] = [some v] from rfl]
  walk_at "rd2"
  cases t with
  | lst us =>
    obtain ⟨a, xs, rfl, ha, hs⟩ := hv
    have hl0 := T.szs_len us
    have hz' : T.szs us + 1 ≤ 100000 := hz
    have hd' : T.deps us + 1 ≤ e + 1 := hd
    refine ⟨"list", tyS_lst ha, ?_⟩
    rw [if_pos (by decide)]
    refine ⟨a, rfl, ⟨xs, SqL.of ha⟩, comp_list (K := K) (xs := xs) (fun i ys H' => Same H H' ∧ Reps H' ys (us.take i)) ?_ ⟨Same.refl _, rfl⟩ (fun i ys H' _ h => SqL.of (h.1 _ _ ha)) ?_ ?_⟩
    · have := hs.length
      rw [sizeLine_eq]; omega
    · rintro i u ys H' hu' _ ⟨g, hR⟩
      obtain ⟨t', ht', hr'⟩ := hs.get hu'
      have hm := List.mem_of_getElem? ht'
      have d1 := T.deps_le hm
      have d2 := T.szs_le hm
      walk_at "rd2"
      refine ⟨u, t', rfl, Rep.same g u t' hr', T.pures_mem hp hm, by omega, by omega, fun v' H4 g4 hv' => ⟨g.trans g4, ?_⟩⟩
      rw [take_succ_of ht']
      exact Reps.snoc hv' (Reps.same g4 _ _ hR)
    · rintro ys H' _ ⟨g, hR⟩ p hp'
      rw [hs.length, List.take_length] at hR
      exact q (.ref p) _ (g.trans (same_new hp' _)) ⟨p, ys, rfl, upd_same, Reps.same (same_new hp' _) _ _ hR⟩
  | dic ks us =>
    obtain ⟨d, ps, rfl, hdd, hk, hs⟩ := hv
    obtain ⟨nk, hp⟩ := hp
    have hl0 := T.szs_len us
    have hz' : T.szs us + 1 ≤ 100000 := hz
    have hd' : T.deps us + 1 ≤ e + 1 := hd
    have hpl : ps.length = us.length := by have := hs.length; rwa [List.length_map] at this
    have nkp : (ps.map (·.1)).Nodup := by rw [hk]; exact nodup_nK nk
    refine ⟨"dict", tyS_dK hdd, ?_⟩
    rw [if_neg (by decide)]
    refine ⟨"dict", tyS_dK hdd, ?_⟩
    rw [if_pos (by decide)]
    refine ⟨d, rfl, ps, .inl ⟨hdd, fun o => ?_⟩⟩
    have hsf : Reps (upd H d (.frz o (.dK ps))) (ps.map (·.2)) us := Reps.dic_away hdd hk hs
    refine comp_dict (fun i ys H' => Same (upd H d (.frz o (.dK ps))) H' ∧ ∃ kvs : List (Key × V), kvs.length = ys.length ∧ kvs.map (·.1) = (ps.take i).map (·.1) ∧ Reps H' (kvs.map (·.2)) (us.take i) ∧ ∀ (j : Nat) kv, kvs[j]? = some kv → ∃ a, ys[j]? = some (.ref a) ∧ H' a = some (.tup [kV kv.1, kv.2])) ?_ ⟨Same.refl _, [], rfl, rfl, rfl, by intro j kv h; simp at h⟩ (fun i ys H' h => h.1 _ _ upd_same) ?_ ?_
    · rw [sizeLine_eq]; omega
    · rintro i kv ys H' hkv _ ⟨g, kvs, l1, l2, hR, ht⟩
      walk_at "rd2"
      obtain ⟨t', ht', hr'⟩ := hsf.get (i := i) (v := kv.2) (by rw [List.getElem?_map, hkv]; rfl)
      have hm := List.mem_of_getElem? ht'
      have d1 := T.deps_le hm
      have d2 := T.szs_le hm
      refine ⟨kv.2, .inl ⟨ps, kv.1, .inr ⟨o, g _ _ upd_same⟩, rfl, (valV_ix nkp hkv).symm⟩, kv.2, t', rfl, Rep.same g _ t' hr', T.pures_mem hp hm, by omega, by omega, fun v' H1 g1 hv' p hp1 => ⟨(g.trans g1).trans (same_new hp1 _), kvs ++ [(kv.1, v')], by simp [l1], ?_, ?_, ?_⟩⟩
      · rw [take_succ_of hkv, List.map_append, List.map_append, l2]; rfl
      · rw [take_succ_of ht', List.map_append]
        exact Reps.snoc (Rep.same (same_new hp1 _) _ _ hv') (Reps.same (g1.trans (same_new hp1 _)) _ _ hR)
      · intro j kv1 hj
        by_cases hlt : j < kvs.length
        · rw [List.getElem?_append_left hlt] at hj
          obtain ⟨a, e1, e2⟩ := ht j kv1 hj
          exact ⟨a, by rw [List.getElem?_append_left (by omega)]; exact e1, same_new hp1 _ _ _ (g1 _ _ e2)⟩
        · rw [List.getElem?_append_right (by omega)] at hj
          have hj0 : j - kvs.length = 0 := by
            have := (List.getElem?_eq_some_iff.mp hj).1
            simpa using this
          rw [hj0] at hj
          simp only [List.getElem?_cons_zero, Option.some.injEq] at hj
          subst hj
          exact ⟨p, by rw [List.getElem?_append_right (by omega), ← l1, hj0]; rfl, upd_same⟩
    · rintro ys H' _ ⟨g, kvs, l1, l2, hR, ht⟩ p hp'
      rw [hpl, List.take_length] at hR
      rw [List.take_length] at l2
      have gs : Same H (thaw H (upd H' p (.lst ys))) := thaw_walk (o := o) hdd (g.trans (same_new hp' _))
      refine ⟨p, rfl, ys, thaw_of upd_same (by intro o v z; cases z), kvs, l1, fun j kv hj => ?_, fun l hl => ?_⟩
      · obtain ⟨a, e1, e2⟩ := ht j kv hj
        exact ⟨a, e1, thaw_of (same_new hp' _ _ _ e2) (by intro o v z; cases z)⟩
      · have em : mergeK [] kvs = kvs := mergeK_nodup kvs [] (by rw [List.nil_append, l2]; exact nkp)
        rw [em]
        refine q (.ref l) _ (gs.trans (same_new hl _)) ⟨l, kvs, rfl, upd_same, l2.trans hk, ?_⟩
        exact Reps.same (same_new hl _) _ _ (Reps.thaw (Reps.same (same_new hp' _) _ _ hR))
  | tup us => exact hp.elim
  | non => exact ⟨_, hv.ty, by rw [if_neg (by simp [tyT, isSub])]; exact ⟨_, hv.ty, by rw [if_neg (by simp [tyT, isSub])]; exact q _ _ (Same.refl _) hv⟩⟩
  | bl b => exact ⟨_, hv.ty, by rw [if_neg (by simp [tyT, isSub])]; exact ⟨_, hv.ty, by rw [if_neg (by simp [tyT, isSub])]; exact q _ _ (Same.refl _) hv⟩⟩
  | int b => exact ⟨_, hv.ty, by rw [if_neg (by simp [tyT, isSub])]; exact ⟨_, hv.ty, by rw [if_neg (by simp [tyT, isSub])]; exact q _ _ (Same.refl _) hv⟩⟩
  | str b => exact ⟨_, hv.ty, by rw [if_neg (by simp [tyT, isSub])]; exact ⟨_, hv.ty, by rw [if_neg (by simp [tyT, isSub])]; exact q _ _ (Same.refl _) hv⟩⟩
theorem ok_held0 (F : Fun K "_law_copy" "_law_copy" sHeld f fd) (B : Bl mg) : FnOk P w K mg base CX0 1 f fd ["_law_thing"] (spHeld 0) := by
  refine F.ok scHeld (fun vs H Q E h => ?_) (fun cdv A outer s H vs Q E hr h => ?_)
  · obtain ⟨v, t, rfl, _⟩ := h
    rfl
  obtain ⟨v, t, rfl, hv, hp, hd, hz, q⟩ := h
  have nd := scHeld.nd
  refine ⟨_, (pss_cons (ps_if (pt_val (pe_callB (call_isi (T := "list") (by decide)) rfl B.isinstance bt_isinstance (pa_cons (pv 0) (pa_cons (pe_bltn (v := .ty "list") rfl B.list bt_list rfl) pa_nil)))) pss_never pss_nil)
    (pss_cons (ps_if (pt_val (pe_callB (call_isi (T := "dict") (by decide)) rfl B.isinstance bt_isinstance (pa_cons (pv 0) (pa_cons (pe_bltn (v := .ty "dict") rfl B.dict bt_dict rfl) pa_nil)))) pss_never pss_nil)
    (pss_one (ps_ret (pv 0))))), ?_⟩
  rw [show start ["_law_thing"] [v] = [some v] from rfl]
  walk_at "rd2"
  refine ⟨_, hv.ty, ?_⟩
  rcases hold_cases t hp with ⟨hc, h0, _⟩ | ⟨us, ht, hps, hdt, hst, hc⟩
  · rw [Bool.or_eq_false_iff] at hc
    rw [if_neg (by rw [hc.1]; decide)]
    refine ⟨_, hv.ty, ?_⟩
    rw [if_neg (by rw [hc.2]; decide)]
    exact q _ _ (Same.refl _) hv
  · omega
theorem held_all (F : Fun K "_law_copy" "_law_copy" sHeld f fd) (B : Bl mg) (b : Binds K fd ["_law_thing"] []) (kp : PySem.W.keepIn K (.ref f) = true) (m : mg "_law_copy" = some (.ref f)) : ∀ e : Nat, FnOk P w K mg base CX0 (1 + e) f fd ["_law_thing"] (spHeld e)
  | 0 => ok_held0 F B
  | e + 1 => ok_heldS F B ⟨_, _, held_all F B b kp m e, b, kp, m⟩
end
end K34

namespace K34
open PySem L2
local macro_rules | `(tactic| walk_at "rd") => `(tactic| simp only [cxOf_K, nox_K, compCx_K, tSeq, tNext, tAsg, gName, tRet, tRetN, tIfS, tDrop, tOp, tUn, tVar, tC, tCall, tCons, tNil, tTest, tB, tAnd, tOr, tNot, tAndV, tOrV, tNotV, tIf, tCB, tBM, tComp, tTrue, tPart, tNoPart, tSl, tChain, tIsN, tNotN, tLst, tTup, tFor_eq, sDPut, tDNewK, tNever, rI0, rI, rU, rEq, rNe, rMulS, rInC, iRng1, iStr, CDiv, CMul, CPow, scal, List.append_nil, List.getElem?_cons_zero, List.getElem?_cons_succ, List.set_cons_zero, List.set_cons_succ, List.map_cons, List.map_nil, List.length_cons, List.length_nil, sizeLine_eq, Nat.reduceAdd, Nat.reduceLeDiff, Option.join_some, Option.join_none, Option.some.injEq, V.int.injEq, V.str.injEq, V.bl.injEq, V.ref.injEq, V.ty.injEq, List.cons.injEq, and_true, true_and, and_self, exists_eq_left', exists_eq_left, exists_and_left, exists_and_right, decide_eq_true_eq, Bool.not_eq_eq_eq_not, Bool.not_true, Bool.not_false, decide_eq_false_iff_not, Int.reduceLT, Int.reduceLE, Int.reduceNeg, Int.reducePow, Int.reduceAdd, Int.reduceSub, Int.reduceMul, Int.reduceToNat, natAbs10, Nat.reduceLT, Nat.reducePow, or_true, true_or, if_true, if_false, Bool.false_eq_true, ite_true, ite_false, reduceCtorEq])
local macro_rules | `(tactic| walk_at "rd2") => `(tactic| simp only [tDisp, tPairs, tBM0, iList, iDict, tThaw, tMaxD, rMaxD, tDGet, rVals, tComp, cxOf_K, nox_K, compCx_K, tSeq, tNext, tAsg, gName, tRet, tRetN, tIfS, tDrop, tOp, tUn, tVar, tC, tCall, tCons, tNil, tTest, tB, tAnd, tOr, tNot, tAndV, tOrV, tNotV, tIf, tCB, tBM, tComp, tTrue, tPart, tNoPart, tSl, tChain, tIsN, tNotN, tLst, tTup, tFor_eq, sDPut, tDNewK, tNever, rI0, rI, rU, rEq, rNe, rMulS, rInC, iRng1, iStr, CDiv, CMul, CPow, scal, List.append_nil, List.getElem?_cons_zero, List.getElem?_cons_succ, List.set_cons_zero, List.set_cons_succ, List.map_cons, List.map_nil, List.length_cons, List.length_nil, sizeLine_eq, Nat.reduceAdd, Nat.reduceLeDiff, Option.join_some, Option.join_none, Option.some.injEq, V.int.injEq, V.str.injEq, V.bl.injEq, V.ref.injEq, V.ty.injEq, List.cons.injEq, and_true, true_and, and_self, exists_eq_left', exists_eq_left, exists_and_left, exists_and_right, decide_eq_true_eq, Bool.not_eq_eq_eq_not, Bool.not_true, Bool.not_false, decide_eq_false_iff_not, Int.reduceLT, Int.reduceLE, Int.reduceNeg, Int.reducePow, Int.reduceAdd, Int.reduceSub, Int.reduceMul, Int.reduceToNat, natAbs10, Nat.reduceLT, Nat.reducePow, or_true, true_or, if_true, if_false, Bool.false_eq_true, ite_true, ite_false, reduceCtorEq])
seal L2.PSs L2.PS L2.PE L2.PT L2.PW L2.PA L2.PI L2.PG L2.PGs L2.PPs L2.PTs

abbrev sAlike : Stmt := top 13
section
variable {P : Program} {w : World} {K : PySem.W.Frag} {mg : Str → Option Value} {base : Heap} {f : Addr} {fd : FuncData}
theorem iP {c A B : Prop} [Decidable c] (h : c) (a : A) : if c then A else B := by rw [if_pos h]; exact a
theorem iN {c A B : Prop} [Decidable c] (h : ¬c) (b : B) : if c then A else B := by rw [if_neg h]; exact b
theorem small_away {H : Hp} {d : Addr} {o : HO} {t : T} {xs : List V} {us : List T} (hd : Rep H (.ref d) t) (hs : T.szs us < T.sz t) (h : Reps H xs us) : Reps (upd H d o) xs us :=
  Reps.away _ _ h fun z => by
    obtain ⟨t', h1, h2⟩ := Occs.sub _ _ h z
    have e := Rep.one _ _ _ hd h1
    subst e
    omega
theorem all_true : ∀ n : Nat, (List.replicate n true).all id = true
  | 0 => rfl
  | n + 1 => by rw [List.replicate_succ, List.all_cons, all_true n]; rfl
theorem eqLs_same : ∀ xs : List Str, eqLs (xs.map V.str) (xs.map V.str) = true
  | [] => rfl
  | x :: xs => by
    show (eqV (.str x) (.str x) && eqLs (xs.map V.str) (xs.map V.str)) = true
    rw [eqLs_same xs, Bool.and_true]
    exact decide_eq_true rfl
def spAlike (n : Nat) : Sp := fun vs H Q _ => ∃ (v u : V) (t : T), vs = [v, u] ∧ Rep H v t ∧ Rep H u t ∧ T.pure t ∧ T.dep t < n ∧ T.sz t ≤ 100000 ∧ ∀ H', Same H H' → Q (.bl true) H'
theorem scAlike : FnScope ["_law_found", "_law_due"] ["_law_found", "_law_due"] (defScope sAlike) := ⟨rfl, rfl, rfl, by decide +kernel, rfl, by decide +kernel, by decide +kernel⟩
theorem ok_alikeS {n : Nat} (F : Fun K "_law_alike" "_law_alike" sAlike f fd) (B : Bl2 mg) (G_law_alike : Dn P w K mg base (2 + n) "_law_alike" ["_law_found", "_law_due"] (spAlike n)) :
    FnOk P w K mg base CX0 (2 + n + 1) f fd ["_law_found", "_law_due"] (spAlike (n + 1)) := by
  refine F.ok scAlike (fun vs H Q E h => ?_) (fun cdv A outer s H vs Q E hr h => ?_)
  · obtain ⟨v, u, t, rfl, _⟩ := h
    rfl
  obtain ⟨v, u, t, rfl, hv, hw, hf, hd, hz, q⟩ := h
  have nd := scAlike.nd
  have hu := hu_of hr
  have hu0 := hr.units0
  refine ⟨_, (pss_cons (ps_if (PW.pt (pw_or (pt_cmp (pc_isN (pv 1))) (pw_or1 (pt_val (pe_callB (call_isi (T := "bool") (by decide)) rfl B.isinstance bt_isinstance (pa_cons (pv 1) (pa_cons (pe_bltn (v := .ty "bool") rfl B.bool bt_bool rfl) pa_nil))))))) (pss_one (ps_ret (pe_and (pe_cmpR op_eq (pv 0) (pv 1) (nomark _)) (pe_one (pe_cmpR op_eq (pe_callB (call_isi (T := "bool") (by decide)) rfl B.isinstance bt_isinstance (pa_cons (pv 0) (pa_cons (pe_bltn (v := .ty "bool") rfl B.bool bt_bool rfl) pa_nil))) (pe_callB (call_isi (T := "bool") (by decide)) rfl B.isinstance bt_isinstance (pa_cons (pv 1) (pa_cons (pe_bltn (v := .ty "bool") rfl B.bool bt_bool rfl) pa_nil))) (nomark _)))))) pss_nil)
    (pss_cons (ps_if (pt_val (pe_callB (call_isi (T := "int") (by decide)) rfl B.isinstance bt_isinstance (pa_cons (pv 1) (pa_cons (pe_bltn (v := .ty "int") rfl B.int bt_int rfl) pa_nil)))) (pss_one (ps_ret (pe_and (pe_callB (call_isi (T := "int") (by decide)) rfl B.isinstance bt_isinstance (pa_cons (pv 0) (pa_cons (pe_bltn (v := .ty "int") rfl B.int bt_int rfl) pa_nil))) (pe_and (pe_not (pe_callB (call_isi (T := "bool") (by decide)) rfl B.isinstance bt_isinstance (pa_cons (pv 0) (pa_cons (pe_bltn (v := .ty "bool") rfl B.bool bt_bool rfl) pa_nil)))) (pe_one (pe_cmpR op_eq (pv 0) (pv 1) (nomark _))))))) pss_nil)
    (pss_cons (ps_if (pt_val (pe_callB (call_isi (T := "str") (by decide)) rfl B.isinstance bt_isinstance (pa_cons (pv 1) (pa_cons (pe_bltn (v := .ty "str") rfl B.str bt_str rfl) pa_nil)))) (pss_one (ps_ret (pe_and (pe_callB (call_isi (T := "str") (by decide)) rfl B.isinstance bt_isinstance (pa_cons (pv 0) (pa_cons (pe_bltn (v := .ty "str") rfl B.str bt_str rfl) pa_nil))) (pe_one (pe_cmpR op_eq (pv 0) (pv 1) (nomark _)))))) pss_nil)
    (pss_cons (ps_if (pt_val (pe_callB (call_isi (T := "dict") (by decide)) rfl B.isinstance bt_isinstance (pa_cons (pv 1) (pa_cons (pe_bltn (v := .ty "dict") rfl B.dict bt_dict rfl) pa_nil)))) (pss_cons (ps_if (PW.pt (pw_or (pt_not (pt_val (pe_callB (call_isi (T := "dict") (by decide)) rfl B.isinstance bt_isinstance (pa_cons (pv 0) (pa_cons (pe_bltn (v := .ty "dict") rfl B.dict bt_dict rfl) pa_nil))))) (pw_or1 (pt_cmpR op_ne (pe_callB call_lenD rfl B.len bt_len (pa_cons (pv 0) pa_nil)) (pe_callB call_lenD rfl B.len bt_len (pa_cons (pv 1) pa_nil)) (nomark _))))) (pss_one (ps_ret pe_bl)) pss_nil)
    (pss_one (ps_ret (pe_callB (call_all rfl) rfl B.all bt_all (pa_cons (pe_thaw (pe_comp (own := ["_law_name"]) (F := [("_law_found", 0), ("_law_due", 1)]) ⟨rfl, by with_unfolding_all rfl, by with_unfolding_all rfl, by with_unfolding_all rfl, (.cons rfl rfl rfl (.cons rfl rfl rfl .nil))⟩ rfl (pi_dict (pv 1)) (fun _ _ _ _ => pg_name (i := 0) (by show (compN ["_law_name"] [("_law_found", 0), ("_law_due", 1)]).Nodup; decide +kernel) rfl (Or.inl rfl)) (fun _ _ _ _ => pts_nil) (fun _ _ _ _ => (pe_and (pe_cmp (pc_din hu (pv 0) (pv 1))) (pe_one (pe_cd G_law_alike hr (by omega) rfl (pa_cons (pe_dget hu (pv 1) (pv 0) (fun _ _ => rfl)) (pa_cons (pe_dget hu (pv 2) (pv 0) (fun _ _ => rfl)) pa_nil)))))))) pa_nil))))) pss_nil)
    (pss_cons (ps_if (PW.pt (pw_or (pt_cmpR op_ne (pe_callB (call_isi (T := "tuple") (by decide)) rfl B.isinstance bt_isinstance (pa_cons (pv 1) (pa_cons (pe_bltn (v := .ty "tuple") rfl B.tuple bt_tuple rfl) pa_nil))) (pe_callB (call_isi (T := "tuple") (by decide)) rfl B.isinstance bt_isinstance (pa_cons (pv 0) (pa_cons (pe_bltn (v := .ty "tuple") rfl B.tuple bt_tuple rfl) pa_nil))) (nomark _)) (pw_or1 (pt_not (pt_val (pe_callB (call_isi2 (T := "list") (U := "tuple") (by decide) (by decide)) rfl B.isinstance bt_isinstance (pa_cons (pv 0) (pa_cons (pe_tup (pa_cons (pe_bltn (v := .ty "list") rfl B.list bt_list rfl) (pa_cons (pe_bltn (v := .ty "tuple") rfl B.tuple bt_tuple rfl) pa_nil))) pa_nil)))))))) (pss_one (ps_ret pe_bl)) pss_nil)
    (pss_cons (ps_if (pt_cmpR op_ne (pe_callB call_len_l rfl B.len bt_len (pa_cons (pv 0) pa_nil)) (pe_callB call_len_l rfl B.len bt_len (pa_cons (pv 1) pa_nil)) (nomark _)) (pss_one (ps_ret pe_bl)) pss_nil)
    (pss_one (ps_ret (pe_callB (call_all rfl) rfl B.all bt_all (pa_cons (pe_comp (own := ["_law_k"]) (F := [("_law_found", 0), ("_law_due", 1)]) ⟨rfl, by with_unfolding_all rfl, by with_unfolding_all rfl, by with_unfolding_all rfl, (.cons rfl rfl rfl (.cons rfl rfl rfl .nil))⟩ rfl (pi_range1 rfl B.range (pa_cons (pe_callB call_len_l rfl B.len bt_len (pa_cons (pv 1) pa_nil)) pa_nil)) (fun _ _ _ _ => pg_name (i := 0) (by show (compN ["_law_k"] [("_law_found", 0), ("_law_due", 1)]).Nodup; decide +kernel) rfl (Or.inl rfl)) (fun _ _ _ _ => pts_nil) (fun _ _ _ _ => (pe_cd G_law_alike hr (by omega) rfl (pa_cons (pe_ix (ix_listC (K := K) rfl) (pv 1) (pv 0) (fun _ _ => rfl)) (pa_cons (pe_ix (ix_listC (K := K) rfl) (pv 2) (pv 0) (fun _ _ => rfl)) pa_nil))))) pa_nil)))))))))), ?_⟩
  rw [show start ["_law_found", "_law_due"] [v, u] = [some v, some u] from rfl]
  walk_at "rd2"
  have g0 := Same.refl H
  cases t with
  | non =>
    cases (show v = _ from hv); cases (show u = _ from hw)
    exact iP rfl ⟨rfl, iP rfl ⟨_, rfl, _, rfl, q _ g0⟩⟩
  | bl b =>
    cases (show v = _ from hv); cases (show u = _ from hw)
    refine iN (by simp) ⟨_, rfl, iP (by decide +kernel) ⟨?_, iP rfl ⟨_, rfl, _, rfl, ?_⟩⟩⟩
    · rfl
    · rw [decide_eq_true rfl]; exact q _ g0
  | int b =>
    cases (show v = _ from hv); cases (show u = _ from hw)
    refine iN (by simp) ⟨_, rfl, iN (by decide +kernel) ⟨_, rfl, iP (by decide +kernel) ⟨_, rfl, iP (by decide +kernel) ⟨_, rfl, true, by decide +kernel, iP rfl ⟨rfl, ?_⟩⟩⟩⟩⟩
    rw [decide_eq_true rfl]; exact q _ g0
  | str b =>
    cases (show v = _ from hv); cases (show u = _ from hw)
    refine iN (by simp) ⟨_, rfl, iN (by decide +kernel) ⟨_, rfl, iN (by decide +kernel) ⟨_, rfl, iP (by decide +kernel) ⟨_, rfl, iP (by decide +kernel) ⟨rfl, ?_⟩⟩⟩⟩⟩
    rw [decide_eq_true rfl]; exact q _ g0
  | lst us =>
    have hty : tyS H u = some "list" := hw.ty
    have htv : tyS H v = some "list" := hv.ty
    have hnn : ¬ u = V.non := fun z => by rw [z] at hty; exact absurd (Option.some.inj hty) (by decide)
    refine iN hnn ⟨_, hty, iN (by decide +kernel) ⟨_, hty, iN (by decide +kernel) ⟨_, hty, iN (by decide +kernel) ⟨_, hty, iN (by decide +kernel) ?_⟩⟩⟩⟩
    obtain ⟨a, xs, rfl, ha, hx⟩ := hv
    obtain ⟨b, ys, rfl, hb, hy⟩ := hw
    have hd' : T.deps us + 1 < n + 1 := hd
    have hz' : T.szs us + 1 ≤ 100000 := hz
    have hxl := hx.length
    have hyl := hy.length
    have hul := T.szs_len us
    refine ⟨_, hty, _, htv, false, by simp, iteF fun pt hpt => ?_⟩
    have g2 := same_new hpt (.tup [V.ty "list", V.ty "tuple"])
    refine ⟨_, "list", pt, ⟨rfl, rfl⟩, upd_same, tyS_same g2 htv, iN (by decide +kernel) ?_⟩
    generalize upd H pt (.tup [V.ty "list", V.ty "tuple"]) = H2 at g2 ⊢
    have ha := g2 _ _ ha
    have hb := g2 _ _ hb
    have hx := Reps.same g2 _ _ hx
    have hy := Reps.same g2 _ _ hy
    refine ⟨a, rfl, xs, SqL.of ha, b, rfl, ys, SqL.of hb, false, by rw [hxl, hyl]; simp, iteF ⟨b, rfl, ys, SqL.of hb, by omega, by omega, ?_⟩⟩
    rw [Int.toNat_natCast]
    refine comp_rng (fun i zs H' => Same H2 H' ∧ zs = (List.replicate i true).map V.bl) (by rw [sizeLine_eq]; omega) ⟨Same.refl _, rfl⟩ ?_ ?_
    · rintro i zs H' hi _ ⟨g, rfl⟩
      obtain ⟨t1, ht1, hr1⟩ := hx.get (i := i) (v := xs[i]) (by simp [hxl, ← hyl, hi])
      obtain ⟨t2, ht2, hr2⟩ := hy.get (i := i) (v := ys[i]) (by simp [hi])
      rw [ht1] at ht2
      cases ht2
      have hm := List.mem_of_getElem? ht1
      have d1 := T.deps_le hm
      have d2 := T.szs_le hm
      walk_at "rd2"
      refine rIxL_i (SqL.of (g _ _ ha)) (v := xs[i]) (by rw [Int.zero_add]; exact atI_nat (by simp [hxl, ← hyl, hi])) (rIxL_i (SqL.of (g _ _ hb)) (v := ys[i]) (by rw [Int.zero_add]; exact atI_nat (by simp [hi])) ⟨_, _, t1, rfl, Rep.same g _ _ hr1, Rep.same g _ _ hr2, T.pures_mem hf hm, by omega, by omega, fun H4 g4 => ⟨g.trans g4, ?_⟩⟩)
      rw [List.replicate_succ']
      simp
    · rintro zs H' _ ⟨g, rfl⟩ p hp
      refine ⟨p, rfl, List.replicate ys.length true, SqL.of upd_same, ?_⟩
      rw [all_true]
      exact q _ (g2.trans (g.trans (same_new hp _)))
  | dic ks us =>
    have hty : tyS H u = some "dict" := hw.ty
    have htv : tyS H v = some "dict" := hv.ty
    have hnn : ¬ u = V.non := fun z => by rw [z] at hty; exact absurd (Option.some.inj hty) (by decide)
    refine iN hnn ⟨_, hty, iN (by decide +kernel) ⟨_, hty, iN (by decide +kernel) ⟨_, hty, iN (by decide +kernel) ⟨_, hty, iP (by decide +kernel) ⟨_, htv, iN (by decide +kernel) ?_⟩⟩⟩⟩⟩
    have hRd := hw
    obtain ⟨a, ps, rfl, ha, hk, hx⟩ := hv
    obtain ⟨b, rs, rfl, hb, hkb, hy⟩ := hw
    obtain ⟨nk, hf⟩ := hf
    have hd' : T.deps us + 1 < n + 1 := hd
    have hz' : T.szs us + 1 ≤ 100000 := hz
    have hpl : ps.length = us.length := by have := hx.length; rwa [List.length_map] at this
    have hrl : rs.length = us.length := by have := hy.length; rwa [List.length_map] at this
    have hul := T.szs_len us
    have nkp : (ps.map (·.1)).Nodup := by rw [hk]; exact nodup_nK nk
    have nkr : (rs.map (·.1)).Nodup := by rw [hkb]; exact nodup_nK nk
    have hsz : T.szs us < T.sz (.dic ks us) := Nat.lt_succ_self _
    refine ⟨a, rfl, ps, ha, b, rfl, rs, hb, false, by rw [hpl, hrl]; simp, iteF ⟨b, rfl, rs, .inl ⟨hb, fun o => ?_⟩⟩⟩
    have hxf : Reps (upd H b (.frz o (.dK rs))) (ps.map (·.2)) us := small_away hRd hsz hx
    have hyf : Reps (upd H b (.frz o (.dK rs))) (rs.map (·.2)) us := small_away hRd hsz hy
    have haf : ∀ H', Same (upd H b (.frz o (.dK rs))) H' → Rd H' a (.dK ps) := fun H' g => by
      by_cases e : a = b
      · subst e
        rw [hb] at ha
        cases ha
        exact .inr ⟨o, g _ _ upd_same⟩
      · exact .inl (g _ _ (by rw [upd_ne e]; exact ha))
    refine comp_dict (fun i zs H' => Same (upd H b (.frz o (.dK rs))) H' ∧ zs = (List.replicate i true).map V.bl) ?_ ⟨Same.refl _, rfl⟩ (fun i zs H' h => h.1 _ _ upd_same) ?_ ?_
    · rw [sizeLine_eq]; omega
    · rintro i rv zs H' hrv _ ⟨g, rfl⟩
      obtain ⟨t1, ht1, hr1⟩ := hyf.get (i := i) (v := rv.2) (by rw [List.getElem?_map, hrv]; rfl)
      have hm := List.mem_of_getElem? ht1
      have d1 := T.deps_le hm
      have d2 := T.szs_le hm
      have hkey : (ks.map nK)[i]? = some rv.1 := by rw [← hkb, List.getElem?_map, hrv]; rfl
      have hkey2 : (ps.map (·.1))[i]? = some rv.1 := by rw [hk]; exact hkey
      obtain ⟨kv, hkv, hrk⟩ : ∃ kv, ps[i]? = some kv ∧ kv.1 = rv.1 := by
        rw [List.getElem?_map] at hkey2
        cases hr : ps[i]? with
        | none => rw [hr] at hkey2; cases hkey2
        | some kv => rw [hr] at hkey2; exact ⟨kv, rfl, Option.some.inj hkey2⟩
      obtain ⟨t2, ht2, hr2⟩ := hxf.get (i := i) (v := kv.2) (by rw [List.getElem?_map, hkv]; rfl)
      rw [ht1] at ht2
      cases ht2
      have hgv : valV ps rv.1 = some kv.2 := valV_ix nkp (by rw [hkv, ← hrk])
      walk_at "rd2"
      have hdg : DGet H' a (kV rv.1) (some kv.2) := .inl ⟨ps, rv.1, haf H' g, rfl, hgv.symm⟩
      refine ⟨kV rv.1, rfl, .ref a, rfl, a, some kv.2, rfl, hdg, true, rfl, iP rfl ⟨kv.2, hdg, rv.2, .inl ⟨rs, rv.1, .inr ⟨o, g _ _ upd_same⟩, rfl, (valV_ix nkr hrv).symm⟩, _, _, t1, rfl, Rep.same g _ _ hr2, Rep.same g _ _ hr1, T.pures_mem hf hm, by omega, by omega, fun H4 g4 => ⟨g.trans g4, ?_⟩⟩⟩
      rw [List.replicate_succ']
      simp
    · rintro zs H' _ ⟨g, rfl⟩ p hp
      refine ⟨p, rfl, List.replicate rs.length true, SqL.of (thaw_of upd_same (by intro o v z; cases z)), ?_⟩
      rw [all_true]
      exact q _ (thaw_walk (o := o) hb (g.trans (same_new hp _)))
  | tup us => exact hf.elim
theorem ok_alike0 (F : Fun K "_law_alike" "_law_alike" sAlike f fd) : FnOk P w K mg base CX0 2 f fd ["_law_found", "_law_due"] (spAlike 0) := by
  refine F.ok scAlike (fun vs H Q E h => ?_) (fun cdv A outer s H vs Q E hr h => ?_)
  · obtain ⟨v, u, t, rfl, _⟩ := h
    rfl
  obtain ⟨v, u, t, rfl, hv, hw, hf, hd, _⟩ := h
  exact absurd hd (Nat.not_lt_zero _)
theorem alike_all (F : Fun K "_law_alike" "_law_alike" sAlike f fd) (B : Bl2 mg) (b : Binds K fd ["_law_found", "_law_due"] []) (kp : PySem.W.keepIn K (.ref f) = true) (m : mg "_law_alike" = some (.ref f)) :
    ∀ n : Nat, FnOk P w K mg base CX0 (2 + n) f fd ["_law_found", "_law_due"] (spAlike n)
  | 0 => ok_alike0 F
  | n + 1 => ok_alikeS F B ⟨_, _, alike_all F B b kp m n, b, kp, m⟩
end
end K34

namespace K34
open PySem L2
local macro_rules | `(tactic| walk_at "rd") => `(tactic| simp only [cxOf_K, nox_K, compCx_K, tSeq, tNext, tAsg, gName, tRet, tRetN, tIfS, tDrop, tOp, tUn, tVar, tC, tCall, tCons, tNil, tTest, tB, tAnd, tOr, tNot, tAndV, tOrV, tNotV, tIf, tCB, tBM, tComp, tTrue, tPart, tNoPart, tSl, tChain, tIsN, tNotN, tLst, tTup, tFor_eq, sDPut, tDNewK, tNever, rI0, rI, rU, rEq, rNe, rMulS, rInC, iRng1, iStr, CDiv, CMul, CPow, scal, List.append_nil, List.getElem?_cons_zero, List.getElem?_cons_succ, List.set_cons_zero, List.set_cons_succ, List.map_cons, List.map_nil, List.length_cons, List.length_nil, sizeLine_eq, Nat.reduceAdd, Nat.reduceLeDiff, Option.join_some, Option.join_none, Option.some.injEq, V.int.injEq, V.str.injEq, V.bl.injEq, V.ref.injEq, V.ty.injEq, List.cons.injEq, and_true, true_and, and_self, exists_eq_left', exists_eq_left, exists_and_left, exists_and_right, decide_eq_true_eq, Bool.not_eq_eq_eq_not, Bool.not_true, Bool.not_false, decide_eq_false_iff_not, Int.reduceLT, Int.reduceLE, Int.reduceNeg, Int.reducePow, Int.reduceAdd, Int.reduceSub, Int.reduceMul, Int.reduceToNat, natAbs10, Nat.reduceLT, Nat.reducePow, or_true, true_or, if_true, if_false, Bool.false_eq_true, ite_true, ite_false, reduceCtorEq])
local macro_rules | `(tactic| walk_at "rd2") => `(tactic| simp only [tDisp, tPairs, tBM0, iList, iDict, tThaw, tMaxD, rMaxD, tDGet, rVals, tComp, cxOf_K, nox_K, compCx_K, tSeq, tNext, tAsg, gName, tRet, tRetN, tIfS, tDrop, tOp, tUn, tVar, tC, tCall, tCons, tNil, tTest, tB, tAnd, tOr, tNot, tAndV, tOrV, tNotV, tIf, tCB, tBM, tComp, tTrue, tPart, tNoPart, tSl, tChain, tIsN, tNotN, tLst, tTup, tFor_eq, sDPut, tDNewK, tNever, rI0, rI, rU, rEq, rNe, rMulS, rInC, iRng1, iStr, CDiv, CMul, CPow, scal, List.append_nil, List.getElem?_cons_zero, List.getElem?_cons_succ, List.set_cons_zero, List.set_cons_succ, List.map_cons, List.map_nil, List.length_cons, List.length_nil, sizeLine_eq, Nat.reduceAdd, Nat.reduceLeDiff, Option.join_some, Option.join_none, Option.some.injEq, V.int.injEq, V.str.injEq, V.bl.injEq, V.ref.injEq, V.ty.injEq, List.cons.injEq, and_true, true_and, and_self, exists_eq_left', exists_eq_left, exists_and_left, exists_and_right, decide_eq_true_eq, Bool.not_eq_eq_eq_not, Bool.not_true, Bool.not_false, decide_eq_false_iff_not, Int.reduceLT, Int.reduceLE, Int.reduceNeg, Int.reducePow, Int.reduceAdd, Int.reduceSub, Int.reduceMul, Int.reduceToNat, natAbs10, Nat.reduceLT, Nat.reducePow, or_true, true_or, if_true, if_false, Bool.false_eq_true, ite_true, ite_false, reduceCtorEq])
seal L2.PSs L2.PS L2.PE L2.PT L2.PW L2.PA L2.PI L2.PG L2.PGs L2.PPs L2.PTs

abbrev sSteps : Stmt := top 2
abbrev sSpots : Stmt := top 1
section
variable {P : Program} {w : World} {K : PySem.W.Frag} {mg : Str → Option Value} {base : Heap} {f : Addr} {fd : FuncData}
theorem none_back {H H' : Hp} (g : Same H H') {p : Addr} (h : H' p = none) : H p = none := by
  cases e : H p with
  | none => rfl
  | some o => rw [g _ _ e] at h; cases h
def spSteps : Sp := fun vs H Q _ => ∃ (v : V) (t : T), vs = [v] ∧ Rep H v t ∧ T.few t ∧ ∀ l H', Same H H' → H l = none → H' l = some (.lst ((stepsT t).map scv)) → Q (.ref l) H'
theorem scSteps : FnScope ["thing"] ["thing"] (defScope sSteps) := ⟨rfl, rfl, rfl, by decide +kernel, rfl, by decide +kernel, by decide +kernel⟩
theorem ok_steps (F : Fun K "steps_from" "steps_from" sSteps f fd) (B : Bl2 mg) : FnOk P w K mg base CX0 1 f fd ["thing"] spSteps := by
  refine F.ok scSteps (fun vs H Q E h => ?_) (fun cdv A outer s H vs Q E hr h => ?_)
  · obtain ⟨v, t, rfl, _⟩ := h
    rfl
  obtain ⟨v, t, rfl, hv, hf, q⟩ := h
  have nd := scSteps.nd
  refine ⟨_, (pss_cons (ps_if (pt_val (pe_callB (call_isi (T := "list") (by decide)) rfl B.isinstance bt_isinstance (pa_cons (pv 0) (pa_cons (pe_bltn (v := .ty "list") rfl B.list bt_list rfl) pa_nil)))) (pss_one (ps_ret (pe_callTy (call_list_r rfl) rfl B.list bt_list (pa_cons (pe_callTy call_range rfl B.range bt_range (pa_cons (pe_callB call_len_l rfl B.len bt_len (pa_cons (pv 0) pa_nil)) pa_nil)) pa_nil)))) pss_nil)
    (pss_cons (ps_if (pt_val (pe_callB (call_isi (T := "dict") (by decide)) rfl B.isinstance bt_isinstance (pa_cons (pv 0) (pa_cons (pe_bltn (v := .ty "dict") rfl B.dict bt_dict rfl) pa_nil)))) (pss_one (ps_ret (pe_callB (call_sorted_d rfl) rfl B.sorted bt_sorted (pa_cons (pv 0) pa_nil)))) pss_nil)
    (pss_one (ps_ret (pe_lst pa_nil))))), ?_⟩
  rw [show start ["thing"] [v] = [some v] from rfl]
  walk_at "rd2"
  cases t with
  | lst us =>
    have hty : tyS H v = some "list" := hv.ty
    obtain ⟨a, xs, rfl, ha, hx⟩ := hv
    have hxl := hx.length
    have hul := hf.1
    refine ⟨_, hty, iP (by decide +kernel) ⟨a, rfl, xs, SqL.of ha, fun p hp => ⟨_, upd_same, by omega, by omega, fun l hl => ?_⟩⟩⟩
    have hlp : l ≠ p := fun z => by rw [z, upd_same] at hl; cases hl
    refine q l _ ((same_new hp _).trans (same_new hl _)) (by rw [upd_ne hlp] at hl; exact hl) ?_
    rw [upd_same, Int.toNat_natCast, hxl]
    show _ = some (HO.lst (((List.range us.length).map fun (i : Nat) => T.int (i : Int)).map scv))
    rw [List.map_map]
    rfl
  | dic ks us =>
    have hty : tyS H v = some "dict" := hv.ty
    obtain ⟨a, ps, rfl, ha, hk, hx⟩ := hv
    obtain ⟨nk, h64, hle, hf⟩ := hf
    refine ⟨_, hty, iN (by decide +kernel) ⟨_, hty, iP (by decide +kernel) ⟨a, rfl, ps, .inl ha, ks.map tx, by rw [hk, List.map_map]; rfl, by rw [List.length_map]; exact h64, fun l ss hl hp1 hs1 => ?_⟩⟩⟩
    refine q l _ (same_new hl _) hl ?_
    rw [upd_same, sorted_names hp1 hs1]
    show _ = some (HO.lst (((sortK ks).map T.str).map scv))
    rw [List.map_map, List.map_map]
    rfl
  | tup us => exact hf.elim
  | non => exact ⟨_, hv.ty, iN (by decide +kernel) ⟨_, hv.ty, iN (by decide +kernel) fun p hp => q p _ (same_new hp _) hp upd_same⟩⟩
  | bl b => exact ⟨"bool", hv.ty, iN (by decide +kernel) ⟨"bool", hv.ty, iN (by decide +kernel) fun p hp => q p _ (same_new hp _) hp upd_same⟩⟩
  | int b => exact ⟨"int", hv.ty, iN (by decide +kernel) ⟨"int", hv.ty, iN (by decide +kernel) fun p hp => q p _ (same_new hp _) hp upd_same⟩⟩
  | str b => exact ⟨"str", hv.ty, iN (by decide +kernel) ⟨"str", hv.ty, iN (by decide +kernel) fun p hp => q p _ (same_new hp _) hp upd_same⟩⟩
def spSpots (n : Nat) : Sp := fun vs H Q _ => ∃ (v : V) (t : T), vs = [v] ∧ Rep H v t ∧ T.few t ∧ T.dep t < n ∧ n ≤ 100 ∧ T.sz t ≤ 10000 ∧
  ∀ a ps H', Same H H' → H a = none → H' a = some (.lst (ps.map V.ref)) → Lay H' ps ((pth n t).map (·.map scv)) → (∀ p ∈ ps, H p = none) → ps.Nodup → a ∉ ps → Q (.ref a) H'
theorem scSpots : FnScope ["thing", "paths", "step"] ["thing"] (defScope sSpots) := ⟨rfl, rfl, rfl, by decide +kernel, rfl, by decide +kernel, by decide +kernel⟩
theorem ok_spotsS {n : Nat} (F : Fun K "spots" "spots" sSpots f fd) (B : Bl2 mg) (Gsteps_from : Dn P w K mg base 1 "steps_from" ["thing"] spSteps) (Gspots : Dn P w K mg base (2 + n) "spots" ["thing"] (spSpots n)) :
    FnOk P w K mg base CX0 (2 + n + 1) f fd ["thing"] (spSpots (n + 1)) := by
  refine F.ok scSpots (fun vs H Q E h => ?_) (fun cdv A outer s H vs Q E hr h => ?_)
  · obtain ⟨v, t, rfl, _⟩ := h
    rfl
  obtain ⟨v, t, rfl, hv, hf, hd, hn, hz, q⟩ := h
  have nd := scSpots.nd
  have hu := hu_of hr
  refine ⟨_, (pss_cons (ps_set (i := 1) nd rfl (Or.inl rfl) (pe_lst (pa_cons (pe_lst pa_nil) pa_nil)))
    (pss_cons (ps_for PassesOwn.never rfl (pi_list (pe_cd Gsteps_from hr (by omega) rfl (pa_cons (pv 0) pa_nil))) (pg_name (i := 2) nd rfl (Or.inr rfl)) (pss_one (ps_expr (pe_bm PySem.F.plainAttrs_list PySem.F.slot_list_extend PySem.F.type_list_extend mt_extend (pv 1) (pa_cons (pe_comp (own := ["path"]) (F := [("step", 2)]) ⟨rfl, by with_unfolding_all rfl, by with_unfolding_all rfl, by with_unfolding_all rfl, (.cons rfl rfl rfl .nil)⟩ rfl (pi_list (pe_cd Gspots hr (by omega) rfl (pa_cons (pe_either (pe_ix ix_list (pv 0) (pv 2) (fun _ _ => rfl)) (pe_dget hu (pv 0) (pv 2) (fun _ _ => rfl))) pa_nil))) (fun _ _ _ _ => pg_name (i := 0) (by show (compN ["path"] [("step", 2)]).Nodup; decide +kernel) rfl (Or.inl rfl)) (fun _ _ _ _ => pts_nil) (fun _ _ _ _ => (pe_op op_cat (pe_lst (pa_cons (pv 1) pa_nil)) (pv 0)))) pa_nil)))))
    (pss_one (ps_ret (pv 1))))), ?_⟩
  rw [show start ["thing", "paths", "step"] [v] = [some v, none, none] from rfl]
  walk_at "rd2"
  intro p0 hp0 a0 ha0
  have hap : a0 ≠ p0 := fun z => by rw [z, upd_same] at ha0; cases ha0
  have haH : H a0 = none := by rw [upd_ne hap] at ha0; exact ha0
  have g00 := (same_new hp0 (.lst [])).trans (same_new ha0 (.lst [V.ref p0]))
  refine ⟨v, t, rfl, Rep.same g00 v t hv, hf, fun l H1 g1 hl0 hl => ⟨l, rfl, ⟨_, SqL.of hl⟩, ?_⟩⟩
  have hla : l ≠ a0 := fun z => by rw [z, upd_same] at hl0; cases hl0
  have hsz := pth_len (n + 1) t hf
  refine forB_list (K := K) (a := l) (xs := (stepsT t).map scv) (fun i σ H2 => (∃ o, σ = [some v, some (V.ref a0), o]) ∧ Same H H2 ∧ H2 l = some (.lst ((stepsT t).map scv)) ∧ ∃ ps, H2 a0 = some (.lst (ps.map V.ref)) ∧ Lay H2 ps ((pthTo n t i).map (·.map scv)) ∧ (∀ p ∈ ps, H p = none) ∧ ps.Nodup ∧ a0 ∉ ps) ⟨⟨_, rfl⟩, g00.trans g1, hl, [p0], g1 _ _ upd_same, ⟨g1 _ _ (by rw [upd_ne hap.symm]; exact upd_same), True.intro⟩, fun p hp => by rw [List.mem_singleton.mp hp]; exact hp0, by simp, by simp [hap]⟩ (fun i σ H2 _ h => SqL.of h.2.2.1) ?_ ?_
  · rintro i x σ H2 hx ⟨⟨o, rfl⟩, g, hl2, ps, ha, hL, hfr, hnd, hna⟩
    obtain ⟨s', hs', rfl⟩ : ∃ s', (stepsT t)[i]? = some s' ∧ x = scv s' := by
      rw [List.getElem?_map] at hx
      cases hc : (stepsT t)[i]? with
      | none => rw [hc] at hx; cases hx
      | some s' => rw [hc] at hx; exact ⟨s', rfl, (Option.some.inj hx).symm⟩
    have hsm := List.mem_of_getElem? hs'
    obtain ⟨k1, k2, k3⟩ := few_kid hf hsm
    walk_at "rd2"
    refine ⟨Or.inl ⟨rfl, _, SqL.of ha⟩, sub_kid rfl rfl (Rep.same g _ _ hv) hf hsm fun c hc => ⟨c, kid t s', rfl, hc, k1, by omega, by omega, by omega, fun b rs H3 g3 hb0 hb hLr hrf hrn hbn => ⟨b, rfl, ⟨_, SqL.of hb⟩, ?_⟩⟩⟩
    have hlr := hLr.length
    rw [List.length_map] at hlr
    have hkl := pth_len n _ k1
    refine comp_list (K := K) (xs := rs.map V.ref) (fun j zs H' => Same H3 H' ∧ ∃ qs, zs = qs.map V.ref ∧ Lay H' qs (((pth n (kid t s')).take j).map fun p => (s' :: p).map scv) ∧ (∀ q ∈ qs, H3 q = none) ∧ qs.Nodup) (by rw [sizeLine_eq, List.length_map]; omega) ⟨Same.refl _, [], rfl, True.intro, fun _ h => (nomatch h), List.nodup_nil⟩ (fun j zs H' _ h => SqL.of (h.1 _ _ hb)) ?_ ?_
    · rintro j y zs H' hy _ ⟨g4, qs, rfl, hLq, hq0, hqn⟩
      obtain ⟨r, hr', rfl⟩ : ∃ r, rs[j]? = some r ∧ y = V.ref r := by
        rw [List.getElem?_map] at hy
        cases hc : rs[j]? with
        | none => rw [hc] at hy; cases hy
        | some r => rw [hc] at hy; exact ⟨r, rfl, (Option.some.inj hy).symm⟩
      obtain ⟨wv, hw1, hw2⟩ := hLr.get hr'
      obtain ⟨pp, hpp, rfl⟩ : ∃ pp, (pth n (kid t s'))[j]? = some pp ∧ wv = pp.map scv := by
        rw [List.getElem?_map] at hw1
        cases hc : (pth n (kid t s'))[j]? with
        | none => rw [hc] at hw1; cases hw1
        | some pp => rw [hc] at hw1; exact ⟨pp, rfl, (Option.some.inj hw1).symm⟩
      have hpl := (pth_sc n _ pp (List.mem_of_getElem? hpp)).2
      walk_at "rd2"
      intro p1 hp1
      have g5 := same_new hp1 (.lst [scv s'])
      refine ⟨p1, r, [scv s'], pp.map scv, rfl, rfl, upd_same, g5 _ _ (g4 _ _ hw2), by rw [sizeLine_eq, List.length_map]; simp only [List.length_cons, List.length_nil]; omega, fun p2 hp2 => ?_⟩
      have g6 := g5.trans (same_new hp2 (.lst ([scv s'] ++ pp.map scv)))
      refine ⟨g4.trans g6, qs ++ [p2], by simp, ?_, ?_, ?_⟩
      · rw [take_succ_of hpp, List.map_append]
        exact Lay.append (show Lay _ [p2] [(s' :: pp).map scv] from ⟨upd_same, True.intro⟩) (hLq.same g6)
      · intro q hq
        rcases List.mem_append.mp hq with z | z
        · exact hq0 q z
        · rw [List.mem_singleton.mp z]
          exact none_back (g4.trans g5) hp2
      · refine nd_snoc hqn fun z => ?_
        obtain ⟨o', ho'⟩ := (hLq.same g5).there z
        rw [hp2] at ho'; cases ho'
    · rintro zs H' _ ⟨g4, qs, rfl, hLq, hq0, hqn⟩ L hL0
      rw [List.length_map, hlr, List.take_length] at hLq
      have g5 := same_new hL0 (.lst (qs.map V.ref))
      have G := g3.trans (g4.trans g5)
      have hlps := hL.length
      have hlqs := hLq.length
      rw [List.length_map] at hlps hlqs
      have hto := pthTo_len (n := n) (t := t) i
      have haq : a0 ∉ qs := fun z => by
        have := hq0 _ z
        rw [g3 _ _ ha] at this; cases this
      refine ⟨a0, L, ps.map V.ref, qs.map V.ref, rfl, rfl, G _ _ ha, upd_same, by rw [sizeLine_eq, List.length_map, List.length_map]; omega, ⟨_, rfl⟩, ?_, ?_, ps ++ qs, ?_, ?_, ?_, ?_, ?_⟩
      · exact (g.trans G).put haH _
      · rw [upd_ne hla]; exact G _ _ hl2
      · rw [upd_same, List.map_append]
      · rw [pthTo_succ hs', List.map_append, List.map_map]
        refine Lay.away ?_ (Lay.append (hLq.same g5) (hL.same G))
        intro z
        rcases List.mem_append.mp z with c | c
        · exact hna c
        · exact haq c
      · intro p hp
        rcases List.mem_append.mp hp with c | c
        · exact hfr p c
        · exact none_back (g.trans g3) (hq0 p c)
      · refine List.nodup_append.mpr ⟨hnd, hqn, fun a1 h1 b1 h2 e => ?_⟩
        subst e
        obtain ⟨o', ho'⟩ := hL.there h1
        have := hq0 _ h2
        rw [g3 _ _ ho'] at this; cases this
      · intro z
        rcases List.mem_append.mp z with c | c
        · exact hna c
        · exact haq c
  · rintro σ H2 ⟨⟨o, rfl⟩, g, hl2, ps, ha, hL, hfr, hnd, hna⟩
    walk_at "rd2"
    rw [List.length_map, pthTo_all] at hL
    exact q a0 ps H2 g haH ha hL hfr hnd hna
theorem ok_spots0 (F : Fun K "spots" "spots" sSpots f fd) : FnOk P w K mg base CX0 2 f fd ["thing"] (spSpots 0) := by
  refine F.ok scSpots (fun vs H Q E h => ?_) (fun cdv A outer s H vs Q E hr h => ?_)
  · obtain ⟨v, t, rfl, _⟩ := h
    rfl
  obtain ⟨v, t, rfl, hv, hf, hd, _⟩ := h
  exact absurd hd (Nat.not_lt_zero _)
theorem spots_all (F : Fun K "spots" "spots" sSpots f fd) (B : Bl2 mg) (Gs : Dn P w K mg base 1 "steps_from" ["thing"] spSteps) (b : Binds K fd ["thing"] []) (kp : PySem.W.keepIn K (.ref f) = true) (m : mg "spots" = some (.ref f)) :
    ∀ n : Nat, FnOk P w K mg base CX0 (2 + n) f fd ["thing"] (spSpots n)
  | 0 => ok_spots0 F
  | n + 1 => ok_spotsS F B Gs ⟨_, _, spots_all F B Gs b kp m n, b, kp, m⟩
end
end K34

namespace K34
open PySem L2
local macro_rules | `(tactic| walk_at "rd") => `(tactic| simp only [cxOf_K, nox_K, compCx_K, tSeq, tNext, tAsg, gName, tRet, tRetN, tIfS, tDrop, tOp, tUn, tVar, tC, tCall, tCons, tNil, tTest, tB, tAnd, tOr, tNot, tAndV, tOrV, tNotV, tIf, tCB, tBM, tComp, tTrue, tPart, tNoPart, tSl, tChain, tIsN, tNotN, tLst, tTup, tFor_eq, sDPut, tDNewK, tNever, rI0, rI, rU, rEq, rNe, rMulS, rInC, iRng1, iStr, CDiv, CMul, CPow, scal, List.append_nil, List.getElem?_cons_zero, List.getElem?_cons_succ, List.set_cons_zero, List.set_cons_succ, List.map_cons, List.map_nil, List.length_cons, List.length_nil, sizeLine_eq, Nat.reduceAdd, Nat.reduceLeDiff, Option.join_some, Option.join_none, Option.some.injEq, V.int.injEq, V.str.injEq, V.bl.injEq, V.ref.injEq, V.ty.injEq, List.cons.injEq, and_true, true_and, and_self, exists_eq_left', exists_eq_left, exists_and_left, exists_and_right, decide_eq_true_eq, Bool.not_eq_eq_eq_not, Bool.not_true, Bool.not_false, decide_eq_false_iff_not, Int.reduceLT, Int.reduceLE, Int.reduceNeg, Int.reducePow, Int.reduceAdd, Int.reduceSub, Int.reduceMul, Int.reduceToNat, natAbs10, Nat.reduceLT, Nat.reducePow, or_true, true_or, if_true, if_false, Bool.false_eq_true, ite_true, ite_false, reduceCtorEq])
local macro_rules | `(tactic| walk_at "rd2") => `(tactic| simp only [tDisp, tPairs, tBM0, iList, iDict, tThaw, tMaxD, rMaxD, tDGet, rVals, tComp, cxOf_K, nox_K, compCx_K, tSeq, tNext, tAsg, gName, tRet, tRetN, tIfS, tDrop, tOp, tUn, tVar, tC, tCall, tCons, tNil, tTest, tB, tAnd, tOr, tNot, tAndV, tOrV, tNotV, tIf, tCB, tBM, tComp, tTrue, tPart, tNoPart, tSl, tChain, tIsN, tNotN, tLst, tTup, tFor_eq, sDPut, tDNewK, tNever, rI0, rI, rU, rEq, rNe, rMulS, rInC, iRng1, iStr, CDiv, CMul, CPow, scal, List.append_nil, List.getElem?_cons_zero, List.getElem?_cons_succ, List.set_cons_zero, List.set_cons_succ, List.map_cons, List.map_nil, List.length_cons, List.length_nil, sizeLine_eq, Nat.reduceAdd, Nat.reduceLeDiff, Option.join_some, Option.join_none, Option.some.injEq, V.int.injEq, V.str.injEq, V.bl.injEq, V.ref.injEq, V.ty.injEq, List.cons.injEq, and_true, true_and, and_self, exists_eq_left', exists_eq_left, exists_and_left, exists_and_right, decide_eq_true_eq, Bool.not_eq_eq_eq_not, Bool.not_true, Bool.not_false, decide_eq_false_iff_not, Int.reduceLT, Int.reduceLE, Int.reduceNeg, Int.reducePow, Int.reduceAdd, Int.reduceSub, Int.reduceMul, Int.reduceToNat, natAbs10, Nat.reduceLT, Nat.reducePow, or_true, true_or, if_true, if_false, Bool.false_eq_true, ite_true, ite_false, reduceCtorEq])
seal L2.PSs L2.PS L2.PE L2.PT L2.PW L2.PA L2.PI L2.PG L2.PGs L2.PPs L2.PTs

abbrev sLSp : Stmt := top 15
section
variable {P : Program} {w : World} {K : PySem.W.Frag} {mg : Str → Option Value} {base : Heap} {f : Addr} {fd : FuncData}
def spLSp (n : Nat) : Sp := fun vs H Q _ => ∃ (v : V) (t : T), vs = [v] ∧ Rep H v t ∧ T.few t ∧ T.dep t < n ∧ n ≤ 100 ∧ T.sz t ≤ 10000 ∧
  ∀ a ys H', Same H H' → H' a = some (.lst ys) → Reps H' ys ((pth n t).map T.lst) → Q (.ref a) H'
/-- a step put ahead of each path -/
theorem ahead_comp {x nm : Str} {j m : Nat} {b : Addr} {ys : List V} {pp : List (List T)} {st : T} {σ : St} {Q : VK} {H1 : Hp} (hb : H1 b = some (.lst ys)) (hR : Reps H1 ys (pp.map T.lst)) (hs : Sc st) (hj : (σ[j]?).join = some (scv st)) (hl : pp.length ≤ 10000) (hm : ∀ p ∈ pp, p.length < m) (h100 : m ≤ 100)
    (q : ∀ p zs H', Same H1 H' → H' p = some (.lst zs) → Reps H' zs ((pp.map (st :: ·)).map T.lst) → Q (.ref p) H') :
    CompBody [x] [(nm, j)] (gName 0) tTrue (tOp rCat (tLst (tCons (tVar 1) tNil)) (tVar 0)) σ Q (Itl K b) H1 := by
  have hyl := hR.length
  rw [List.length_map] at hyl
  refine comp_list (K := K) (xs := ys) (fun i zs H' => Same H1 H' ∧ Reps H' zs (((pp.take i).map (st :: ·)).map T.lst)) ?_ ⟨Same.refl _, rfl⟩ (fun i zs H' _ h => SqL.of (h.1 _ _ hb)) ?_ ?_
  · rw [sizeLine_eq]; omega
  · rintro i y zs H' hy _ ⟨g, hZ⟩
    obtain ⟨t', ht', hr'⟩ := hR.get hy
    obtain ⟨p, hp, rfl⟩ : ∃ p, pp[i]? = some p ∧ t' = .lst p := by
      rw [List.getElem?_map] at ht'
      cases hc : pp[i]? with
      | none => rw [hc] at ht'; cases ht'
      | some p => rw [hc] at ht'; exact ⟨p, rfl, (Option.some.inj ht').symm⟩
    obtain ⟨r, ws, rfl, hrr, hws⟩ := hr'
    have hwl := hws.length
    have hpl := hm p (List.mem_of_getElem? hp)
    walk_at "rd2"
    rw [hj]
    refine ⟨scv st, rfl, fun p1 hp1 => ?_⟩
    have g5 := same_new hp1 (.lst [scv st])
    refine ⟨p1, r, [scv st], ws, rfl, rfl, upd_same, g5 _ _ (g _ _ hrr), by rw [sizeLine_eq]; simp only [List.length_cons, List.length_nil]; omega, fun p2 hp2 => ?_⟩
    have g6 := g5.trans (same_new hp2 (.lst ([scv st] ++ ws)))
    refine ⟨g.trans g6, ?_⟩
    rw [take_succ_of hp, List.map_append, List.map_append]
    have hrep : Rep (upd (upd H' p1 (.lst [scv st])) p2 (.lst ([scv st] ++ ws))) (.ref p2) (.lst (st :: p)) := ⟨p2, [scv st] ++ ws, rfl, upd_same, scv st, ws, rfl, hs.rep, Reps.same (g.trans g6) _ _ hws⟩
    exact Reps.snoc hrep (Reps.same g6 _ _ hZ)
  · rintro zs H' _ ⟨g, hZ⟩ p hp
    rw [hyl, List.take_length] at hZ
    exact q p zs _ (g.trans (same_new hp _)) upd_same (Reps.same (same_new hp _) _ _ hZ)
theorem scLSp : FnScope ["_law_thing", "_law_found", "_law_k", "_law_name"] ["_law_thing"] (defScope sLSp) := ⟨rfl, rfl, rfl, by decide +kernel, rfl, by decide +kernel, by decide +kernel⟩
theorem ok_lspS {n : Nat} (F : Fun K "_law_spots" "_law_spots" sLSp f fd) (B : Bl2 mg) (G_law_spots : Dn P w K mg base (2 + n) "_law_spots" ["_law_thing"] (spLSp n)) :
    FnOk P w K mg base CX0 (2 + n + 1) f fd ["_law_thing"] (spLSp (n + 1)) := by
  refine F.ok scLSp (fun vs H Q E h => ?_) (fun cdv A outer s H vs Q E hr h => ?_)
  · obtain ⟨v, t, rfl, _⟩ := h
    rfl
  obtain ⟨v, t, rfl, hv, hf, hd, hn, hz, q⟩ := h
  have nd := scLSp.nd
  have hu := hu_of hr
  refine ⟨_, (pss_cons (ps_set (i := 1) nd rfl (Or.inl rfl) (pe_lst (pa_cons (pe_lst pa_nil) pa_nil)))
    (pss_cons (ps_if (pt_val (pe_callB (call_isi (T := "list") (by decide)) rfl B.isinstance bt_isinstance (pa_cons (pv 0) (pa_cons (pe_bltn (v := .ty "list") rfl B.list bt_list rfl) pa_nil)))) (pss_one (ps_for PassesOwn.never rfl (pi_range1 rfl B.range (pa_cons (pe_callB call_len_l rfl B.len bt_len (pa_cons (pv 0) pa_nil)) pa_nil)) (pg_name (i := 2) nd rfl (Or.inr rfl)) (pss_one (ps_set (i := 1) nd rfl (Or.inl rfl) (pe_op op_cat (pv 1) (pe_comp (own := ["_law_path"]) (F := [("_law_k", 2)]) ⟨rfl, by with_unfolding_all rfl, by with_unfolding_all rfl, by with_unfolding_all rfl, (.cons rfl rfl rfl .nil)⟩ rfl (pi_list (pe_cd G_law_spots hr (by omega) rfl (pa_cons (pe_ix ix_list (pv 0) (pv 2) (fun _ _ => rfl)) pa_nil))) (fun _ _ _ _ => pg_name (i := 0) (by show (compN ["_law_path"] [("_law_k", 2)]).Nodup; decide +kernel) rfl (Or.inl rfl)) (fun _ _ _ _ => pts_nil) (fun _ _ _ _ => (pe_op op_cat (pe_lst (pa_cons (pv 1) pa_nil)) (pv 0))))))))) pss_nil)
    (pss_cons (ps_if (pt_val (pe_callB (call_isi (T := "dict") (by decide)) rfl B.isinstance bt_isinstance (pa_cons (pv 0) (pa_cons (pe_bltn (v := .ty "dict") rfl B.dict bt_dict rfl) pa_nil)))) (pss_one (ps_for PassesOwn.never rfl (pi_list (pe_callB (call_sorted_d rfl) rfl B.sorted bt_sorted (pa_cons (pv 0) pa_nil))) (pg_name (i := 3) nd rfl (Or.inr rfl)) (pss_one (ps_set (i := 1) nd rfl (Or.inl rfl) (pe_op op_cat (pv 1) (pe_comp (own := ["_law_path"]) (F := [("_law_name", 3)]) ⟨rfl, by with_unfolding_all rfl, by with_unfolding_all rfl, by with_unfolding_all rfl, (.cons rfl rfl rfl .nil)⟩ rfl (pi_list (pe_cd G_law_spots hr (by omega) rfl (pa_cons (pe_dget hu (pv 0) (pv 3) (fun _ _ => rfl)) pa_nil))) (fun _ _ _ _ => pg_name (i := 0) (by show (compN ["_law_path"] [("_law_name", 3)]).Nodup; decide +kernel) rfl (Or.inl rfl)) (fun _ _ _ _ => pts_nil) (fun _ _ _ _ => (pe_op op_cat (pe_lst (pa_cons (pv 1) pa_nil)) (pv 0))))))))) pss_nil)
    (pss_one (ps_ret (pv 1)))))), ?_⟩
  rw [show start ["_law_thing", "_law_found", "_law_k", "_law_name"] [v] = [some v, none, none, none] from rfl]
  walk_at "rd2"
  intro p0 hp0 a0 ha0
  have hap : a0 ≠ p0 := fun z => by rw [z, upd_same] at ha0; cases ha0
  have g00 := (same_new hp0 (.lst [])).trans (same_new ha0 (.lst [V.ref p0]))
  have hR0 : Reps (upd (upd H p0 (.lst [])) a0 (.lst [V.ref p0])) [V.ref p0] ((pthTo n t 0).map T.lst) := ⟨_, [], rfl, ⟨p0, [], rfl, by rw [upd_ne hap.symm]; exact upd_same, rfl⟩, rfl⟩
  have hA0 : upd (upd H p0 (.lst [])) a0 (.lst [V.ref p0]) a0 = some (.lst [V.ref p0]) := upd_same
  have hsz := pth_len (n + 1) t hf
  generalize upd (upd H p0 (.lst [])) a0 (.lst [V.ref p0]) = H1 at g00 hR0 hA0 ⊢
  have hv1 := Rep.same g00 _ _ hv
  cases t with
  | lst us =>
    have hty : tyS H1 v = some "list" := hv1.ty
    refine ⟨_, hty, iP (by decide +kernel) ?_⟩
    obtain ⟨a, xs, rfl, ha, hx⟩ := hv1
    have hxl := hx.length
    have hul := hf.1
    have hsl : (stepsT (.lst us)).length = xs.length := by
      show ((List.range us.length).map fun (i : Nat) => T.int (i : Int)).length = _
      rw [List.length_map, List.length_range, hxl]
    refine ⟨a, rfl, xs, SqL.of ha, by omega, by omega, ?_⟩
    rw [Int.toNat_natCast]
    refine forB_rng (fun i σ H2 => (∃ b o ys, σ = [some (V.ref a), some (V.ref b), o, none] ∧ H2 b = some (.lst ys) ∧ Reps H2 ys ((pthTo n (.lst us) i).map T.lst)) ∧ Same H1 H2) ⟨⟨a0, _, _, rfl, hA0, hR0⟩, Same.refl _⟩ ?_ ?_
    · rintro i σ H2 hi ⟨⟨b, o, ys, rfl, hb, hR⟩, g⟩
      have hst : (stepsT (.lst us))[i]? = some (.int (i : Int)) := by
        show ((List.range us.length).map fun (i : Nat) => T.int (i : Int))[i]? = _
        rw [List.getElem?_map, List.getElem?_range (by omega)]; rfl
      obtain ⟨t', ht', hr'⟩ := hx.get (i := i) (v := xs[i]) (by simp [hi])
      have e : kid (.lst us) (T.int (i : Int)) = t' := by
        show us.getD (i : Int).toNat .non = _
        rw [Int.toNat_natCast, List.getD_eq_getElem?_getD, ht']; rfl
      obtain ⟨k1, k2, k3⟩ := few_kid hf (List.mem_of_getElem? hst)
      have hkl := pth_len n _ k1
      have hsc := pth_sc n (kid (.lst us) (T.int (i : Int)))
      have hto := pthTo_len (n := n) (t := .lst us) i
      have hrl := hR.length
      rw [List.length_map] at hrl
      walk_at "rd2"
      refine rIxL_i (SqL.of (g _ _ ha)) (v := xs[i]) (by rw [Int.zero_add]; exact atI_nat (by simp [hi])) ⟨_, kid (.lst us) (T.int (i : Int)), rfl, by rw [e]; exact Rep.same g _ _ hr', k1, by omega, by omega, by omega, fun b2 ys2 H3 g3 hb2 hR2 => ⟨b2, rfl, ⟨_, SqL.of hb2⟩, ?_⟩⟩
      refine ahead_comp (st := .int (i : Int)) (m := n) hb2 hR2 (.inl ⟨_, rfl⟩) (by rw [Int.zero_add]; rfl) (by omega) (fun p hp => (hsc p hp).2) (by omega) fun p zs H4 g4 hp hZ => ?_
      have hzl := hZ.length
      rw [List.length_map, List.length_map] at hzl
      refine ⟨b, p, ys, zs, rfl, rfl, g4 _ _ (g3 _ _ hb), hp, by rw [sizeLine_eq]; omega, fun p2 hp2 => ⟨⟨p2, ⟨rfl, _, rfl⟩, _, upd_same, ?_⟩, g.trans (g3.trans (g4.trans (same_new hp2 _)))⟩⟩
      rw [pthTo_succ hst, List.map_append]
      exact Reps.append (Reps.same (same_new hp2 _) _ _ hZ) (Reps.same (g3.trans (g4.trans (same_new hp2 _))) _ _ hR)
    · rintro σ H2 ⟨⟨b, o, ys, rfl, hb, hR⟩, g⟩
      walk_at "rd2"
      rw [← hsl, pthTo_all] at hR
      exact ⟨_, tyS_same g hty, iN (by decide +kernel) (q b ys _ (g00.trans g) hb hR)⟩
  | dic ks us =>
    have hty : tyS H1 v = some "dict" := hv1.ty
    refine ⟨_, hty, iN (by decide +kernel) ⟨_, hty, iP (by decide +kernel) ?_⟩⟩
    obtain ⟨a, ps, rfl, ha, hk, hx⟩ := hv1
    have hf0 := hf
    obtain ⟨nk, h64, hle, hf⟩ := hf
    refine ⟨a, rfl, ps, .inl ha, ks.map tx, by rw [hk, List.map_map]; rfl, by rw [List.length_map]; exact h64, fun l ss hl hp1 hs1 => ⟨⟨_, SqL.of upd_same⟩, ?_⟩⟩
    have es : ss.map V.str = (stepsT (.dic ks us)).map scv := by
      rw [sorted_names hp1 hs1]
      show _ = ((sortK ks).map T.str).map scv
      rw [List.map_map, List.map_map]
      rfl
    rw [es]
    have gl := same_new hl (.lst ((stepsT (.dic ks us)).map scv))
    have hll : upd H1 l (.lst ((stepsT (.dic ks us)).map scv)) l = some (.lst ((stepsT (.dic ks us)).map scv)) := upd_same
    generalize upd H1 l (.lst ((stepsT (.dic ks us)).map scv)) = H2 at gl hll ⊢
    refine forB_list (K := K) (a := l) (xs := (stepsT (.dic ks us)).map scv) (fun i σ H3 => (∃ b o ys, σ = [some (V.ref a), some (V.ref b), none, o] ∧ H3 b = some (.lst ys) ∧ Reps H3 ys ((pthTo n (.dic ks us) i).map T.lst)) ∧ Same H2 H3) ⟨⟨a0, _, _, rfl, gl _ _ hA0, Reps.same gl _ _ hR0⟩, Same.refl _⟩ (fun i σ H3 _ h => SqL.of (h.2 _ _ hll)) ?_ ?_
    · rintro i y σ H3 hy ⟨⟨b, o, ys, rfl, hb, hR⟩, g⟩
      obtain ⟨s', hs', rfl⟩ : ∃ s', (stepsT (.dic ks us))[i]? = some s' ∧ y = scv s' := by
        rw [List.getElem?_map] at hy
        cases hc : (stepsT (.dic ks us))[i]? with
        | none => rw [hc] at hy; cases hy
        | some s' => rw [hc] at hy; exact ⟨s', rfl, (Option.some.inj hy).symm⟩
      have hsm := List.mem_of_getElem? hs'
      obtain ⟨k, hkm, rfl⟩ := List.mem_map.mp (show s' ∈ (sortK ks).map T.str from hsm)
      obtain ⟨k1, k2, k3⟩ := few_kid hf0 hsm
      have hkl := pth_len n _ k1
      have hsc := pth_sc n (kid (.dic ks us) (T.str k))
      have hto := pthTo_len (n := n) (t := .dic ks us) i
      have hrl := hR.length
      rw [List.length_map] at hrl
      have G := gl.trans g
      obtain ⟨c, hc1, hc2⟩ := Rep.at_name nk hk (Reps.same G _ _ hx) (mem_sortK.mp hkm)
      walk_at "rd2"
      refine ⟨c, .inl ⟨ps, Sum.inr (tx k), .inl (G _ _ ha), rfl, hc1.symm⟩, c, kid (.dic ks us) (T.str k), rfl, hc2, k1, by omega, by omega, by omega, fun b2 ys2 H4 g4 hb2 hR2 => ⟨b2, rfl, ⟨_, SqL.of hb2⟩, ?_⟩⟩
      refine ahead_comp (st := .str k) (m := n) hb2 hR2 (.inr ⟨_, rfl⟩) rfl (by omega) (fun p hp => (hsc p hp).2) (by omega) fun p zs H5 g5 hp hZ => ?_
      have hzl := hZ.length
      rw [List.length_map, List.length_map] at hzl
      refine ⟨b, p, ys, zs, rfl, rfl, g5 _ _ (g4 _ _ hb), hp, by rw [sizeLine_eq]; omega, fun p2 hp2 => ⟨⟨p2, ⟨rfl, _, rfl⟩, _, upd_same, ?_⟩, g.trans (g4.trans (g5.trans (same_new hp2 _)))⟩⟩
      rw [pthTo_succ hs', List.map_append]
      exact Reps.append (Reps.same (same_new hp2 _) _ _ hZ) (Reps.same (g4.trans (g5.trans (same_new hp2 _))) _ _ hR)
    · rintro σ H3 ⟨⟨b, o, ys, rfl, hb, hR⟩, g⟩
      walk_at "rd2"
      rw [List.length_map, pthTo_all] at hR
      exact q b ys _ (g00.trans (gl.trans g)) hb hR
  | tup us => exact hf.elim
  | non => exact ⟨_, hv1.ty, iN (by decide +kernel) ⟨_, hv1.ty, iN (by decide +kernel) (q a0 _ _ g00 hA0 hR0)⟩⟩
  | bl b => exact ⟨"bool", hv1.ty, iN (by decide +kernel) ⟨"bool", hv1.ty, iN (by decide +kernel) (q a0 _ _ g00 hA0 hR0)⟩⟩
  | int b => exact ⟨"int", hv1.ty, iN (by decide +kernel) ⟨"int", hv1.ty, iN (by decide +kernel) (q a0 _ _ g00 hA0 hR0)⟩⟩
  | str b => exact ⟨"str", hv1.ty, iN (by decide +kernel) ⟨"str", hv1.ty, iN (by decide +kernel) (q a0 _ _ g00 hA0 hR0)⟩⟩
theorem ok_lsp0 (F : Fun K "_law_spots" "_law_spots" sLSp f fd) : FnOk P w K mg base CX0 2 f fd ["_law_thing"] (spLSp 0) := by
  refine F.ok scLSp (fun vs H Q E h => ?_) (fun cdv A outer s H vs Q E hr h => ?_)
  · obtain ⟨v, t, rfl, _⟩ := h
    rfl
  obtain ⟨v, t, rfl, hv, hf, hd, _⟩ := h
  exact absurd hd (Nat.not_lt_zero _)
theorem lsp_all (F : Fun K "_law_spots" "_law_spots" sLSp f fd) (B : Bl2 mg) (b : Binds K fd ["_law_thing"] []) (kp : PySem.W.keepIn K (.ref f) = true) (m : mg "_law_spots" = some (.ref f)) :
    ∀ n : Nat, FnOk P w K mg base CX0 (2 + n) f fd ["_law_thing"] (spLSp n)
  | 0 => ok_lsp0 F
  | n + 1 => ok_lspS F B ⟨_, _, lsp_all F B b kp m n, b, kp, m⟩
end
end K34

namespace K34
open PySem L2
local macro_rules | `(tactic| walk_at "rd") => `(tactic| simp only [cxOf_K, nox_K, compCx_K, tSeq, tNext, tAsg, gName, tRet, tRetN, tIfS, tDrop, tOp, tUn, tVar, tC, tCall, tCons, tNil, tTest, tB, tAnd, tOr, tNot, tAndV, tOrV, tNotV, tIf, tCB, tBM, tComp, tTrue, tPart, tNoPart, tSl, tChain, tIsN, tNotN, tLst, tTup, tFor_eq, sDPut, tDNewK, tNever, rI0, rI, rU, rEq, rNe, rMulS, rInC, iRng1, iStr, CDiv, CMul, CPow, scal, List.append_nil, List.getElem?_cons_zero, List.getElem?_cons_succ, List.set_cons_zero, List.set_cons_succ, List.map_cons, List.map_nil, List.length_cons, List.length_nil, sizeLine_eq, Nat.reduceAdd, Nat.reduceLeDiff, Option.join_some, Option.join_none, Option.some.injEq, V.int.injEq, V.str.injEq, V.bl.injEq, V.ref.injEq, V.ty.injEq, List.cons.injEq, and_true, true_and, and_self, exists_eq_left', exists_eq_left, exists_and_left, exists_and_right, decide_eq_true_eq, Bool.not_eq_eq_eq_not, Bool.not_true, Bool.not_false, decide_eq_false_iff_not, Int.reduceLT, Int.reduceLE, Int.reduceNeg, Int.reducePow, Int.reduceAdd, Int.reduceSub, Int.reduceMul, Int.reduceToNat, natAbs10, Nat.reduceLT, Nat.reducePow, or_true, true_or, if_true, if_false, Bool.false_eq_true, ite_true, ite_false, reduceCtorEq])
local macro_rules | `(tactic| walk_at "rd2") => `(tactic| simp only [tDisp, tPairs, tBM0, iList, iDict, tThaw, tMaxD, rMaxD, tDGet, rVals, tComp, cxOf_K, nox_K, compCx_K, tSeq, tNext, tAsg, gName, tRet, tRetN, tIfS, tDrop, tOp, tUn, tVar, tC, tCall, tCons, tNil, tTest, tB, tAnd, tOr, tNot, tAndV, tOrV, tNotV, tIf, tCB, tBM, tComp, tTrue, tPart, tNoPart, tSl, tChain, tIsN, tNotN, tLst, tTup, tFor_eq, sDPut, tDNewK, tNever, rI0, rI, rU, rEq, rNe, rMulS, rInC, iRng1, iStr, CDiv, CMul, CPow, scal, List.append_nil, List.getElem?_cons_zero, List.getElem?_cons_succ, List.set_cons_zero, List.set_cons_succ, List.map_cons, List.map_nil, List.length_cons, List.length_nil, sizeLine_eq, Nat.reduceAdd, Nat.reduceLeDiff, Option.join_some, Option.join_none, Option.some.injEq, V.int.injEq, V.str.injEq, V.bl.injEq, V.ref.injEq, V.ty.injEq, List.cons.injEq, and_true, true_and, and_self, exists_eq_left', exists_eq_left, exists_and_left, exists_and_right, decide_eq_true_eq, Bool.not_eq_eq_eq_not, Bool.not_true, Bool.not_false, decide_eq_false_iff_not, Int.reduceLT, Int.reduceLE, Int.reduceNeg, Int.reducePow, Int.reduceAdd, Int.reduceSub, Int.reduceMul, Int.reduceToNat, natAbs10, Nat.reduceLT, Nat.reducePow, or_true, true_or, if_true, if_false, Bool.false_eq_true, ite_true, ite_false, reduceCtorEq])
seal L2.PSs L2.PS L2.PE L2.PT L2.PW L2.PA L2.PI L2.PG L2.PGs L2.PPs L2.PTs

abbrev sDeep : Stmt := top 10
abbrev sWide : Stmt := top 11
abbrev sAny : Stmt := top 12
section
variable {P : Program} {w : World} {K : PySem.W.Frag} {mg : Str → Option Value} {base : Heap} {f : Addr} {fd : FuncData}
theorem thing_all (F : Fun K "_law_thing_by" "_law_thing_by" sThing f fd) (B : Bl mg) (Gc : Dn P w K mg base 1 "_law_cell" ["_law_script", "_law_k"] (spCell K)) (Gn : Dn P w K mg base 1 "_law_number_by" ["_law_more"] spNum)
    (Gt : Dn P w K mg base 2 "_law_text_by" ["_law_more"] spText) (Gm : Dn P w K mg base 1 "_law_name_by" ["_law_more"] spName) (b : Binds K fd ["_law_script", "_law_k", "_law_deep_here"] []) (kp : PySem.W.keepIn K (.ref f) = true) (m : mg "_law_thing_by" = some (.ref f)) :
    ∀ d : Nat, FnOk P w K mg base CX0 (3 + d) f fd ["_law_script", "_law_k", "_law_deep_here"] (spThing K d)
  | 0 => ok_thing0 F B Gc Gn Gt
  | d + 1 => ok_thingS F B Gc Gn Gt Gm ⟨_, _, thing_all F B Gc Gn Gt Gm b kp m d, b, kp, m⟩
def spThingAny (K : PySem.W.Frag) (n : Nat) : Sp := fun vs H Q E => ∃ d, d ≤ n ∧ spThing K d vs H Q E
theorem thing_any {n : Nat} (h : ∀ d : Nat, FnOk P w K mg base CX0 (3 + d) f fd ["_law_script", "_law_k", "_law_deep_here"] (spThing K d)) : FnOk P w K mg base CX0 (3 + n) f fd ["_law_script", "_law_k", "_law_deep_here"] (spThingAny K n) :=
  ⟨fun vs H Q E ⟨d, _, q⟩ => (h d).len vs H Q E q, fun A outer s H args us vs Q E hr he hb hv ⟨d, hd, hs⟩ => (h d).run A outer s H args us vs Q E (hr.mono (by omega)) he hb hv hs⟩
mutual
theorem Nice.few {d : Nat} : ∀ (t : T), Nice d t → T.few t
  | .non, _ => True.intro
  | .bl _, _ => True.intro
  | .int _, _ => True.intro
  | .str _, _ => True.intro
  | .lst ts, h => ⟨by have := h.2.1; omega, NiceL.few ts h.2.2⟩
  | .dic ks ts, h => by
    obtain ⟨_, h1, h2, h3, h4, h5⟩ := h
    exact ⟨h3, by omega, h2, NiceL.few ts h5⟩
  | .tup _, h => h.elim
theorem NiceL.few {d : Nat} : ∀ (ts : List T), NiceL d ts → T.fews ts
  | [], _ => True.intro
  | t :: ts, h => ⟨Nice.few t h.1, NiceL.few ts h.2⟩
end
def spAny (K : PySem.W.Frag) : Sp := fun vs H Q _ => ∃ (a : Addr) (ns : List Int) (k : Int), vs = [.ref a, .int k] ∧ SqL K H a (ns.map V.int) ∧ ns.length ≤ 63 ∧ 0 ≤ k ∧ k ≤ 1000 ∧ ∀ v H' t, Same H H' → Rep H' v t → T.few t → T.dep t ≤ 8 → T.sz t ≤ 1000 → Q v H'
theorem scDeep : FnScope ["_law_script", "_law_k", "_law_thing", "_law_j", "_law_more"] ["_law_script", "_law_k"] (defScope sDeep) := ⟨rfl, rfl, rfl, by decide +kernel, rfl, by decide +kernel, by decide +kernel⟩
theorem ok_deep (F : Fun K "_law_deep" "_law_deep" sDeep f fd) (B : Bl mg) (G_law_cell : Dn P w K mg base 1 "_law_cell" ["_law_script", "_law_k"] (spCell K)) (G_law_thing_by : Dn P w K mg base (3 + 3) "_law_thing_by" ["_law_script", "_law_k", "_law_deep_here"] (spThingAny K 3))
    (G_law_name_by : Dn P w K mg base 1 "_law_name_by" ["_law_more"] spName) : FnOk P w K mg base CX0 7 f fd ["_law_script", "_law_k"] (spAny K) := by
  refine F.ok scDeep (fun vs H Q E h => ?_) (fun cdv A outer s H vs Q E hr h => ?_)
  · obtain ⟨a, ns, k, rfl, _⟩ := h
    rfl
  obtain ⟨a, ns, k, rfl, hS, h63, k0, k1, q⟩ := h
  have nd := scDeep.nd
  have hu := hu_of hr
  refine ⟨_, (pss_cons (ps_set (i := 2) nd rfl (Or.inl rfl) (pe_cd G_law_thing_by hr (by omega) rfl (pa_cons (pv 0) (pa_cons (pe_op op_add (pv 1) pe_int) (pa_cons pe_int pa_nil)))))
    (pss_cons (ps_for PassesOwn.never rfl (pi_range1 rfl B.range (pa_cons (pe_op op_add pe_int (pe_op op_mod (pe_cd G_law_cell hr (by omega) rfl (pa_cons (pv 0) (pa_cons (pv 1) pa_nil))) pe_int)) pa_nil)) (pg_name (i := 3) nd rfl (Or.inl rfl)) (pss_cons (ps_set (i := 4) nd rfl (Or.inl rfl) (pe_cd G_law_cell hr (by omega) rfl (pa_cons (pv 0) (pa_cons (pe_op op_add (pe_op op_add (pv 1) pe_int) (pv 3)) pa_nil))))
    (pss_one (ps_if (pt_cmpR op_eq (pe_op op_mod (pv 4) pe_int) pe_int (nomark _)) (pss_one (ps_set (i := 2) nd rfl (Or.inl rfl) (pe_disp (pps_cons (pe_cd G_law_name_by hr (by omega) rfl (pa_cons (pe_op op_fdiv (pv 4) pe_int) pa_nil)) (pv 2) pps_nil) (by rfl) (by rfl) (List.cons_ne_nil _ _) (by decide)))) (pss_one (ps_set (i := 2) nd rfl (Or.inl rfl) (pe_ix ix_list (pe_lst (pa_cons (pe_lst (pa_cons (pv 2) pa_nil)) (pa_cons (pe_lst (pa_cons (pe_op op_mod (pe_op op_fdiv (pv 4) pe_int) pe_int) (pa_cons (pv 2) (pa_cons pe_non pa_nil)))) pa_nil))) (pe_op op_sub (pe_op op_mod (pv 4) pe_int) pe_int) (fun _ _ => rfl))))))))
    (pss_one (ps_ret (pv 2))))), ?_⟩
  rw [show start ["_law_script", "_law_k", "_law_thing", "_law_j", "_law_more"] [.ref a, .int k] = [some (.ref a), some (.int k), none, none, none] from rfl]
  walk_at "rd2"
  refine ⟨0, by decide, a, ns, k + 1, rfl, hS, h63, by omega, by show (k + 1 + 2) * 1 ≤ 1000000; omega, fun v0 H1 g1 hv0 => ?_⟩
  have hn0 := thT_nice ns 0 (k + 1)
  have hd0 := Nice.dep _ hn0
  have hs0 := Nice.sz _ hn0
  have hf0 := Nice.few _ hn0
  generalize thT ns 0 (k + 1) = t0 at *
  refine spCell_i (g1.seq hS) h63 (by omega) (by omega) fun H2 g2 => ⟨_, rfl, by omega, by omega, ?_⟩
  have hm9 : (1 + cellF ns k % 8).toNat ≤ 8 := by omega
  generalize (1 + cellF ns k % 8).toNat = m at hm9 ⊢
  have g := g1.trans g2
  refine forB_rng (fun i σ H3 => (∃ u o3 o4 t', σ = [some (V.ref a), some (V.int k), some u, o3, o4] ∧ Rep H3 u t' ∧ T.few t' ∧ T.dep t' ≤ i ∧ T.sz t' ≤ 1 + 3 * i) ∧ Same H H3) ⟨⟨v0, _, _, t0, rfl, Rep.same g2 _ _ hv0, hf0, hd0, by omega⟩, g⟩ ?_ ?_
  · rintro i σ H3 hi ⟨⟨u, o3, o4, t', rfl, hu', q1, q2, q3⟩, g3⟩
    walk_at "rd2"
    refine spCell_i (g3.seq hS) h63 (by omega) (by omega) fun H4 g4 => ?_
    have c0 := cellF_lo ns (k + 2 + (0 + (i : Int)))
    have c1 := cellF_hi ns (k + 2 + (0 + (i : Int)))
    generalize cellF ns (k + 2 + (0 + (i : Int))) = m at c0 c1 ⊢
    refine ⟨m, rfl, ?_⟩
    split
    · intro p hp
      refine ⟨m, rfl, _, rfl, by omega, by omega, fun H5 g5 => ?_⟩
      have hnok := nameF_ok (m / 3)
      generalize nameF (m / 3) = nm at *
      refine ⟨g5 _ _ upd_same, [(nK nm, u)], rfl, by simp, ?_⟩
      have em : mergeK [] [((nK nm : Key), u)] = [((nK nm : Key), u)] := rfl
      rw [em]
      have G : Same H3 (upd H5 p (.dK [(nK nm, u)])) := (g4.trans ((same_new hp _).trans g5)).put (none_back g4 hp) _
      refine ⟨⟨.ref p, ⟨rfl, _, rfl⟩, .dic [nm] [t'], ⟨p, _, rfl, upd_same, rfl, ⟨u, [], rfl, Rep.same G u t' hu', rfl⟩⟩, ⟨by simp, by simp, rfl, q1, True.intro⟩, ?_, ?_⟩, g3.trans G⟩
      · show max (T.dep t') 0 + 1 ≤ _
        omega
      · show T.sz t' + 0 + 1 ≤ _
        omega
    · intro pL hpL
      refine ⟨m, rfl, fun pD hpD pO hpO => ⟨m, rfl, ?_⟩⟩
      have sL := same_new hpL (.lst [u])
      have sD := same_new hpD (.lst [V.int (m / 3 % 9), u, V.non])
      have sO := same_new hpO (.lst [V.ref pL, V.ref pD])
      have GG := g4.trans (sL.trans (sD.trans sO))
      obtain ⟨x, hx, hm⟩ := atI_of (xs := [V.ref pL, V.ref pD]) (i := m % 3 - 1) (by omega) (by simp only [List.length_cons, List.length_nil]; omega)
      refine rIxL_i (SqL.of upd_same) hx ⟨⟨x, ⟨rfl, _, rfl⟩, ?_⟩, g3.trans GG⟩
      simp only [List.mem_cons, List.not_mem_nil, or_false] at hm
      rcases hm with rfl | rfl
      · refine ⟨.lst [t'], ⟨pL, [u], rfl, (sD.trans sO) _ _ upd_same, ⟨u, [], rfl, Rep.same GG u t' hu', rfl⟩⟩, ⟨by simp, q1, True.intro⟩, ?_, ?_⟩
        · show max (T.dep t') 0 + 1 ≤ _
          omega
        · show T.sz t' + 0 + 1 ≤ _
          omega
      · refine ⟨.lst [.int (m / 3 % 9), t', .non], ⟨pD, _, rfl, sO _ _ upd_same, ⟨_, _, rfl, rfl, ⟨u, _, rfl, Rep.same GG u t' hu', ⟨_, _, rfl, rfl, rfl⟩⟩⟩⟩, ⟨by simp, True.intro, q1, True.intro, True.intro⟩, ?_, ?_⟩
        · show max 0 (max (T.dep t') (max 0 0)) + 1 ≤ _
          omega
        · show 1 + (T.sz t' + (1 + 0)) + 1 ≤ _
          omega
  · rintro σ H3 ⟨⟨u, o3, o4, t', rfl, hu', q1, q2, q3⟩, g3⟩
    walk_at "rd2"
    exact q u H3 t' g3 hu' q1 (by omega) (by omega)
theorem reps_rep {H : Hp} : ∀ n : Nat, Reps H (List.replicate n V.non) (List.replicate n T.non)
  | 0 => rfl
  | n + 1 => ⟨V.non, List.replicate n V.non, rfl, rfl, reps_rep n⟩
theorem szs_rep : ∀ n : Nat, T.szs (List.replicate n T.non) = n
  | 0 => rfl
  | n + 1 => by
    show 1 + T.szs (List.replicate n T.non) = n + 1
    rw [szs_rep n]; omega
theorem deps_rep : ∀ n : Nat, T.deps (List.replicate n T.non) = 0
  | 0 => rfl
  | n + 1 => by
    show max 0 (T.deps (List.replicate n T.non)) = 0
    rw [deps_rep n]; rfl
theorem flat_rep {α : Type} (x : α) : ∀ n : Nat, (List.replicate n [x]).flatten = List.replicate n x
  | 0 => rfl
  | n + 1 => by rw [List.replicate_succ, List.flatten_cons, flat_rep x n, List.replicate_succ]; rfl
theorem fews_rep : ∀ n : Nat, T.fews (List.replicate n T.non)
  | 0 => True.intro
  | n + 1 => ⟨True.intro, fews_rep n⟩
theorem nice0_all : ∀ {us : List T}, (∀ t ∈ us, Nice 0 t) → T.fews us ∧ T.deps us ≤ 0 ∧ T.szs us ≤ us.length
  | [], _ => ⟨True.intro, Nat.le_refl _, Nat.le_refl _⟩
  | t :: us, h => by
    obtain ⟨h1, h2, h3⟩ := nice0_all fun u hu => h u (List.mem_cons_of_mem _ hu)
    have ht := h t List.mem_cons_self
    have d1 := Nice.dep _ ht
    have d2 : T.sz t ≤ 1 := Nice.sz _ ht
    refine ⟨⟨Nice.few _ ht, h1⟩, ?_, ?_⟩
    · show max (T.dep t) (T.deps us) ≤ 0
      omega
    · show T.sz t + T.szs us ≤ us.length + 1
      omega
theorem reps_ints {H : Hp} : ∀ is : List Int, Reps H (is.map V.int) (is.map T.int)
  | [] => rfl
  | i :: is => ⟨V.int i, _, rfl, rfl, reps_ints is⟩
theorem deps_ints : ∀ is : List Int, T.deps (is.map T.int) ≤ 0
  | [] => Nat.le_refl _
  | i :: is => by
    have := deps_ints is
    show max 0 (T.deps (is.map T.int)) ≤ 0
    omega
theorem szs_ints : ∀ is : List Int, T.szs (is.map T.int) ≤ is.length
  | [] => Nat.le_refl _
  | i :: is => by
    have := szs_ints is
    show 1 + T.szs (is.map T.int) ≤ is.length + 1
    omega
theorem fews_ints : ∀ is : List Int, T.fews (is.map T.int)
  | [] => True.intro
  | _ :: is => ⟨True.intro, fews_ints is⟩
theorem scWide : FnScope ["_law_script", "_law_k", "_law_more", "_law_inner", "_law_found", "_law_j"] ["_law_script", "_law_k"] (defScope sWide) := ⟨rfl, rfl, rfl, by decide +kernel, rfl, by decide +kernel, by decide +kernel⟩
theorem ok_wide (F : Fun K "_law_wide" "_law_wide" sWide f fd) (B : Bl mg) (G_law_cell : Dn P w K mg base 1 "_law_cell" ["_law_script", "_law_k"] (spCell K)) (G_law_thing_by : Dn P w K mg base (3 + 3) "_law_thing_by" ["_law_script", "_law_k", "_law_deep_here"] (spThingAny K 3))
    (G_law_name_by : Dn P w K mg base 1 "_law_name_by" ["_law_more"] spName) : FnOk P w K mg base CX0 7 f fd ["_law_script", "_law_k"] (spAny K) := by
  refine F.ok scWide (fun vs H Q E h => ?_) (fun cdv A outer s H vs Q E hr h => ?_)
  · obtain ⟨a, ns, k, rfl, _⟩ := h
    rfl
  obtain ⟨a, ns, k, rfl, hS, h63, k0, k1, q⟩ := h
  have nd := scWide.nd
  have hu := hu_of hr
  refine ⟨_, (pss_cons (ps_set (i := 2) nd rfl (Or.inl rfl) (pe_cd G_law_cell hr (by omega) rfl (pa_cons (pv 0) (pa_cons (pv 1) pa_nil))))
    (pss_cons (ps_set (i := 3) nd rfl (Or.inr rfl) (pe_comp (own := ["_law_j"]) (F := [("_law_script", 0), ("_law_k", 1)]) ⟨rfl, by with_unfolding_all rfl, by with_unfolding_all rfl, by with_unfolding_all rfl, (.cons rfl rfl rfl (.cons rfl rfl rfl .nil))⟩ rfl (pi_range1 rfl B.range (pa_cons pe_int pa_nil)) (fun _ _ _ _ => pg_name (i := 0) (by show (compN ["_law_j"] [("_law_script", 0), ("_law_k", 1)]).Nodup; decide +kernel) rfl (Or.inl rfl)) (fun _ _ _ _ => pts_nil) (fun _ _ _ _ => (pe_cd G_law_thing_by hr (by omega) rfl (pa_cons (pv 1) (pa_cons (pe_op op_add (pe_op op_add (pv 2) pe_int) (pv 0)) (pa_cons pe_int pa_nil)))))))
    (pss_cons (ps_if (pt_cmpR op_eq (pe_op op_mod (pv 2) pe_int) pe_int (nomark _)) (pss_one (ps_ret (pe_comp (own := ["_law_j"]) (F := [("_law_inner", 3)]) ⟨rfl, by with_unfolding_all rfl, by with_unfolding_all rfl, by with_unfolding_all rfl, (.cons rfl rfl rfl .nil)⟩ rfl (pi_range1 rfl B.range (pa_cons (pe_op op_mod (pe_op op_fdiv (pv 2) pe_int) pe_int) pa_nil)) (fun _ _ _ _ => pg_name (i := 0) (by show (compN ["_law_j"] [("_law_inner", 3)]).Nodup; decide +kernel) rfl (Or.inl rfl)) (fun _ _ _ _ => pts_nil) (fun _ _ _ _ => (pe_ix (ix_listC (K := K) rfl) (pv 1) (pe_op op_mod (pv 0) pe_int) (fun _ _ => rfl)))))) pss_nil)
    (pss_cons (ps_set (i := 4) nd rfl (Or.inl rfl) pe_dnewK)
    (pss_cons (ps_for PassesOwn.never rfl (pi_range1 rfl B.range (pa_cons (pe_op op_mod (pe_op op_fdiv (pv 2) pe_int) pe_int) pa_nil)) (pg_name (i := 5) nd rfl (Or.inl rfl)) (pss_one (ps_dput hu (pv 4) (pe_op op_add_str (pe_slice sl_str (pe_cd G_law_name_by hr (by omega) rfl (pa_cons (pe_op op_fdiv (pv 2) pe_int) pa_nil)) po_none (po_some pe_int)) (pe_callTy call_str_int rfl B.str bt_str (pa_cons (pv 5) pa_nil))) (pe_ix ix_list (pv 3) (pe_op op_mod (pv 5) pe_int) (fun _ _ => rfl)) rfl)))
    (pss_cons (ps_if (pt_cmpR op_eq (pe_op op_mod (pv 2) pe_int) pe_int (nomark _)) (pss_one (ps_ret (pv 4))) pss_nil)
    (pss_one (ps_ret (pe_lst (pa_cons (pv 4) (pa_cons (pe_comp (own := ["_law_j"]) (F := []) ⟨rfl, by with_unfolding_all rfl, by with_unfolding_all rfl, by with_unfolding_all rfl, .nil⟩ rfl (pi_range1 rfl B.range (pa_cons (pe_op op_mod (pe_op op_fdiv (pv 2) pe_int) pe_int) pa_nil)) (fun _ _ _ _ => pg_name (i := 0) (by show (compN ["_law_j"] []).Nodup; decide +kernel) rfl (Or.inl rfl)) (fun _ _ _ _ => pts_nil) (fun _ _ _ _ => (pe_op op_mul (pv 0) (pv 0)))) (pa_cons (pe_lst (pa_cons (pe_lst pa_nil) (pa_cons pe_dnewK (pa_cons (pe_op op_rep (pe_lst (pa_cons pe_non pa_nil)) (pe_op op_mod (pe_op op_fdiv (pv 2) pe_int) pe_int)) pa_nil)))) pa_nil)))))))))))), ?_⟩
  rw [show start ["_law_script", "_law_k", "_law_more", "_law_inner", "_law_found", "_law_j"] [.ref a, .int k] = [some (.ref a), some (.int k), none, none, none, none] from rfl]
  walk_at "rd2"
  refine spCell_i hS h63 (by omega) (by omega) fun H1 g1 => ?_
  have c0 := cellF_lo ns k
  have c1 := cellF_hi ns k
  generalize cellF ns k = m at c0 c1 ⊢
  refine comp_rng (fun i ys H' => Same H1 H' ∧ ∃ ts, Reps H' ys ts ∧ ts.length = i ∧ ∀ t ∈ ts, Nice 0 t) (by decide) ⟨Same.refl _, [], rfl, rfl, fun _ h => (nomatch h)⟩ ?_ ?_
  · rintro i ys H' hi _ ⟨hs, ts, hR, hl, hN⟩
    walk_at "rd2"
    refine ⟨0, by decide, a, ns, _, rfl, (g1.trans hs).seq hS, h63, by omega, by show (k + 1 + (0 + (i : Int)) + 2) * 1 ≤ 1000000; omega, fun v H2 g2 hv => ⟨hs.trans g2, ts ++ [_], Reps.snoc hv (Reps.same g2 _ _ hR), by simp [hl], fun t ht => ?_⟩⟩
    rcases List.mem_append.mp ht with z | z
    · exact hN t z
    · rw [List.mem_singleton.mp z]; exact thT_nice ns 0 _
  · rintro ys H' hl ⟨hs, ts, hR, hlen, hN⟩ pI hpI
    have hyl := hR.length
    have sI := same_new hpI (.lst ys)
    have hI : upd H' pI (.lst ys) pI = some (.lst ys) := upd_same
    have gI := g1.trans (hs.trans sI)
    have hR := Reps.same sI _ _ hR
    generalize upd H' pI (.lst ys) = HI at sI hI gI hR ⊢
    have pick : ∀ i : Int, 0 ≤ i → ∃ x t, atI ys (i % 4) = some x ∧ Rep HI x t ∧ Nice 0 t := fun i h0 => by
      have h4 : (i % 4).toNat < ys.length := by omega
      obtain ⟨t, ht, hr'⟩ := hR.get (i := (i % 4).toNat) (v := ys[(i % 4).toNat]) (by simp [h4])
      refine ⟨ys[(i % 4).toNat], t, ?_, hr', hN t (List.mem_of_getElem? ht)⟩
      rw [atI_getD (d := V.non) (by omega) (by omega), List.getD_eq_getElem?_getD, List.getElem?_eq_getElem h4]
      rfl
    refine ⟨m, rfl, ?_⟩
    split
    · refine ⟨m, rfl, by omega, by omega, ?_⟩
      have hr : (m / 3 % 61).toNat ≤ 60 := by omega
      generalize (m / 3 % 61).toNat = r at hr ⊢
      refine comp_rng (fun i zs H2 => Same HI H2 ∧ ∃ us, Reps H2 zs us ∧ us.length = i ∧ ∀ t ∈ us, Nice 0 t) (by rw [sizeLine_eq]; omega) ⟨Same.refl _, [], rfl, rfl, fun _ h => (nomatch h)⟩ ?_ ?_
      · rintro i zs H2 hi _ ⟨g2, us, hU, hul, hUN⟩
        walk_at "rd2"
        obtain ⟨x, t, hx, hxt, hxn⟩ := pick (0 + (i : Int)) (by omega)
        refine rIxL_i (SqL.of (g2 _ _ hI)) hx ⟨g2, us ++ [t], Reps.snoc (Rep.same g2 _ _ hxt) hU, by simp [hul], fun u hu => ?_⟩
        rcases List.mem_append.mp hu with z | z
        · exact hUN u z
        · rw [List.mem_singleton.mp z]; exact hxn
      · rintro zs H2 _ ⟨g2, us, hU, hul, hUN⟩ p hp
        obtain ⟨n1, n2, n3⟩ := nice0_all hUN
        refine q (.ref p) _ (.lst us) (gI.trans (g2.trans (same_new hp _))) ⟨p, zs, rfl, upd_same, Reps.same (same_new hp _) _ _ hU⟩ ⟨by omega, n1⟩ ?_ ?_
        · show T.deps us + 1 ≤ 8
          omega
        · show T.szs us + 1 ≤ 1000
          omega
    · intro pD hpD
      refine ⟨m, rfl, by omega, by omega, ?_⟩
      have hr : (m / 3 % 31).toNat ≤ 30 := by omega
      generalize (m / 3 % 31).toNat = r at hr ⊢
      refine forB_rng (fun i σ H2 => (∃ o, σ = [some (V.ref a), some (V.int k), some (V.int m), some (V.ref pI), some (V.ref pD), o]) ∧ Same HI H2 ∧ ∃ ps ks us, H2 pD = some (.dK ps) ∧ ps.map (·.1) = ks.map nK ∧ Reps HI (ps.map (·.2)) us ∧ ks.Nodup ∧ (∀ u ∈ us, Nice 0 u) ∧ ks.length ≤ i) ⟨⟨_, rfl⟩, same_new hpD _, [], [], [], upd_same, rfl, rfl, List.nodup_nil, fun _ h => (nomatch h), Nat.le_refl _⟩ ?_ ?_
      · rintro i σ H2 hi ⟨⟨o, rfl⟩, g2, ps, ks, us, hd, hk, hU, hnd, hUN, hkl⟩
        walk_at "rd2"
        obtain ⟨x, t, hx, hxt, hxn⟩ := pick (0 + (i : Int)) (by omega)
        have hnok := okName_len (nameF_ok (m / 93))
        have hil := int_len (i := 0 + (i : Int)) ⟨by omega, by omega⟩
        have hplen := congrArg List.length hk
        simp only [List.length_map] at hplen
        have hsl : (Txt.slice (tx (nameF (m / 93))) none (some 9)).length ≤ 12 := by
          rw [show (9 : Int) = ((9 : Nat) : Int) from rfl, slice_to, tx_len, List.length_take]
          have : (L2.ts (tx (nameF (m / 93)))).length = (nameF (m / 93)).length := rfl
          omega
        refine rIxL_i (SqL.of (g2 _ _ hI)) hx ⟨_, rfl, by omega, by omega, fun H3 g3 => ?_⟩
        refine ⟨_, rfl, by rw [tx_len, sizeLine_eq]; omega, logs_ok13 (by omega) (by omega), _, rfl, by omega, ?_⟩
        generalize Txt.slice (tx (nameF (m / 93))) none (some 9) ++ Str.ofString (toString (0 + (i : Int))) = z
        have ez : (Sum.inr z : Key) = nK (L2.ts z) := by rw [nK, tx_ts]
        refine ⟨_, DPut.k (k := Sum.inr z) (g3 _ _ hd) (by rw [sizeLine_eq]; omega), ⟨_, rfl⟩, (g2.trans g3).put hpD _, ?_⟩
        rw [ez]
        obtain ⟨ks', us', e1, e2, e3, e4, e5, e6⟩ := put_rep (n := L2.ts z) hk hU hnd hxt
        refine ⟨_, upd_same, ks', e1, us', e2, e3, fun u hu => ?_, by omega⟩
        rcases e5 u hu with c | c
        · exact hUN u c
        · rw [c]; exact hxn
      · rintro σ H2 ⟨⟨o, rfl⟩, g2, ps, ks, us, hd, hk, hU, hnd, hUN, hkl⟩
        walk_at "rd2"
        have hplen := congrArg List.length hk
        simp only [List.length_map] at hplen
        have hulen := hU.length
        rw [List.length_map] at hulen
        obtain ⟨n1, n2, n3⟩ := nice0_all hUN
        have hrep : Rep H2 (.ref pD) (.dic ks us) := ⟨pD, ps, rfl, hd, hk, Reps.same g2 _ _ hU⟩
        have hfew : T.few (.dic ks us) := ⟨hnd, by omega, by omega, n1⟩
        have G2 := gI.trans g2
        split
        · refine q _ _ _ G2 hrep hfew ?_ ?_
          · show T.deps us + 1 ≤ 8
            omega
          · show T.szs us + 1 ≤ 1000
            omega
        · refine ⟨by omega, by omega, ?_⟩
          have hr : (m / 5 % 61).toNat ≤ 60 := by omega
          generalize (m / 5 % 61).toNat = r5 at hr ⊢
          refine comp_rng (fun i zs H3 => Same H2 H3 ∧ ∃ is : List Int, zs = is.map V.int ∧ is.length = i) (by rw [sizeLine_eq]; omega) ⟨Same.refl _, [], rfl, rfl⟩ ?_ ?_
          · rintro i zs H3 hi _ ⟨g3, is, rfl, hil⟩
            walk_at "rd2"
            exact ⟨.inl (by omega), g3, is ++ [(0 + (i : Int)) * (0 + (i : Int))], by simp, by simp [hil]⟩
          · rintro zs H3 _ ⟨g3, is, rfl, hil⟩ pR hpR pE hpE pN hpN pV hpV
            have hr7 : (m / 7 % 61).toNat ≤ 60 := by omega
            refine ⟨pV, m / 7 % 61, [V.non], rfl, rfl, upd_same, by omega, by omega, by rw [sizeLine_eq]; simp only [List.length_cons, List.length_nil]; omega, fun pW hpW pM hpM pO hpO => ?_⟩
            rw [flat_rep] at *
            generalize (m / 7 % 61).toNat = r7 at *
            have sR := same_new hpR (.lst (is.map V.int))
            have sE := same_new hpE (.lst [])
            have sN := same_new hpN (.dK [])
            have sV := same_new hpV (.lst [V.non])
            have sW := same_new hpW (.lst (List.replicate r7 V.non))
            have sM := same_new hpM (.lst [V.ref pE, V.ref pN, V.ref pW])
            have sO := same_new hpO (.lst [V.ref pD, V.ref pR, V.ref pM])
            have s1 := sM.trans sO
            have s2 := sW.trans s1
            have s3 := sV.trans s2
            have s4 := sN.trans s3
            have s5 := sE.trans s4
            have G := g3.trans (sR.trans s5)
            refine q (.ref pO) _ (.lst [.dic ks us, .lst (is.map T.int), .lst [.lst [], .dic [] [], .lst (List.replicate r7 .non)]]) (G2.trans G) ?_ ?_ ?_ ?_
            · refine ⟨pO, _, rfl, upd_same, ⟨_, _, rfl, Rep.same G _ _ hrep, ⟨_, _, rfl, ⟨pR, _, rfl, s5 _ _ upd_same, ?_⟩, ⟨_, _, rfl, ⟨pM, _, rfl, sO _ _ upd_same, ⟨_, _, rfl, ⟨pE, [], rfl, s4 _ _ upd_same, rfl⟩, ⟨_, _, rfl, ⟨pN, [], rfl, s3 _ _ upd_same, rfl, rfl⟩, ⟨_, _, rfl, ⟨pW, _, rfl, s1 _ _ upd_same, reps_rep r7⟩, rfl⟩⟩⟩⟩, rfl⟩⟩⟩⟩
              exact reps_ints is
            · refine ⟨by simp, hfew, ⟨by rw [List.length_map]; omega, fews_ints is⟩, ⟨by simp, ⟨by simp, True.intro⟩, ⟨by simp, by simp, rfl, True.intro⟩, ⟨by simp; omega, fews_rep r7⟩, True.intro⟩, True.intro⟩
            · have e1 := deps_ints is
              have e2 := deps_rep r7
              show max (T.deps us + 1) (max (T.deps (is.map T.int) + 1) (max (max (0 + 1) (max (0 + 1) (max (T.deps (List.replicate r7 T.non) + 1) 0)) + 1) 0)) + 1 ≤ 8
              omega
            · have e1 := szs_ints is
              have e2 := szs_rep r7
              show (T.szs us + 1) + ((T.szs (is.map T.int) + 1) + ((((0 + 1) + ((0 + 1) + ((T.szs (List.replicate r7 T.non) + 1) + 0))) + 1) + 0)) + 1 ≤ 1000
              omega
theorem scAny : FnScope ["_law_script", "_law_k", "_law_more"] ["_law_script", "_law_k"] (defScope sAny) := ⟨rfl, rfl, rfl, by decide +kernel, rfl, by decide +kernel, by decide +kernel⟩
theorem ok_any (F : Fun K "_law_any" "_law_any" sAny f fd) (B : Bl mg) (G_law_cell : Dn P w K mg base 1 "_law_cell" ["_law_script", "_law_k"] (spCell K)) (G_law_thing_by : Dn P w K mg base (3 + 3) "_law_thing_by" ["_law_script", "_law_k", "_law_deep_here"] (spThingAny K 3))
    (G_law_deep : Dn P w K mg base 7 "_law_deep" ["_law_script", "_law_k"] (spAny K)) (G_law_wide : Dn P w K mg base 7 "_law_wide" ["_law_script", "_law_k"] (spAny K)) : FnOk P w K mg base CX0 8 f fd ["_law_script", "_law_k"] (spAny K) := by
  refine F.ok scAny (fun vs H Q E h => ?_) (fun cdv A outer s H vs Q E hr h => ?_)
  · obtain ⟨a, ns, k, rfl, _⟩ := h
    rfl
  obtain ⟨a, ns, k, rfl, hS, h63, k0, k1, q⟩ := h
  have nd := scAny.nd
  refine ⟨_, (pss_cons (ps_set (i := 2) nd rfl (Or.inl rfl) (pe_cd G_law_cell hr (by omega) rfl (pa_cons (pv 0) (pa_cons (pe_op op_add (pv 1) pe_int) pa_nil))))
    (pss_cons (ps_if (pt_cmpR op_eq (pe_op op_mod (pv 2) pe_int) pe_int (nomark _)) (pss_one (ps_ret (pe_cd G_law_deep hr (by omega) rfl (pa_cons (pv 0) (pa_cons (pv 1) pa_nil))))) pss_nil)
    (pss_cons (ps_if (pt_cmpR op_eq (pe_op op_mod (pv 2) pe_int) pe_int (nomark _)) (pss_one (ps_ret (pe_cd G_law_wide hr (by omega) rfl (pa_cons (pv 0) (pa_cons (pv 1) pa_nil))))) pss_nil)
    (pss_one (ps_ret (pe_cd G_law_thing_by hr (by omega) rfl (pa_cons (pv 0) (pa_cons (pv 1) (pa_cons (pe_op op_add pe_int (pe_op op_mod (pe_op op_fdiv (pv 2) pe_int) pe_int)) pa_nil))))))))), ?_⟩
  rw [show start ["_law_script", "_law_k", "_law_more"] [.ref a, .int k] = [some (.ref a), some (.int k), none] from rfl]
  walk_at "rd2"
  refine spCell_i hS h63 (by omega) (by omega) fun H1 g1 => ?_
  have c0 := cellF_lo ns (k + 3)
  generalize cellF ns (k + 3) = m at c0 ⊢
  refine ⟨m, rfl, ?_⟩
  split
  · exact ⟨a, ns, k, rfl, g1.seq hS, h63, k0, k1, fun v H2 t g2 => q v H2 t (g1.trans g2)⟩
  · refine ⟨m, rfl, ?_⟩
    split
    · exact ⟨a, ns, k, rfl, g1.seq hS, h63, k0, k1, fun v H2 t g2 => q v H2 t (g1.trans g2)⟩
    · refine ⟨m, rfl, ?_⟩
      obtain ⟨d, hd, hd3⟩ : ∃ d : Nat, 1 + m / 8 % 3 = (d : Int) ∧ d ≤ 3 := ⟨(1 + m / 8 % 3).toNat, by omega, by omega⟩
      rw [hd]
      have hn := thT_nice ns d k
      refine ⟨d, hd3, a, ns, k, rfl, g1.seq hS, h63, k0, ?_, fun v H2 g2 hv => q v H2 _ (g1.trans g2) hv (Nice.few _ hn) ?_ ?_⟩
      · have : (5 : Int) ^ d ≤ 5 ^ 3 := by
          rcases (by omega : d = 0 ∨ d = 1 ∨ d = 2 ∨ d = 3) with rfl | rfl | rfl | rfl <;> decide
        have h2 : (k + 2) * 5 ^ d ≤ (k + 2) * 5 ^ 3 := Int.mul_le_mul_of_nonneg_left this (by omega)
        omega
      · have := Nice.dep _ hn
        omega
      · have := Nice.sz _ hn
        have h5 : 5 ^ d ≤ 5 ^ 3 := Nat.pow_le_pow_right (by decide) hd3
        omega
end
end K34
namespace K34
open PySem L2
local macro_rules | `(tactic| walk_at "rd") => `(tactic| simp only [cxOf_K, nox_K, compCx_K, tSeq, tNext, tAsg, gName, tRet, tRetN, tIfS, tDrop, tOp, tUn, tVar, tC, tCall, tCons, tNil, tTest, tB, tAnd, tOr, tNot, tAndV, tOrV, tNotV, tIf, tCB, tBM, tComp, tTrue, tPart, tNoPart, tSl, tChain, tIsN, tNotN, tLst, tTup, tFor_eq, sDPut, tDNewK, tNever, rI0, rI, rU, rEq, rNe, rMulS, rInC, iRng1, iStr, CDiv, CMul, CPow, scal, List.append_nil, List.getElem?_cons_zero, List.getElem?_cons_succ, List.set_cons_zero, List.set_cons_succ, List.map_cons, List.map_nil, List.length_cons, List.length_nil, sizeLine_eq, Nat.reduceAdd, Nat.reduceLeDiff, Option.join_some, Option.join_none, Option.some.injEq, V.int.injEq, V.str.injEq, V.bl.injEq, V.ref.injEq, V.ty.injEq, List.cons.injEq, and_true, true_and, and_self, exists_eq_left', exists_eq_left, exists_and_left, exists_and_right, decide_eq_true_eq, Bool.not_eq_eq_eq_not, Bool.not_true, Bool.not_false, decide_eq_false_iff_not, Int.reduceLT, Int.reduceLE, Int.reduceNeg, Int.reducePow, Int.reduceAdd, Int.reduceSub, Int.reduceMul, Int.reduceToNat, natAbs10, Nat.reduceLT, Nat.reducePow, or_true, true_or, if_true, if_false, Bool.false_eq_true, ite_true, ite_false, reduceCtorEq])
local macro_rules | `(tactic| walk_at "rd2") => `(tactic| simp only [tDisp, tPairs, tBM0, iList, iDict, tThaw, tMaxD, rMaxD, tDGet, rVals, tComp, cxOf_K, nox_K, compCx_K, tSeq, tNext, tAsg, gName, tRet, tRetN, tIfS, tDrop, tOp, tUn, tVar, tC, tCall, tCons, tNil, tTest, tB, tAnd, tOr, tNot, tAndV, tOrV, tNotV, tIf, tCB, tBM, tComp, tTrue, tPart, tNoPart, tSl, tChain, tIsN, tNotN, tLst, tTup, tFor_eq, sDPut, tDNewK, tNever, rI0, rI, rU, rEq, rNe, rMulS, rInC, iRng1, iStr, CDiv, CMul, CPow, scal, List.append_nil, List.getElem?_cons_zero, List.getElem?_cons_succ, List.set_cons_zero, List.set_cons_succ, List.map_cons, List.map_nil, List.length_cons, List.length_nil, sizeLine_eq, Nat.reduceAdd, Nat.reduceLeDiff, Option.join_some, Option.join_none, Option.some.injEq, V.int.injEq, V.str.injEq, V.bl.injEq, V.ref.injEq, V.ty.injEq, List.cons.injEq, and_true, true_and, and_self, exists_eq_left', exists_eq_left, exists_and_left, exists_and_right, decide_eq_true_eq, Bool.not_eq_eq_eq_not, Bool.not_true, Bool.not_false, decide_eq_false_iff_not, Int.reduceLT, Int.reduceLE, Int.reduceNeg, Int.reducePow, Int.reduceAdd, Int.reduceSub, Int.reduceMul, Int.reduceToNat, natAbs10, Nat.reduceLT, Nat.reducePow, or_true, true_or, if_true, if_false, Bool.false_eq_true, ite_true, ite_false, reduceCtorEq])
seal L2.PSs L2.PS L2.PE L2.PT L2.PW L2.PA L2.PI L2.PG L2.PGs L2.PPs L2.PTs

abbrev sLaw : Stmt := top 16
section
variable {P : Program} {w : World} {K : PySem.W.Frag} {mg : Str → Option Value} {base : Heap} {f : Addr} {fd : FuncData}
theorem sc_all : ∀ {p : List T}, (∀ s ∈ p, Sc s) → T.pures p ∧ T.deps p = 0 ∧ T.szs p = p.length
  | [], _ => ⟨True.intro, rfl, rfl⟩
  | s :: p, h => by
    obtain ⟨h1, h2, h3⟩ := sc_all fun u hu => h u (List.mem_cons_of_mem _ hu)
    rcases h s List.mem_cons_self with ⟨i, rfl⟩ | ⟨x, rfl⟩
    · refine ⟨⟨True.intro, h1⟩, ?_, ?_⟩
      · show max 0 (T.deps p) = 0
        omega
      · show 1 + T.szs p = p.length + 1
        omega
    · refine ⟨⟨True.intro, h1⟩, ?_, ?_⟩
      · show max 0 (T.deps p) = 0
        omega
      · show 1 + T.szs p = p.length + 1
        omega
theorem rows_all {m : Nat} : ∀ {pp : List (List T)}, (∀ p ∈ pp, (∀ s ∈ p, Sc s) ∧ p.length ≤ m) → T.pures (pp.map T.lst) ∧ T.deps (pp.map T.lst) ≤ 1 ∧ T.szs (pp.map T.lst) ≤ pp.length * (m + 1)
  | [], _ => ⟨True.intro, Nat.zero_le _, Nat.zero_le _⟩
  | p :: pp, h => by
    obtain ⟨h1, h2, h3⟩ := rows_all fun u hu => h u (List.mem_cons_of_mem _ hu)
    obtain ⟨a1, a2⟩ := h p List.mem_cons_self
    obtain ⟨b1, b2, b3⟩ := sc_all a1
    refine ⟨⟨b1, h1⟩, ?_, ?_⟩
    · show max (T.deps p + 1) (T.deps (pp.map T.lst)) ≤ 1
      omega
    · show (T.szs p + 1) + T.szs (pp.map T.lst) ≤ (pp.length + 1) * (m + 1)
      rw [Nat.succ_mul]
      omega
def spLaw (K : PySem.W.Frag) : Sp := fun vs H Q _ => ∃ (a : Addr) (ns : List Int), vs = [.ref a] ∧ SqL K H a (ns.map V.int) ∧ ns.length ≤ 63 ∧ ∀ H', Q (.bl true) H'
theorem scLaw : FnScope ["_law_script", "_law_thing", "_law_kept", "_law_due", "_law_found", "_law_path"] ["_law_script"] (defScope sLaw) := ⟨rfl, rfl, rfl, by decide +kernel, rfl, by decide +kernel, by decide +kernel⟩
theorem ok_law (F : Fun K "law" "law" sLaw f fd) (B : Bl mg) (G_law_any : Dn P w K mg base 8 "_law_any" ["_law_script", "_law_k"] (spAny K)) (G_law_copy : Dn P w K mg base (1 + 9) "_law_copy" ["_law_thing"] (spHeld 9))
    (G_law_spots : Dn P w K mg base (2 + 9) "_law_spots" ["_law_thing"] (spLSp 9)) (Gspots : Dn P w K mg base (2 + 9) "spots" ["thing"] (spSpots 9)) (G_law_alike : Dn P w K mg base (2 + 9) "_law_alike" ["_law_found", "_law_due"] (spAlike 9)) : FnOk P w K mg base CX0 12 f fd ["_law_script"] (spLaw K) := by
  refine F.ok scLaw (fun vs H Q E h => ?_) (fun cdv A outer s H vs Q E hr h => ?_)
  · obtain ⟨a, ns, rfl, _⟩ := h
    rfl
  obtain ⟨a, ns, rfl, hS, h63, q⟩ := h
  have nd := scLaw.nd
  refine ⟨_, (pss_cons (ps_set (i := 1) nd rfl (Or.inl rfl) (pe_cd G_law_any hr (by omega) rfl (pa_cons (pv 0) (pa_cons pe_int pa_nil))))
    (pss_cons (ps_set (i := 2) nd rfl (Or.inl rfl) (pe_cd G_law_copy hr (by omega) rfl (pa_cons (pv 1) pa_nil)))
    (pss_cons (ps_set (i := 3) nd rfl (Or.inl rfl) (pe_cd G_law_spots hr (by omega) rfl (pa_cons (pv 2) pa_nil)))
    (pss_cons (ps_set (i := 4) nd rfl (Or.inl rfl) (pe_cd Gspots hr (by omega) rfl (pa_cons (pv 1) pa_nil)))
    (pss_cons (ps_if (PW.pt (pw_or (pt_not (pt_val (pe_cd G_law_alike hr (by omega) rfl (pa_cons (pv 4) (pa_cons (pv 3) pa_nil))))) (pw_or1 (pt_not (pt_val (pe_cd G_law_alike hr (by omega) rfl (pa_cons (pv 1) (pa_cons (pv 2) pa_nil)))))))) (pss_one (ps_ret pe_bl)) pss_nil)
    (pss_cons (ps_for PassesOwn.never rfl (pi_list (pv 4)) (pg_name (i := 5) nd rfl (Or.inl rfl)) (pss_one (ps_expr (pe_bm PySem.F.plainAttrs_list PySem.F.slot_list_append PySem.F.type_list_append mt_append (pv 5) (pa_cons pe_int pa_nil)))))
    (pss_cons (ps_if (pt_not (pt_val (pe_cd G_law_alike hr (by omega) rfl (pa_cons (pv 4) (pa_cons (pe_comp (own := ["_law_path"]) (F := []) ⟨rfl, by with_unfolding_all rfl, by with_unfolding_all rfl, by with_unfolding_all rfl, .nil⟩ rfl (pi_list (pv 3)) (fun _ _ _ _ => pg_name (i := 0) (by show (compN ["_law_path"] []).Nodup; decide +kernel) rfl (Or.inl rfl)) (fun _ _ _ _ => pts_nil) (fun _ _ _ _ => (pe_op op_cat (pv 0) (pe_lst (pa_cons pe_int pa_nil))))) pa_nil))))) (pss_one (ps_ret pe_bl)) pss_nil)
    (pss_cons (ps_expr (pe_bm PySem.F.plainAttrs_list PySem.F.slot_list_append PySem.F.type_list_append mt_append (pv 4) (pa_cons pe_int pa_nil)))
    (pss_one (ps_ret (pe_cd G_law_alike hr (by omega) rfl (pa_cons (pe_cd Gspots hr (by omega) rfl (pa_cons (pv 1) pa_nil)) (pa_cons (pv 3) pa_nil))))))))))))), ?_⟩
  rw [show start ["_law_script", "_law_thing", "_law_kept", "_law_due", "_law_found", "_law_path"] [.ref a] = [some (.ref a), none, none, none, none, none] from rfl]
  walk_at "rd2"
  refine ⟨a, ns, 0, rfl, hS, h63, by decide, by decide, fun v H1 t g1 hv hf hd hz => ?_⟩
  have hp := few_pure 8 t hd hf
  refine ⟨v, t, rfl, hv, hp, by omega, by omega, fun kv H2 g2 hkv => ?_⟩
  refine ⟨kv, t, rfl, hkv, hf, by omega, by omega, by omega, fun aD yD H3 g3 hD hRD => ?_⟩
  have hv3 := Rep.same (g2.trans g3) _ _ hv
  have hkv3 := Rep.same g3 _ _ hkv
  have hlen := pth_len 9 t hf
  have hsc := pth_sc 9 t
  generalize hpp : pth 9 t = pp at hlen hsc hRD
  obtain ⟨r1, r2, r3⟩ := rows_all (m := 9) (pp := pp) fun p hp => ⟨(hsc p hp).1, by have := (hsc p hp).2; omega⟩
  have hdue : Rep H3 (.ref aD) (.lst (pp.map T.lst)) := ⟨aD, yD, rfl, hD, hRD⟩
  have hdp : T.dep (.lst (pp.map T.lst)) ≤ 2 := Nat.succ_le_succ r2
  have hsz : T.sz (.lst (pp.map T.lst)) ≤ 100000 := by
    show T.szs (pp.map T.lst) + 1 ≤ 100000
    omega
  refine ⟨v, t, rfl, hv3, hf, by omega, by omega, by omega, fun aF ps H4 g4 hF0 hF hL hfr hnd hna => ?_⟩
  rw [hpp] at hL
  have hfound : Rep H4 (.ref aF) (.lst (pp.map T.lst)) := ⟨aF, _, rfl, hF, Lay.rep (fun p hp => (hsc p hp).1) hL⟩
  refine ⟨_, _, _, rfl, hfound, Rep.same g4 _ _ hdue, r1, by omega, hsz, fun H5 g5 => ?_⟩
  refine ⟨true, rfl, iN (by decide) ⟨_, _, t, rfl, Rep.same (g4.trans g5) _ _ hv3, Rep.same (g4.trans g5) _ _ hkv3, hp, by omega, by omega, fun H6 g6 => ⟨true, rfl, iN (by decide) ⟨aF, rfl, ⟨_, SqL.of (g6 _ _ (g5 _ _ hF))⟩, ?_⟩⟩⟩⟩
  have hlp := hL.length
  rw [List.length_map] at hlp
  have hap : ∀ p ∈ pp, (∀ s ∈ p ++ [T.int 0], Sc s) ∧ (p ++ [T.int 0]).length ≤ 9 := fun p hp => by
    refine ⟨fun u hu => ?_, by have := (hsc p hp).2; simp only [List.length_append, List.length_singleton]; omega⟩
    rcases List.mem_append.mp hu with z | z
    · exact (hsc p hp).1 u z
    · rw [List.mem_singleton.mp z]; exact .inl ⟨_, rfl⟩
  refine forB_list (K := K) (a := aF) (xs := ps.map V.ref) (fun i σ H7 => (∃ o, σ = [some (V.ref a), some v, some kv, some (V.ref aD), some (V.ref aF), o]) ∧ Same H3 H7 ∧ H7 aF = some (.lst (ps.map V.ref)) ∧ Lay H7 ps (((pp.map (·.map scv)).take i).map (· ++ [V.int 0]) ++ (pp.map (·.map scv)).drop i)) ⟨⟨_, rfl⟩, g4.trans (g5.trans g6), g6 _ _ (g5 _ _ hF), hL.same (g5.trans g6)⟩ (fun i σ H7 _ h => SqL.of h.2.2.1) ?_ ?_
  · rintro i x σ H7 hx ⟨⟨o, rfl⟩, g7, hF7, hL7⟩
    obtain ⟨r, hr', rfl⟩ : ∃ r, ps[i]? = some r ∧ x = V.ref r := by
      rw [List.getElem?_map] at hx
      cases hc : ps[i]? with
      | none => rw [hc] at hx; cases hx
      | some r => rw [hc] at hx; exact ⟨r, rfl, (Option.some.inj hx).symm⟩
    have hi : i < ps.length := (List.getElem?_eq_some_iff.mp hr').1
    obtain ⟨wv, hw1, hw2⟩ := hL7.get hr'
    have hvi : ∃ p, pp[i]? = some p := ⟨pp[i], by simp [show i < pp.length by omega]⟩
    obtain ⟨p, hpi⟩ := hvi
    have hvv : (pp.map (·.map scv))[i]? = some (p.map scv) := by rw [List.getElem?_map, hpi]; rfl
    have hw : wv = p.map scv := by
      rw [List.getElem?_append_right (by simp; omega)] at hw1
      have hmin : min i pp.length = i := by omega
      simp only [List.length_map, List.length_take, hmin, Nat.sub_self, List.getElem?_drop, Nat.add_zero] at hw1
      rw [hvv] at hw1
      exact (Option.some.inj hw1).symm
    subst hw
    have hpl := (hsc p (List.mem_of_getElem? hpi)).2
    have hrp : r ∈ ps := List.mem_of_getElem? hr'
    walk_at "rd2"
    refine ⟨Or.inl ⟨rfl, _, SqL.of hw2⟩, r, p.map scv, .int 0, rfl, rfl, hw2, by rw [sizeLine_eq, List.length_map]; omega, ⟨_, rfl⟩, g7.put (hfr r hrp) _, ?_, ?_⟩
    · rw [upd_ne fun z => hna (by rw [z]; exact hrp)]; exact hF7
    · rw [← set_step (fun l => l ++ [V.int 0]) (pp.map (·.map scv)) i (p.map scv) hvv]
      exact Lay.put hnd hL7 hr'
  · rintro σ H7 ⟨⟨o, rfl⟩, g7, hF7, hL7⟩
    walk_at "rd2"
    rw [List.length_map, hlp] at hL7
    have hml : (pp.map (·.map scv)).length = pp.length := List.length_map _
    rw [← hml, List.take_length, List.drop_length, List.append_nil, List.map_map] at hL7
    have hL8 : Lay H7 ps ((pp.map (· ++ [T.int 0])).map (·.map scv)) := by
      rw [List.map_map]
      have e : ((fun x => x ++ [V.int 0]) ∘ fun x => List.map scv x) = ((fun x => List.map scv x) ∘ fun x => x ++ [T.int 0]) := by
        funext x
        show x.map scv ++ [V.int 0] = (x ++ [T.int 0]).map scv
        rw [List.map_append]; rfl
      rw [← e]; exact hL7
    have hap' : ∀ p ∈ pp.map (· ++ [T.int 0]), (∀ s ∈ p, Sc s) ∧ p.length ≤ 9 := fun p hp => by
      obtain ⟨p', h', rfl⟩ := List.mem_map.mp hp
      exact hap p' h'
    obtain ⟨b1, b2, b3⟩ := rows_all (m := 9) hap'
    rw [List.length_map] at b3
    have hfound7 : Rep H7 (.ref aF) (.lst ((pp.map (· ++ [T.int 0])).map T.lst)) := ⟨aF, _, rfl, hF7, Lay.rep (fun p hp => (hap' p hp).1) hL8⟩
    have hD7 := g7 _ _ hD
    have hRD7 := Reps.same g7 _ _ hRD
    have hydl := hRD.length
    rw [List.length_map] at hydl
    refine ⟨⟨_, SqL.of hD7⟩, ?_⟩
    refine comp_list (K := K) (xs := yD) (fun i zs H8 => Same H7 H8 ∧ Reps H8 zs (((pp.take i).map (· ++ [T.int 0])).map T.lst)) (by rw [sizeLine_eq]; omega) ⟨Same.refl _, rfl⟩ (fun i zs H8 _ h => SqL.of (h.1 _ _ hD7)) ?_ ?_
    · rintro i y zs H8 hy _ ⟨g8, hZ⟩
      obtain ⟨t', ht', hr'⟩ := hRD7.get hy
      obtain ⟨p, hp', rfl⟩ : ∃ p, pp[i]? = some p ∧ t' = .lst p := by
        rw [List.getElem?_map] at ht'
        cases hc : pp[i]? with
        | none => rw [hc] at ht'; cases ht'
        | some p => rw [hc] at ht'; exact ⟨p, rfl, (Option.some.inj ht').symm⟩
      obtain ⟨r, ws, rfl, hrr, hws⟩ := hr'
      have hwl := hws.length
      have hpl := (hsc p (List.mem_of_getElem? hp')).2
      walk_at "rd2"
      intro p1 hp1
      have s5 := same_new hp1 (.lst [V.int 0])
      refine ⟨r, p1, ws, [V.int 0], rfl, rfl, s5 _ _ (g8 _ _ hrr), upd_same, by rw [sizeLine_eq]; simp only [List.length_cons, List.length_nil]; omega, fun p2 hp2 => ?_⟩
      have s6 := s5.trans (same_new hp2 (.lst (ws ++ [V.int 0])))
      refine ⟨g8.trans s6, ?_⟩
      rw [take_succ_of hp', List.map_append, List.map_append]
      have hrep : Rep (upd (upd H8 p1 (.lst [V.int 0])) p2 (.lst (ws ++ [V.int 0]))) (.ref p2) (.lst (p ++ [T.int 0])) := ⟨p2, ws ++ [V.int 0], rfl, upd_same, Reps.snoc (show Rep _ (V.int 0) (T.int 0) from rfl) (Reps.same (g8.trans s6) _ _ hws)⟩
      exact Reps.snoc hrep (Reps.same s6 _ _ hZ)
    · rintro zs H8 _ ⟨g8, hZ⟩ pC hpC
      rw [hydl, List.take_length] at hZ
      have s9 := same_new hpC (.lst zs)
      have G9 := g8.trans s9
      have hcmp : Rep (upd H8 pC (.lst zs)) (.ref pC) (.lst ((pp.map (· ++ [T.int 0])).map T.lst)) := ⟨pC, zs, rfl, upd_same, Reps.same s9 _ _ hZ⟩
      refine ⟨_, _, _, rfl, Rep.same G9 _ _ hfound7, hcmp, b1, Nat.lt_of_le_of_lt (Nat.succ_le_succ b2) (by decide), ?_, fun H10 g10 => ⟨true, rfl, iN (by decide) ?_⟩⟩
      · show T.szs ((pp.map (· ++ [T.int 0])).map T.lst) + 1 ≤ 100000
        omega
      have hF10 := g10 _ _ (G9 _ _ hF7)
      refine ⟨Or.inl ⟨rfl, _, SqL.of hF10⟩, aF, ps.map V.ref, .int 0, rfl, rfl, hF10, by rw [sizeLine_eq, List.length_map]; omega, ?_⟩
      have G11 : Same H3 (upd H10 aF (.lst (ps.map V.ref ++ [V.int 0]))) := (g7.trans (G9.trans g10)).put hF0 _
      refine ⟨v, t, rfl, Rep.same G11 _ _ hv3, hf, by omega, by omega, by omega, fun aG qs H12 g12 hG0 hG hL12 _ _ _ => ?_⟩
      rw [hpp] at hL12
      refine ⟨_, _, _, rfl, (show Rep H12 (.ref aG) (.lst (pp.map T.lst)) from ⟨aG, _, rfl, hG, Lay.rep (fun p hp => (hsc p hp).1) hL12⟩), Rep.same (G11.trans g12) _ _ hdue, r1, by omega, hsz, fun H13 g13 => q _⟩
end
end K34

namespace K34
open PySem L2
theorem all_mk {l : PySem.W.OpenLaw} {w : World} {K : PySem.W.Frag} {h : Heap} {mg : Str → Option Value} {fa f0 f1 f2 f3 f4 f5 f6 f7 f8 f9 f10 f11 f12 f13 f14 : Addr} (X : K.In h) (G : h.Ns mainGlobals mg) (hfa : mg "law" = some (.ref fa))
    {od0 an0 : Option Addr} {sl0 : Array (Option Value)} {oc0 kV0 dc0 pm0 cd0 ct0 : Value}
    {od1 an1 : Option Addr} {sl1 : Array (Option Value)} {oc1 kV1 dc1 pm1 cd1 ct1 : Value}
    {od2 an2 : Option Addr} {sl2 : Array (Option Value)} {oc2 kV2 dc2 pm2 cd2 ct2 : Value}
    {od3 an3 : Option Addr} {sl3 : Array (Option Value)} {oc3 kV3 dc3 pm3 cd3 ct3 : Value}
    {od4 an4 : Option Addr} {sl4 : Array (Option Value)} {oc4 kV4 dc4 pm4 cd4 ct4 : Value}
    {od5 an5 : Option Addr} {sl5 : Array (Option Value)} {oc5 kV5 dc5 pm5 cd5 ct5 : Value}
    {od6 an6 : Option Addr} {sl6 : Array (Option Value)} {oc6 kV6 dc6 pm6 cd6 ct6 : Value}
    {od7 an7 : Option Addr} {sl7 : Array (Option Value)} {oc7 kV7 dc7 pm7 cd7 ct7 : Value}
    {od8 an8 : Option Addr} {sl8 : Array (Option Value)} {oc8 kV8 dc8 pm8 cd8 ct8 : Value}
    {od9 an9 : Option Addr} {sl9 : Array (Option Value)} {oc9 kV9 dc9 pm9 cd9 ct9 : Value}
    {od10 an10 : Option Addr} {sl10 : Array (Option Value)} {oc10 kV10 dc10 pm10 cd10 ct10 : Value}
    {od11 an11 : Option Addr} {sl11 : Array (Option Value)} {oc11 kV11 dc11 pm11 cd11 ct11 : Value}
    {od12 an12 : Option Addr} {sl12 : Array (Option Value)} {oc12 kV12 dc12 pm12 cd12 ct12 : Value}
    {od13 an13 : Option Addr} {sl13 : Array (Option Value)} {oc13 kV13 dc13 pm13 cd13 ct13 : Value}
    {od14 an14 : Option Addr} {sl14 : Array (Option Value)} {oc14 kV14 dc14 pm14 cd14 ct14 : Value}
    (a0 : PySem.W.nsIn K mainGlobals "spots" = some (some (.ref f0)))
    (l0 : K.lookup f0 = some ⟨oc0, od0, .func (PySem.W.fnOf "spots" "spots" (defArgs sSpots) (defBody sSpots) (defScope sSpots) .none kV0 dc0 pm0 an0 cd0 ct0), sl0⟩)
    (c0 : PySem.W.codeIn K cd0 "spots" = true)
    (k0 : PySem.W.keepIn K (.ref f0) = true)
    (a1 : PySem.W.nsIn K mainGlobals "steps_from" = some (some (.ref f1)))
    (l1 : K.lookup f1 = some ⟨oc1, od1, .func (PySem.W.fnOf "steps_from" "steps_from" (defArgs sSteps) (defBody sSteps) (defScope sSteps) .none kV1 dc1 pm1 an1 cd1 ct1), sl1⟩)
    (c1 : PySem.W.codeIn K cd1 "steps_from" = true)
    (k1 : PySem.W.keepIn K (.ref f1) = true)
    (a2 : PySem.W.nsIn K mainGlobals "_law_cell" = some (some (.ref f2)))
    (l2 : K.lookup f2 = some ⟨oc2, od2, .func (PySem.W.fnOf "_law_cell" "_law_cell" (defArgs sCell) (defBody sCell) (defScope sCell) .none kV2 dc2 pm2 an2 cd2 ct2), sl2⟩)
    (c2 : PySem.W.codeIn K cd2 "_law_cell" = true)
    (k2 : PySem.W.keepIn K (.ref f2) = true)
    (a3 : PySem.W.nsIn K mainGlobals "_law_name_by" = some (some (.ref f3)))
    (l3 : K.lookup f3 = some ⟨oc3, od3, .func (PySem.W.fnOf "_law_name_by" "_law_name_by" (defArgs sName) (defBody sName) (defScope sName) .none kV3 dc3 pm3 an3 cd3 ct3), sl3⟩)
    (c3 : PySem.W.codeIn K cd3 "_law_name_by" = true)
    (k3 : PySem.W.keepIn K (.ref f3) = true)
    (a4 : PySem.W.nsIn K mainGlobals "_law_signs" = some (some (.ref f4)))
    (l4 : K.lookup f4 = some ⟨oc4, od4, .func (PySem.W.fnOf "_law_signs" "_law_signs" (defArgs sSigns) (defBody sSigns) (defScope sSigns) .none kV4 dc4 pm4 an4 cd4 ct4), sl4⟩)
    (c4 : PySem.W.codeIn K cd4 "_law_signs" = true)
    (k4 : PySem.W.keepIn K (.ref f4) = true)
    (a5 : PySem.W.nsIn K mainGlobals "_law_text_by" = some (some (.ref f5)))
    (l5 : K.lookup f5 = some ⟨oc5, od5, .func (PySem.W.fnOf "_law_text_by" "_law_text_by" (defArgs sText) (defBody sText) (defScope sText) .none kV5 dc5 pm5 an5 cd5 ct5), sl5⟩)
    (c5 : PySem.W.codeIn K cd5 "_law_text_by" = true)
    (k5 : PySem.W.keepIn K (.ref f5) = true)
    (a6 : PySem.W.nsIn K mainGlobals "_law_number_by" = some (some (.ref f6)))
    (l6 : K.lookup f6 = some ⟨oc6, od6, .func (PySem.W.fnOf "_law_number_by" "_law_number_by" (defArgs sNum) (defBody sNum) (defScope sNum) .none kV6 dc6 pm6 an6 cd6 ct6), sl6⟩)
    (c6 : PySem.W.codeIn K cd6 "_law_number_by" = true)
    (k6 : PySem.W.keepIn K (.ref f6) = true)
    (a7 : PySem.W.nsIn K mainGlobals "_law_thing_by" = some (some (.ref f7)))
    (l7 : K.lookup f7 = some ⟨oc7, od7, .func (PySem.W.fnOf "_law_thing_by" "_law_thing_by" (defArgs sThing) (defBody sThing) (defScope sThing) .none kV7 dc7 pm7 an7 cd7 ct7), sl7⟩)
    (c7 : PySem.W.codeIn K cd7 "_law_thing_by" = true)
    (k7 : PySem.W.keepIn K (.ref f7) = true)
    (a8 : PySem.W.nsIn K mainGlobals "_law_deep" = some (some (.ref f8)))
    (l8 : K.lookup f8 = some ⟨oc8, od8, .func (PySem.W.fnOf "_law_deep" "_law_deep" (defArgs sDeep) (defBody sDeep) (defScope sDeep) .none kV8 dc8 pm8 an8 cd8 ct8), sl8⟩)
    (c8 : PySem.W.codeIn K cd8 "_law_deep" = true)
    (k8 : PySem.W.keepIn K (.ref f8) = true)
    (a9 : PySem.W.nsIn K mainGlobals "_law_wide" = some (some (.ref f9)))
    (l9 : K.lookup f9 = some ⟨oc9, od9, .func (PySem.W.fnOf "_law_wide" "_law_wide" (defArgs sWide) (defBody sWide) (defScope sWide) .none kV9 dc9 pm9 an9 cd9 ct9), sl9⟩)
    (c9 : PySem.W.codeIn K cd9 "_law_wide" = true)
    (k9 : PySem.W.keepIn K (.ref f9) = true)
    (a10 : PySem.W.nsIn K mainGlobals "_law_any" = some (some (.ref f10)))
    (l10 : K.lookup f10 = some ⟨oc10, od10, .func (PySem.W.fnOf "_law_any" "_law_any" (defArgs sAny) (defBody sAny) (defScope sAny) .none kV10 dc10 pm10 an10 cd10 ct10), sl10⟩)
    (c10 : PySem.W.codeIn K cd10 "_law_any" = true)
    (k10 : PySem.W.keepIn K (.ref f10) = true)
    (a11 : PySem.W.nsIn K mainGlobals "_law_alike" = some (some (.ref f11)))
    (l11 : K.lookup f11 = some ⟨oc11, od11, .func (PySem.W.fnOf "_law_alike" "_law_alike" (defArgs sAlike) (defBody sAlike) (defScope sAlike) .none kV11 dc11 pm11 an11 cd11 ct11), sl11⟩)
    (c11 : PySem.W.codeIn K cd11 "_law_alike" = true)
    (k11 : PySem.W.keepIn K (.ref f11) = true)
    (a12 : PySem.W.nsIn K mainGlobals "_law_copy" = some (some (.ref f12)))
    (l12 : K.lookup f12 = some ⟨oc12, od12, .func (PySem.W.fnOf "_law_copy" "_law_copy" (defArgs sHeld) (defBody sHeld) (defScope sHeld) .none kV12 dc12 pm12 an12 cd12 ct12), sl12⟩)
    (c12 : PySem.W.codeIn K cd12 "_law_copy" = true)
    (k12 : PySem.W.keepIn K (.ref f12) = true)
    (a13 : PySem.W.nsIn K mainGlobals "_law_spots" = some (some (.ref f13)))
    (l13 : K.lookup f13 = some ⟨oc13, od13, .func (PySem.W.fnOf "_law_spots" "_law_spots" (defArgs sLSp) (defBody sLSp) (defScope sLSp) .none kV13 dc13 pm13 an13 cd13 ct13), sl13⟩)
    (c13 : PySem.W.codeIn K cd13 "_law_spots" = true)
    (k13 : PySem.W.keepIn K (.ref f13) = true)
    (a14 : PySem.W.nsIn K mainGlobals "law" = some (some (.ref f14)))
    (l14 : K.lookup f14 = some ⟨oc14, od14, .func (PySem.W.fnOf "law" "law" (defArgs sLaw) (defBody sLaw) (defScope sLaw) .none kV14 dc14 pm14 an14 cd14 ct14), sl14⟩)
    (c14 : PySem.W.codeIn K cd14 "law" = true)
    (k14 : PySem.W.keepIn K (.ref f14) = true)
    (z0 : PySem.W.nsIn K mainGlobals "len" = some none)
    (z1 : PySem.W.nsIn K mainGlobals "range" = some none)
    (z2 : PySem.W.nsIn K mainGlobals "isinstance" = some none)
    (z3 : PySem.W.nsIn K mainGlobals "all" = some none)
    (z4 : PySem.W.nsIn K mainGlobals "sum" = some none)
    (z5 : PySem.W.nsIn K mainGlobals "int" = some none)
    (z6 : PySem.W.nsIn K mainGlobals "str" = some none)
    (z7 : PySem.W.nsIn K mainGlobals "bool" = some none)
    (z8 : PySem.W.nsIn K mainGlobals "list" = some none)
    (z9 : PySem.W.nsIn K mainGlobals "dict" = some none)
    (z10 : PySem.W.nsIn K mainGlobals "tuple" = some none)
    (y0 : PySem.W.nsIn K mainGlobals "max" = some none)
    (y1 : PySem.W.nsIn K mainGlobals "min" = some none)
    (y2 : PySem.W.nsIn K mainGlobals "sorted" = some none) :
    ∃ fd : FuncData, (∀ (s : Shared) (v : Value), BindsTo s fd ⟨[v], []⟩ [("_law_script", v)]) ∧ ∀ base : Heap, K.In base → base.Ns mainGlobals mg → FnOk l.prog w K mg base CX0 12 fa fd ["_law_script"] (spLaw K) := by
  have e := hfa.symm.trans (PySem.W.mg_of X G a14)
  cases e
  have Fspots := fun_mk (st := sSpots) l0 c0 k0
  have bspots := Fspots.binds (ps := ["thing"]) fun _ _ _ _ _ _ us hl => match us, hl with | [_], _ => rfl
  have mspots := PySem.W.mg_of X G a0
  have pspots := k0
  have Fsteps_from := fun_mk (st := sSteps) l1 c1 k1
  have bsteps_from := Fsteps_from.binds (ps := ["thing"]) fun _ _ _ _ _ _ us hl => match us, hl with | [_], _ => rfl
  have msteps_from := PySem.W.mg_of X G a1
  have psteps_from := k1
  have F_law_cell := fun_mk (st := sCell) l2 c2 k2
  have b_law_cell := F_law_cell.binds (ps := ["_law_script", "_law_k"]) fun _ _ _ _ _ _ us hl => match us, hl with | [_, _], _ => rfl
  have m_law_cell := PySem.W.mg_of X G a2
  have p_law_cell := k2
  have F_law_name_by := fun_mk (st := sName) l3 c3 k3
  have b_law_name_by := F_law_name_by.binds (ps := ["_law_more"]) fun _ _ _ _ _ _ us hl => match us, hl with | [_], _ => rfl
  have m_law_name_by := PySem.W.mg_of X G a3
  have p_law_name_by := k3
  have F_law_signs := fun_mk (st := sSigns) l4 c4 k4
  have b_law_signs := F_law_signs.binds (ps := []) fun _ _ _ _ _ _ us hl => match us, hl with | [], _ => rfl
  have m_law_signs := PySem.W.mg_of X G a4
  have p_law_signs := k4
  have F_law_text_by := fun_mk (st := sText) l5 c5 k5
  have b_law_text_by := F_law_text_by.binds (ps := ["_law_more"]) fun _ _ _ _ _ _ us hl => match us, hl with | [_], _ => rfl
  have m_law_text_by := PySem.W.mg_of X G a5
  have p_law_text_by := k5
  have F_law_number_by := fun_mk (st := sNum) l6 c6 k6
  have b_law_number_by := F_law_number_by.binds (ps := ["_law_more"]) fun _ _ _ _ _ _ us hl => match us, hl with | [_], _ => rfl
  have m_law_number_by := PySem.W.mg_of X G a6
  have p_law_number_by := k6
  have F_law_thing_by := fun_mk (st := sThing) l7 c7 k7
  have b_law_thing_by := F_law_thing_by.binds (ps := ["_law_script", "_law_k", "_law_deep_here"]) fun _ _ _ _ _ _ us hl => match us, hl with | [_, _, _], _ => rfl
  have m_law_thing_by := PySem.W.mg_of X G a7
  have p_law_thing_by := k7
  have F_law_deep := fun_mk (st := sDeep) l8 c8 k8
  have b_law_deep := F_law_deep.binds (ps := ["_law_script", "_law_k"]) fun _ _ _ _ _ _ us hl => match us, hl with | [_, _], _ => rfl
  have m_law_deep := PySem.W.mg_of X G a8
  have p_law_deep := k8
  have F_law_wide := fun_mk (st := sWide) l9 c9 k9
  have b_law_wide := F_law_wide.binds (ps := ["_law_script", "_law_k"]) fun _ _ _ _ _ _ us hl => match us, hl with | [_, _], _ => rfl
  have m_law_wide := PySem.W.mg_of X G a9
  have p_law_wide := k9
  have F_law_any := fun_mk (st := sAny) l10 c10 k10
  have b_law_any := F_law_any.binds (ps := ["_law_script", "_law_k"]) fun _ _ _ _ _ _ us hl => match us, hl with | [_, _], _ => rfl
  have m_law_any := PySem.W.mg_of X G a10
  have p_law_any := k10
  have F_law_alike := fun_mk (st := sAlike) l11 c11 k11
  have b_law_alike := F_law_alike.binds (ps := ["_law_found", "_law_due"]) fun _ _ _ _ _ _ us hl => match us, hl with | [_, _], _ => rfl
  have m_law_alike := PySem.W.mg_of X G a11
  have p_law_alike := k11
  have F_law_copy := fun_mk (st := sHeld) l12 c12 k12
  have b_law_copy := F_law_copy.binds (ps := ["_law_thing"]) fun _ _ _ _ _ _ us hl => match us, hl with | [_], _ => rfl
  have m_law_copy := PySem.W.mg_of X G a12
  have p_law_copy := k12
  have F_law_spots := fun_mk (st := sLSp) l13 c13 k13
  have b_law_spots := F_law_spots.binds (ps := ["_law_thing"]) fun _ _ _ _ _ _ us hl => match us, hl with | [_], _ => rfl
  have m_law_spots := PySem.W.mg_of X G a13
  have p_law_spots := k13
  have Flaw := fun_mk (st := sLaw) l14 c14 k14
  have blaw := Flaw.binds (ps := ["_law_script"]) fun _ _ _ _ _ _ us hl => match us, hl with | [_], _ => rfl
  have mlaw := PySem.W.mg_of X G a14
  have plaw := k14
  have B : Bl mg := ⟨PySem.W.mg_none_of X G z0, PySem.W.mg_none_of X G z1, PySem.W.mg_none_of X G z2, PySem.W.mg_none_of X G z3, PySem.W.mg_none_of X G z4, PySem.W.mg_none_of X G z5, PySem.W.mg_none_of X G z6, PySem.W.mg_none_of X G z7, PySem.W.mg_none_of X G z8, PySem.W.mg_none_of X G z9, PySem.W.mg_none_of X G z10⟩
  have B2 : Bl2 mg := ⟨B, PySem.W.mg_none_of X G y0, PySem.W.mg_none_of X G y1, PySem.W.mg_none_of X G y2⟩
  refine ⟨PySem.W.fnOf "law" "law" (defArgs sLaw) (defBody sLaw) (defScope sLaw) .none kV14 dc14 pm14 an14 cd14 ct14, fun s v => .of_eq rfl, fun base _ _ => ?_⟩
  have Gcell : Dn l.prog w K mg base 1 "_law_cell" ["_law_script", "_law_k"] (spCell K) := ⟨_, _, ok_cell F_law_cell B, b_law_cell, p_law_cell, m_law_cell⟩
  have Gnum : Dn l.prog w K mg base 1 "_law_number_by" ["_law_more"] spNum := ⟨_, _, ok_num F_law_number_by, b_law_number_by, p_law_number_by, m_law_number_by⟩
  have Gname : Dn l.prog w K mg base 1 "_law_name_by" ["_law_more"] spName := ⟨_, _, ok_name F_law_name_by B, b_law_name_by, p_law_name_by, m_law_name_by⟩
  have Gsigns : Dn l.prog w K mg base 1 "_law_signs" [] spSigns := ⟨_, _, ok_signs F_law_signs, b_law_signs, p_law_signs, m_law_signs⟩
  have Gtext : Dn l.prog w K mg base 2 "_law_text_by" ["_law_more"] spText := ⟨_, _, ok_text F_law_text_by B Gsigns, b_law_text_by, p_law_text_by, m_law_text_by⟩
  have Gthing : Dn l.prog w K mg base (3 + 3) "_law_thing_by" ["_law_script", "_law_k", "_law_deep_here"] (spThingAny K 3) := ⟨_, _, thing_any (thing_all F_law_thing_by B Gcell Gnum Gtext Gname b_law_thing_by p_law_thing_by m_law_thing_by), b_law_thing_by, p_law_thing_by, m_law_thing_by⟩
  have Gdeep : Dn l.prog w K mg base 7 "_law_deep" ["_law_script", "_law_k"] (spAny K) := ⟨_, _, ok_deep F_law_deep B Gcell Gthing Gname, b_law_deep, p_law_deep, m_law_deep⟩
  have Gwide : Dn l.prog w K mg base 7 "_law_wide" ["_law_script", "_law_k"] (spAny K) := ⟨_, _, ok_wide F_law_wide B Gcell Gthing Gname, b_law_wide, p_law_wide, m_law_wide⟩
  have Gany : Dn l.prog w K mg base 8 "_law_any" ["_law_script", "_law_k"] (spAny K) := ⟨_, _, ok_any F_law_any B Gcell Gthing Gdeep Gwide, b_law_any, p_law_any, m_law_any⟩
  have Gcopy : Dn l.prog w K mg base (1 + 9) "_law_copy" ["_law_thing"] (spHeld 9) := ⟨_, _, held_all F_law_copy B b_law_copy p_law_copy m_law_copy 9, b_law_copy, p_law_copy, m_law_copy⟩
  have Gal : Dn l.prog w K mg base (2 + 9) "_law_alike" ["_law_found", "_law_due"] (spAlike 9) := ⟨_, _, alike_all F_law_alike B2 b_law_alike p_law_alike m_law_alike 9, b_law_alike, p_law_alike, m_law_alike⟩
  have Gsteps : Dn l.prog w K mg base 1 "steps_from" ["thing"] spSteps := ⟨_, _, ok_steps Fsteps_from B2, bsteps_from, psteps_from, msteps_from⟩
  have Gspots : Dn l.prog w K mg base (2 + 9) "spots" ["thing"] (spSpots 9) := ⟨_, _, spots_all Fspots B2 Gsteps bspots pspots mspots 9, bspots, pspots, mspots⟩
  have Glsp : Dn l.prog w K mg base (2 + 9) "_law_spots" ["_law_thing"] (spLSp 9) := ⟨_, _, lsp_all F_law_spots B2 b_law_spots p_law_spots m_law_spots 9, b_law_spots, p_law_spots, m_law_spots⟩
  exact ok_law Flaw B Gany Gcopy Glsp Gspots Gal
theorem walk {l : PySem.W.OpenLaw} {q : Program} {loose : List Str} {XP : (Str → Option Value) → Heap → Prop} {YP : World → Heap → Prop} {d : DefRec} {K : Params → PySem.W.Frag} (hn : l.most = some 63) (hdf : d.params.defaults = [])
    (hY : ∀ (w : World) (h : Heap), YP w h → (K w.params).In h)
    (F : ∀ (w : World) (mg : Str → Option Value) (fa : Addr) (h : Heap), (K w.params).In h → h.Ns mainGlobals mg → mg d.name = some (.ref fa) →
      ∃ fd : FuncData, (∀ (s : Shared) (u : Value), BindsTo s fd ⟨[u], []⟩ [("_law_script", u)]) ∧ ∀ base : Heap, (K w.params).In base → base.Ns mainGlobals mg → FnOk l.prog w (K w.params) mg base CX0 12 fa fd ["_law_script"] (spLaw (K w.params))) :
    PySem.W.WalkO q loose XP YP l.row.toRowW d [] (fun f vs => PySem.call f vs) :=
  L2.walk_of (n := 63) (k := 12) (x := "_law_script") (CX := fun _ => CX0) (sp := fun w => spLaw (K w.params)) hn (by decide) hdf ⟨rfl, by decide, by decide⟩ hY F (fun _ _ a ns hl _ hS => ⟨a, ns, rfl, hS, hl, fun _ => rfl⟩) fun _ _ _ _ _ z => z
end K34
open PySem PySem.W PyProof.Rows
set_option maxRecDepth 100000 in
set_option maxHeartbeats 0 in
theorem PySem.Challenge.cw_cabinet_k34_spots_holds : PySem.Challenge.rw_cabinet_k34_spots.Holds := by
  w_on; o_law; k_head; (case hw => w_witness2)
  k_fill
  refine K34.walk (l := PySem.Challenge.rw_cabinet_k34_spots) rfl rfl (fun w h Y => PySem.W.kIn_of Y) ?F
  case F =>
    intro w mg fa h KX G hmg
    refine' K34.all_mk KX G hmg ?a0 ?l0 ?c0 ?k0 ?a1 ?l1 ?c1 ?k1 ?a2 ?l2 ?c2 ?k2 ?a3 ?l3 ?c3 ?k3 ?a4 ?l4 ?c4 ?k4 ?a5 ?l5 ?c5 ?k5 ?a6 ?l6 ?c6 ?k6 ?a7 ?l7 ?c7 ?k7 ?a8 ?l8 ?c8 ?k8 ?a9 ?l9 ?c9 ?k9 ?a10 ?l10 ?c10 ?k10 ?a11 ?l11 ?c11 ?k11 ?a12 ?l12 ?c12 ?k12 ?a13 ?l13 ?c13 ?k13 ?a14 ?l14 ?c14 ?k14 ?z0 ?z1 ?z2 ?z3 ?z4 ?z5 ?z6 ?z7 ?z8 ?z9 ?z10 ?y0 ?y1 ?y2
    (case a0 => k_is); (case l0 => k_is); (case c0 => k_is); (case k0 => k_is); (case a1 => k_is); (case l1 => k_is); (case c1 => k_is); (case k1 => k_is)
    (case a2 => k_is); (case l2 => k_is); (case c2 => k_is); (case k2 => k_is); (case a3 => k_is); (case l3 => k_is); (case c3 => k_is); (case k3 => k_is)
    (case a4 => k_is); (case l4 => k_is); (case c4 => k_is); (case k4 => k_is); (case a5 => k_is); (case l5 => k_is); (case c5 => k_is); (case k5 => k_is)
    (case a6 => k_is); (case l6 => k_is); (case c6 => k_is); (case k6 => k_is); (case a7 => k_is); (case l7 => k_is); (case c7 => k_is); (case k7 => k_is)
    (case a8 => k_is); (case l8 => k_is); (case c8 => k_is); (case k8 => k_is); (case a9 => k_is); (case l9 => k_is); (case c9 => k_is); (case k9 => k_is)
    (case a10 => k_is); (case l10 => k_is); (case c10 => k_is); (case k10 => k_is); (case a11 => k_is); (case l11 => k_is); (case c11 => k_is); (case k11 => k_is)
    (case a12 => k_is); (case l12 => k_is); (case c12 => k_is); (case k12 => k_is); (case a13 => k_is); (case l13 => k_is); (case c13 => k_is); (case k13 => k_is)
    (case a14 => k_is); (case l14 => k_is); (case c14 => k_is); (case k14 => k_is); (case z0 => k_is); (case z1 => k_is); (case z2 => k_is); (case z3 => k_is)
    (case z4 => k_is); (case z5 => k_is); (case z6 => k_is); (case z7 => k_is); (case z8 => k_is); (case z9 => k_is); (case z10 => k_is); (case y0 => k_is)
    (case y1 => k_is); (case y2 => k_is)
