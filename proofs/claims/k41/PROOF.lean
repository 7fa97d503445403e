import PyProof.Rows.All
import Wide.All
import OpenK.AllK
import Wide.FinOn
import Lean
import PyProof.EqAt
import PyProof.EqKinds
import PyProof.TupleCall
import PyProof.StrReplace2
import PyProof.DictItems
import PyProof.EnumStmt
import PyProof.EnumFor
import PyProof.DictItemsLoops
import PyProof.ZipIter
import PyProof.IsRules
import PyProof.Rows.SortRev
import KE.KIntText
import PySem.Challenge.RW_cabinet_k41_papers_known
set_option Elab.async false
set_option linter.all false
set_option maxRecDepth 100000
set_option maxHeartbeats 4000000
namespace L2
open PySem PySem.Spec PyProof.Rows
/-- a key: an int or a str -/
abbrev Key := Sum Int Str
def keyIs : Key → Value → Bool
  | .inl k, v => Value.isInt k v
  | .inr x, v => Value.isStrOf x v
def keyH (w : World) : Key → Int
  | .inl k => hashInt k
  | .inr x => hashStr w x
theorem keyIs_shape : ∀ {k : Key} {v : Value}, keyIs k v = true → (∃ i t, k = Sum.inl i ∧ v = Value.int i t) ∨ (∃ x t, k = Sum.inr x ∧ v = Value.str x t)
  | .inl i, v, h => by
    obtain ⟨t, e⟩ := Value.isInt_shape (k := i) (v := v) h
    exact .inl ⟨i, t, rfl, e⟩
  | .inr x, v, h => by
    obtain ⟨t, e⟩ := Value.isStrOf_shape (x := x) (v := v) h
    exact .inr ⟨x, t, rfl, e⟩
theorem keyIs_int (i : Int) (t : Tok) : keyIs (.inl i) (.int i t) = true := by simp [keyIs, Value.isInt]
theorem keyIs_str (x : Str) (t : Tok) : keyIs (.inr x) (.str x t) = true := by simp [keyIs, Value.isStrOf]
theorem key_ll (a b : Int) : decide ((Sum.inl a : Key) = Sum.inl b) = (a == b) := by
  by_cases e : a = b
  · subst e; simp
  · have h : ¬ (Sum.inl a : Key) = Sum.inl b := fun q => e (Sum.inl.inj q)
    rw [decide_eq_false h]
    exact (beq_eq_false_iff_ne.mpr e).symm
theorem key_rr (a b : Str) : decide ((Sum.inr a : Key) = Sum.inr b) = decide (a = b) := by
  by_cases e : a = b
  · subst e; simp
  · have h : ¬ (Sum.inr a : Key) = Sum.inr b := fun q => e (Sum.inr.inj q)
    rw [decide_eq_false h, decide_eq_false e]
theorem key_lr (a : Int) (b : Str) : decide ((Sum.inl a : Key) = Sum.inr b) = false := decide_eq_false (fun q => nomatch q)
theorem key_rl (a : Str) (b : Int) : decide ((Sum.inr a : Key) = Sum.inl b) = false := decide_eq_false (fun q => nomatch q)
def mixKind (prog : Program) (w : World) : PySem.KeyKind prog w Key where
  is := keyIs
  hash := keyH w
  inj := fun v a b ha hb => by
    rcases keyIs_shape ha with ⟨i, t, rfl, rfl⟩ | ⟨x, t, rfl, rfl⟩
    · rcases keyIs_shape hb with ⟨j, u, rfl, e⟩ | ⟨y, u, rfl, e⟩
      · injection e with e1 _; rw [e1]
      · exact nomatch e
    · rcases keyIs_shape hb with ⟨j, u, rfl, e⟩ | ⟨y, u, rfl, e⟩
      · exact nomatch e
      · injection e with e1 _; rw [e1]
  byValue := fun k v h => by
    rcases keyIs_shape h with ⟨i, t, rfl, rfl⟩ | ⟨x, t, rfl, rfl⟩ <;> rfl
  pyHash := fun hv h => by
    rcases keyIs_shape hv with ⟨i, t, rfl, rfl⟩ | ⟨x, t, rfl, rfl⟩
    · exact wpAny_pyHash_int h
    · exact wpAny_pyHash_str h
  eqBool := fun hu hv h => by
    rcases keyIs_shape hu with ⟨i, t, rfl, rfl⟩ | ⟨x, t, rfl, rfl⟩
    · rcases keyIs_shape hv with ⟨j, u, rfl, rfl⟩ | ⟨y, u, rfl, rfl⟩
      · rw [key_ll] at h; exact wpAny_eqBool_int h
      · rw [key_lr] at h; exact SeqAt.EqAt.int_str i t y u _ _ _ _ h
    · rcases keyIs_shape hv with ⟨j, u, rfl, rfl⟩ | ⟨y, u, rfl, rfl⟩
      · rw [key_rl] at h; exact SeqAt.EqAt.str_int x t j u _ _ _ _ h
      · rw [key_rr] at h; exact wpAny_eqBool_str h
  «strs» := fun k x t v h => by
    rcases keyIs_shape h with ⟨i, u, rfl, e⟩ | ⟨y, u, rfl, e⟩
    · exact nomatch e
    · injection e with e1 _
      subst e1
      cases v <;> rfl
theorem mixKind_int (prog : Program) (w : World) (i : Int) (t : Tok) : (mixKind prog w).is (.inl i) (.int i t) = true := keyIs_int i t
theorem mixKind_str (prog : Program) (w : World) (x : Str) (t : Tok) : (mixKind prog w).is (.inr x) (.str x t) = true := keyIs_str x t
end L2
namespace L2
open PySem PySem.Spec PyProof.Rows
/-- a value, without the heap -/
inductive V where
  | non | bl (b : Bool) | int (i : Int) | str (x : Str) | byt (b : Array UInt8) | flt (b : UInt64) | ref (a : Addr) | ty (n : String)
  deriving DecidableEq
def RelV : V → Value → Prop
  | .non, u => u = Value.none
  | .bl b, u => u = Value.bool b
  | .int i, u => ∃ t, u = Value.int i t
  | .str x, u => ∃ t, u = Value.str x t
  | .byt b, u => ∃ t, u = Value.bytes b t
  | .flt b, u => ∃ t, u = Value.float b t
  | .ref a, u => u = Value.ref a
  | .ty n, u => u = Value.type n
abbrev Vals : List V → List Value → Prop := Paired RelV
theorem Vals.length {xs : List V} {us : List Value} (r : Vals xs us) : xs.length = us.length := Paired.length r
theorem Vals.get : ∀ {xs : List V} {us : List Value} {i : Nat} {x : V}, Vals xs us → xs[i]? = some x → ∃ u, us[i]? = some u ∧ RelV x u
  | _, _, _, _, .nil, e => by simp at e
  | _, _, 0, _, .cons r _, e => by simp at e; subst e; exact ⟨_, rfl, r⟩
  | _, _, i + 1, x, .cons _ t, e => by
    obtain ⟨u, h1, h2⟩ := Vals.get (i := i) (x := x) t (by simpa using e)
    exact ⟨u, by simpa using h1, h2⟩
theorem Vals.set {x : V} {u : Value} (r : RelV x u) : ∀ {xs : List V} {us : List Value} (i : Nat), Vals xs us → Vals (xs.set i x) (us.set i u)
  | _, _, _, .nil => .nil
  | _, _, 0, .cons _ t => .cons r t
  | _, _, i + 1, .cons q t => .cons q (Vals.set r i t)
theorem Vals.append : ∀ {xs ys : List V} {us ws : List Value}, Vals xs us → Vals ys ws → Vals (xs ++ ys) (us ++ ws)
  | _, _, _, _, .nil, s => s
  | _, _, _, _, .cons r t, s => .cons r (Vals.append t s)
theorem Vals.take : ∀ {xs : List V} {us : List Value} (n : Nat), Vals xs us → Vals (xs.take n) (us.take n)
  | _, _, 0, _ => .nil
  | _, _, _ + 1, .nil => .nil
  | _, _, n + 1, .cons r t => .cons r (Vals.take n t)
theorem Vals.drop : ∀ {xs : List V} {us : List Value} (n : Nat), Vals xs us → Vals (xs.drop n) (us.drop n)
  | _, _, 0, r => r
  | _, _, _ + 1, .nil => .nil
  | _, _, n + 1, .cons _ t => Vals.drop n t
def RelO : Option V → Option Value → Prop
  | some v, some u => RelV v u
  | none, none => True
  | _, _ => False
def KV {κ : Type} : List (κ × V) → List (κ × Value) → Prop := Paired fun (p : κ × V) (q : κ × Value) => p.1 = q.1 ∧ RelV p.2 q.2
/-- a key of a dict (00_mix): an int or a text -/
def kV : Key → V
  | .inl i => .int i
  | .inr x => .str x
/-- what stands at a tracked address -/
inductive HO where
  /-- a list -/
  | lst (xs : List V)
  /-- a tuple (never changes) -/
  | tup (xs : List V)
  /-- a dict whose keys are ints and texts; one whose keys are tuples of ints and texts (the empty one is both) -/
  | dK (kvs : List (Key × V)) | dT (kvs : List (List Key × V))
  /-- a set of ints: its members, its size -/
  | set (S : Int → Bool) (n : Nat)
  /-- an instance of the class at C, its dict at dx, its attributes -/
  | ins (C dx : Addr) (fs : List (Str × V))
  /-- the dict of the instance at x -/
  | own (x : Addr)
  /-- the dict of an exception -/
  | xd (fs : List (Str × V))
  /-- a bound method, f of x -/
  | met (f x : Addr)
  /-- a range object lo, lo + 1, .. below hi -/
  | rng (lo hi : Int)
  /-- a thing that is known to the object (the script; a dict while a loop walks it): read, never written while it is so -/
  | frz (o : Obj) (u : HO)
  /-- a code object's table -/
  | tbl (ps : Array Value)
  /-- any other thing, by what is true of its one object (a def of one's own: SetO a S n := HO.ext fun h => ..) -/
  | ext (φ : Heap → Prop)
abbrev Hp := Addr → Option HO
def upd (H : Hp) (a : Addr) (o : HO) : Hp := fun b => if b = a then some o else H b
theorem upd_same {H : Hp} {a : Addr} {o : HO} : upd H a o a = some o := by unfold upd; rw [if_pos rfl]
theorem upd_ne {H : Hp} {a b : Addr} {o : HO} (h : b ≠ a) : upd H a o b = H b := by unfold upd; rw [if_neg h]
theorem upd_upd {H : Hp} {a : Addr} {o u : HO} : upd (upd H a o) a u = upd H a u := by
  funext b; unfold upd; split <;> rfl
/-- two objects of different content stand apart -/
theorem ne_of {H : Hp} {a b : Addr} {o u : HO} (h : H a = some o) (h' : H b = some u) (d : o ≠ u) : a ≠ b := by
  intro e; subst e; rw [h] at h'; exact d (Option.some.inj h')
theorem ne_of_none {H : Hp} {a b : Addr} {o : HO} (h : H a = some o) (h' : H b = none) : a ≠ b := by
  intro e; subst e; rw [h] at h'; cases h'
section
variable (P : Program) (w : World)
def ObjOk (H : Hp) (h : Heap) (a : Addr) : HO → Prop
  | .lst xs => xs.length ≤ sizeLine ∧ ∃ (its : List Value) (n : Nat), Vals xs its ∧ h.get? a = some { cls := .type "list", data := .seq its.toArray n }
  | .tup xs => xs.length ≤ sizeLine ∧ ∃ its : List Value, Vals xs its ∧ IsTup h a its.toArray
  | .dK kvs => kvs.length ≤ sizeLine ∧ (a == sysModules) = false ∧ ∃ vs, KV kvs vs ∧ h.DictOf (mixKind P w) a vs
  | .dT kvs => kvs.length ≤ sizeLine ∧ (a == sysModules) = false ∧ ∃ xs : List (List Key × Addr × Value),
      Paired (fun (p : List Key × V) (q : List Key × Addr × Value) => p.1 = q.1 ∧ H q.2.1 = some (.tup (p.1.map kV)) ∧ RelV p.2 q.2.2) kvs xs ∧
      ∃ o es ep, h.get? a = some o ∧ o.ExactDict ∧ o.data = .dict es ep ∧ es.toList = xs.map (entryOfKey (tupleKind (mixKind P w))) ∧ (xs.map (·.1)).Nodup
  | .set S n => h.SetOf (intKind P w) a S n
  | .ins C dx fs => H dx = some (.own a) ∧ fs.length ≤ 1000 ∧ dx ≠ a ∧ h.get? a = some (PySem.W.instObj C dx) ∧
      ∃ mA, h.Ns1 dx mA ∧ (∀ f, RelO (fs.lookup f) (mA f)) ∧ PySem.Within mA (fs.map (·.1))
  | .own _ => ∃ o, h.get? a = some o
  | .xd fs => ∃ mA, h.Ns1 a mA ∧ ∀ f, RelO (fs.lookup f) (mA f)
  | .rng lo hi => ∃ t u v, h.get? a = some { cls := .type "range", data := .fields #[.int lo t, .int hi u, .int 1 v] }
  | .frz o u => h.get? a = some o ∧ ObjOk H h a u
  | .tbl ps => h.get? a = some { cls := .none, data := .fields ps }
  | .met f x => h.get? a = some (PySem.W.methodObj (.ref f) (.ref x))
  | .ext φ => φ h ∧ (∃ o, h.get? a = some o) ∧ ∀ h1 h2 : Heap, φ h1 → (∀ o, h1.get? a = some o → h2.get? a = some o) → φ h2
/-- the abstract heap is held -/
def HOk (H : Hp) (h : Heap) : Prop := ∀ a o, H a = some o → ObjOk P w H h a o
end
section
variable {P : Program} {w : World} {H H' : Hp} {h h' : Heap} {a : Addr} {o : HO}
theorem ObjOk.lt (x : ObjOk P w H h a o) : a < h.objs.size := by
  cases o with
  | lst xs => obtain ⟨_, _, _, _, e⟩ := x; exact Heap.lt_size e
  | tup xs => obtain ⟨_, _, _, p⟩ := x; exact p.lt
  | dK kvs => obtain ⟨_, _, _, _, o, _, _, e, _⟩ := x; exact Heap.lt_size e
  | dT kvs => obtain ⟨_, _, _, _, o, _, _, e, _⟩ := x; exact Heap.lt_size e
  | set S n => obtain ⟨o, _, _, _, e, _⟩ := x; exact Heap.lt_size e
  | ins C dx fs => obtain ⟨_, _, _, e, _⟩ := x; exact Heap.lt_size e
  | own y => obtain ⟨_, e⟩ := x; exact Heap.lt_size e
  | xd fs => obtain ⟨_, ⟨_, _, _, e, _⟩, _⟩ := x; exact Heap.lt_size e
  | rng lo hi => obtain ⟨_, _, _, e⟩ := x; exact Heap.lt_size e
  | frz ob u => obtain ⟨e, _⟩ := x; exact Heap.lt_size e
  | tbl ps => exact Heap.lt_size (show h.get? a = some _ from x)
  | met f y => exact Heap.lt_size (show h.get? a = some _ from x)
  | ext φ => obtain ⟨_, ⟨_, e⟩, _⟩ := x; exact Heap.lt_size e
theorem Paired.mapP {α β : Type} {F G : α → β → Prop} : ∀ {l₁ : List α} {l₂ : List β}, Paired F l₁ l₂ → (∀ a b, F a b → G a b) → Paired G l₁ l₂
  | _, _, .nil, _ => .nil
  | _, _, .cons r t, f => .cons (f _ _ r) (Paired.mapP t f)
/-- what an object's description leans on: its own object, its own dict, the tuples -/
theorem ObjOk.stay (x : ObjOk P w H h a o) (k : ∀ b u, (b = a ∨ H b = some (.own a)) → h.get? b = some u → h'.get? b = some u)
    (ho : ∀ b, H b = some (.own a) → H' b = some (.own a)) (ht : ∀ b xs, H b = some (.tup xs) → H' b = some (.tup xs)) : ObjOk P w H' h' a o := by
  induction o with
  | lst xs => obtain ⟨z, its, n, r, e⟩ := x; exact ⟨z, its, n, r, k _ _ (.inl rfl) e⟩
  | tup xs => obtain ⟨z, its, r, ob, e, c⟩ := x; exact ⟨z, its, r, ob, k _ _ (.inl rfl) e, c⟩
  | dK kvs => obtain ⟨z, y, vs, r, ob, es, ep, e, c⟩ := x; exact ⟨z, y, vs, r, ob, es, ep, k _ _ (.inl rfl) e, c⟩
  | dT kvs =>
    obtain ⟨z, y, xs, r, ob, es, ep, e, c⟩ := x
    exact ⟨z, y, xs, Paired.mapP r fun p q z => ⟨z.1, ht _ _ z.2.1, z.2.2⟩, ob, es, ep, k _ _ (.inl rfl) e, c⟩
  | set S n => obtain ⟨ob, es, ep, t, e, c⟩ := x; exact ⟨ob, es, ep, t, k _ _ (.inl rfl) e, c⟩
  | ins C dx fs =>
    obtain ⟨d, z, ne, e, mA, ⟨od, es, ep, e2, c⟩, r⟩ := x
    exact ⟨ho _ d, z, ne, k _ _ (.inl rfl) e, mA, ⟨od, es, ep, k _ _ (.inr d) e2, c⟩, r⟩
  | own y => obtain ⟨ob, e⟩ := x; exact ⟨ob, k _ _ (.inl rfl) e⟩
  | xd fs => obtain ⟨mA, ⟨od, es, ep, e, c⟩, r⟩ := x; exact ⟨mA, ⟨od, es, ep, k _ _ (.inl rfl) e, c⟩, r⟩
  | rng lo hi => obtain ⟨t, u, v, e⟩ := x; exact ⟨t, u, v, k _ _ (.inl rfl) e⟩
  | frz ob u ih => obtain ⟨e, q⟩ := x; exact ⟨k _ _ (.inl rfl) e, ih q⟩
  | tbl ps =>
    have e : h.get? a = some { cls := .none, data := .fields ps } := x
    show h'.get? a = some { cls := .none, data := .fields ps }
    exact k a _ (.inl rfl) e
  | met f y =>
    have e : h.get? a = some (PySem.W.methodObj (.ref f) (.ref y)) := x
    show h'.get? a = some (PySem.W.methodObj (.ref f) (.ref y))
    exact k a _ (.inl rfl) e
  | ext φ => obtain ⟨p, ⟨o, e⟩, st⟩ := x; exact ⟨st _ _ p fun o q => k _ _ (.inl rfl) q, ⟨o, k _ _ (.inl rfl) e⟩, st⟩
theorem HOk.lt (x : HOk P w H h) (e : H a = some o) : a < h.objs.size := (x a o e).lt
theorem HOk.fresh (x : HOk P w H h) (e : h.objs.size ≤ a) : H a = none := by
  cases q : H a with
  | none => rfl
  | some u => exact absurd (Nat.lt_of_lt_of_le (x.lt q) e) (Nat.lt_irrefl _)
/-- every object of the heap is kept -/
theorem HOk.kept (x : HOk P w H h) (k : ∀ b u, h.get? b = some u → h'.get? b = some u) : HOk P w H h' := fun a o e =>
  (x a o e).stay (fun b u _ q => k b u q) (fun _ q => q) fun _ _ q => q
/-- a new object is laid and tracked -/
theorem HOk.laid (x : HOk P w H h) (k : ∀ b u, h.get? b = some u → h'.get? b = some u) (hp : h.objs.size ≤ a) (new : ObjOk P w (upd H a o) h' a o) : HOk P w (upd H a o) h' := fun b u e => by
  have hn := x.fresh hp
  by_cases hb : b = a
  · subst hb; rw [upd_same] at e; cases e; exact new
  · rw [upd_ne hb] at e
    exact (x b u e).stay (fun c v _ q => k c v q) (fun c q => by rw [upd_ne (ne_of_none q hn)]; exact q) fun c xs q => by rw [upd_ne (ne_of_none q hn)]; exact q
end
/-- what may be read as u: it is u, or a known u -/
def Rd (H : Hp) (a : Addr) (u : HO) : Prop := H a = some u ∨ ∃ o, H a = some (.frz o u)
theorem Rd.ok {P : Program} {w : World} {H : Hp} {h : Heap} {a : Addr} {u : HO} (r : Rd H a u) (x : HOk P w H h) : ObjOk P w H h a u := by
  rcases r with r | ⟨o, r⟩
  · exact x a u r
  · obtain ⟨_, q⟩ := x a _ r
    exact q
/-- what may be written -/
def Mut : Option HO → Prop
  | some (.lst _) => True
  | some (.dK _) => True
  | some (.dT _) => True
  | some (.set _ _) => True
  | some (.ins _ _ _) => True
  | some (.ext _) => True
  | _ => False
section
variable {P : Program} {w : World} {H : Hp} {h h' : Heap} {x e : Addr} {o' : HO}
/-- the object at e is changed: x itself, or the dict of the instance x -/
theorem HOk.write (ok : HOk P w H h) (mu : Mut (H x)) (he : e = x ∨ H e = some (.own x)) (k : ∀ b u, b ≠ e → h.get? b = some u → h'.get? b = some u) (heo : ∃ u, h'.get? e = some u)
    (new : ObjOk P w (upd H x o') h' x o') : HOk P w (upd H x o') h' := fun b u q => by
  have nown : ∀ c y, H c = some (.own y) → c ≠ x := fun c y r z => by subst z; rw [r] at mu; exact mu
  have ntup : ∀ c xs, H c = some (.tup xs) → c ≠ x := fun c xs r z => by subst z; rw [r] at mu; exact mu
  by_cases hb : b = x
  · subst hb; rw [upd_same] at q; cases q; exact new
  · rw [upd_ne hb] at q
    by_cases hbe : b = e
    · have q' : H b = some (.own x) := by
        rcases he with z | z
        · exact absurd (hbe.trans z) hb
        · rw [hbe]; exact z
      rw [q] at q'; cases q'
      obtain ⟨v, hv⟩ := heo
      exact ⟨v, by rw [hbe]; exact hv⟩
    · refine (ok b u q).stay (fun c v hc r => k c v ?_ r) (fun c r => by rw [upd_ne (nown c b r)]; exact r) fun c xs r => by rw [upd_ne (ntup c xs r)]; exact r
      rcases hc with rfl | hc
      · exact hbe
      · rintro rfl
        rcases he with z | z
        · exact nown c b hc z
        · rw [hc] at z; cases z; exact hb rfl
end
structure Un (fs ex : List Addr) (H H' : Hp) (h h' : Heap) : Prop where
  keep : ∀ b o, h.get? b = some o → H b = none → b ∉ fs → b ∉ ex → h'.get? b = some o
  slot : ∀ b o, h.get? b = some o → H b = none → b ∈ fs → b ∉ ex → ∃ sl, h'.get? b = some { o with slots := sl }
  free : ∀ b o, h.get? b = some o → H b = none → b ∉ ex → H' b = none
  there : ∀ b o, h.get? b = some o → b ∉ ex → ∃ o', h'.get? b = some o'
  tups : ∀ b xs, H b = some (.tup xs) → H' b = some (.tup xs)
  frzs : ∀ b o u, H b = some (.frz o u) → H' b = some (.frz o u)
  tbls : ∀ b ps, H b = some (.tbl ps) → ∃ more, H' b = some (.tbl (ps ++ more))
section
variable {fs fs' ex ex' : List Addr} {H H1 H2 : Hp} {h h1 h2 h' : Heap} {a x e : Addr} {o : HO}
theorem Un.any (u : Un fs ex H H1 h h1) {b : Addr} {ob : Obj} (q : h.get? b = some ob) (n : H b = none) (hx : b ∉ ex) : ∃ sl, h1.get? b = some { ob with slots := sl } := by
  by_cases hb : b ∈ fs
  · exact u.slot b ob q n hb hx
  · exact ⟨ob.slots, u.keep b ob q n hb hx⟩
theorem Un.kept (k : ∀ b u, h.get? b = some u → h'.get? b = some u) : Un fs ex H H h h' :=
  ⟨fun b ob q _ _ _ => k b ob q, fun b ob q _ _ _ => ⟨ob.slots, k b ob q⟩, fun _ _ _ n _ => n, fun b ob q _ => ⟨ob, k b ob q⟩, fun _ _ q => q, fun _ _ _ q => q, fun _ ps q => ⟨#[], by rw [q]; simp⟩⟩
theorem Un.refl : Un fs ex H H h h := Un.kept fun _ _ q => q
theorem Un.laid (k : ∀ b u, h.get? b = some u → h'.get? b = some u) (hp : h.objs.size ≤ a) (hn : H a = none) : Un fs ex H (upd H a o) h h' where
  keep := fun b u q _ _ _ => k b u q
  slot := fun b u q _ _ _ => ⟨u.slots, k b u q⟩
  free := fun b u q n _ => by rw [upd_ne (Nat.ne_of_lt (Nat.lt_of_lt_of_le (Heap.lt_size q) hp))]; exact n
  there := fun b u q _ => ⟨u, k b u q⟩
  tups := fun b xs q => by rw [upd_ne (ne_of_none q hn)]; exact q
  frzs := fun b u xs q => by rw [upd_ne (ne_of_none q hn)]; exact q
  tbls := fun b ps q => ⟨#[], by rw [upd_ne (ne_of_none q hn), q]; simp⟩
theorem Un.write (mu : Mut (H x)) (he : e = x ∨ H e = some (.own x)) (k : ∀ b u, b ≠ e → h.get? b = some u → h'.get? b = some u) (heo : ∃ u, h'.get? e = some u) : Un fs ex H (upd H x o) h h' := by
  have hx : ∀ b, H b = none → b ≠ x := fun b n z => by subst z; rw [n] at mu; exact mu
  have hb : ∀ b, H b = none → b ≠ e := fun b n z => by
    subst z
    rcases he with r | r
    · exact hx b n r
    · rw [n] at r; cases r
  have hm : ∀ b u, H b = some u → ¬ Mut (some u) → b ≠ x := fun b u q nm z => by subst z; rw [q] at mu; exact nm mu
  refine ⟨fun b u q n _ _ => k b u (hb b n) q, fun b u q n _ _ => ⟨u.slots, k b u (hb b n) q⟩, fun b u q n _ => by rw [upd_ne (hx b n)]; exact n, fun b u q _ => ?_,
    fun b xs q => by rw [upd_ne (hm b _ q fun z => z)]; exact q, fun b u xs q => by rw [upd_ne (hm b _ q fun z => z)]; exact q, fun b ps q => ⟨#[], by rw [upd_ne (hm b _ q fun z => z), q]; simp⟩⟩
  by_cases hbe : b = e
  · subst hbe; exact heo
  · exact ⟨u, k b u hbe q⟩
end
def trk (h : Heap) (H : Hp) : List Addr := (List.range h.objs.size).filter fun a => (H a).isSome
def hidT (h : Heap) (H : Hp) : Heap := PySem.W.hideAll h (trk h H)
theorem hidT_size (h : Heap) (H : Hp) : (hidT h H).objs.size = h.objs.size := PySem.W.hideAll_size _ _
theorem hidT_get {h : Heap} {H : Hp} {b : Addr} {o : Obj} (e : h.get? b = some o) (n : H b = none) : (hidT h H).get? b = some o :=
  PySem.W.hideAll_get _ e fun hm => by
    have q : (H b).isSome = true := (List.mem_filter.mp hm).2
    rw [n] at q; simp at q
theorem of_hidT {h : Heap} {H : Hp} {b : Addr} {o : Obj} (e : (hidT h H).get? b = some o) : h.get? b = some o ∧ H b = none := by
  have e' : h.get? b = some o := PySem.W.of_hideAll (trk h H) e
  refine ⟨e', ?_⟩
  cases q : H b with
  | none => rfl
  | some x =>
    have hm : b ∈ trk h H := List.mem_filter.mpr ⟨List.mem_range.mpr (Heap.lt_size e'), by simp [q]⟩
    have z : (hidT h H).get? b = none := PySem.W.hideAll_none (trk h H) hm
    rw [z] at e; cases e
def allNews (g h : Heap) (L : Addr) : List (Addr × Obj) := (List.range h.objs.size).filterMap fun a => if a = L ∨ (g.get? a).isSome = true then none else (h.get? a).map fun o => (a, o)
def rest (g h : Heap) (L d : Addr) : List (Addr × Obj) := (allNews g h L).filter fun p => decide (p.1 ≠ d)
end L2
namespace L2
open PySem PySem.Spec PyProof.Rows
/-- the module's facts, over the base: the heap at the law's entry without what is tracked there -/
structure Mod (K : PySem.W.Frag) (mg : Str → Option Value) (base : Heap) : Prop where
  kin : K.In base
  glob : base.Ns mainGlobals mg
  blt : ∃ mb, base.Ns builtinsNs mb ∧ ∀ x : Str, x ≠ "__name__" → mb x = bootBuiltins x
  nolimit : base.NoLimit
/-- the context: a def's body (or a comprehension's block) running. base: fixed through the whole law; s₀, H₀: the entry; outer: the frames whose slots others may change (a def's callers); stack: all frames that run;
   ex: iterators that were made ahead of the entry and are walked here (a comprehension's); fn: the names whose cells were made at the entry (a def: all; a comprehension's block: its own); calm: not within an except suite; pn: pins that every state bears; xe: what is wanted of an exception that leaves the code -/
structure Cx where
  prog : Program
  w : World
  K : PySem.W.Frag
  mg : Str → Option Value
  base : Heap
  A : Around
  N : List Str
  s₀ : Shared
  H₀ : Hp
  env : Env
  outer : List Env
  stack : List Env
  ex : List Addr
  fn : Str → Bool
  calm : Bool
  pn : List (Addr × Obj)
  xe : Value → Shared → Prop
/-- the callers' frames -/
def frs (l : List Env) : List Addr := l.filterMap (·.frame)
abbrev Cx.fs (X : Cx) : List Addr := frs X.outer
def Vis (sc : Scope) (x : Str) : Prop := sc.names.lookup x = some .local ∨ sc.names.lookup x = some .cell ∨ sc.names.lookup x = some .free
def Loc (sc : Scope) (x : Str) : Prop := sc.names.lookup x = some .local ∨ sc.names.lookup x = some .cell
def Look (env : Env) (h : Heap) (m : Str → Option Value) (x : Str) (u : Value) : Prop :=
  (env.kindOf x = some .local ∧ m x = some u) ∨ ((env.kindOf x = some .cell ∨ env.kindOf x = some .free) ∧ ∃ c, env.cells.lookup x = some c ∧ h.IsCell c (some u))
structure Cx.Ok (X : Cx) : Prop where
  mod : Mod X.K X.mg X.base
  kind : X.env.scope.kind = .function
  glob : X.env.globals = mainGlobals
  blt : X.env.builtins = builtinsNs
  above : X.s₀.heap.objs.size ≤ X.env.locals
  inj : ∀ x y c, X.env.cells.lookup x = some c → X.env.cells.lookup y = some c → x = y
  has : ∀ x, (X.env.kindOf x = some .cell ∨ X.env.kindOf x = some .free) → ∃ c, X.env.cells.lookup x = some c
  cab : ∀ x c, X.fn x = true → X.env.cells.lookup x = some c → X.s₀.heap.objs.size ≤ c
  hd : X.calm = true → X.A.handled = none
  frames : X.A.frames = some X.stack
  stk : X.stack = X.outer ∨ (X.stack = X.env :: X.outer ∧ X.env.frame = some X.env.locals)
  exf : ∀ b ∈ X.ex, b ≠ X.env.locals ∧ ∀ x c, X.env.cells.lookup x = some c → c ≠ b
  bs : ∀ b o, X.base.get? b = some o → X.s₀.heap.get? b = some o ∧ X.H₀ b = none
  bsz : X.base.objs.size ≤ X.s₀.heap.objs.size
  noex : ∀ b o, X.base.get? b = some o → b ∉ X.ex
  exfs : ∀ b ∈ X.ex, b ∉ X.fs
  funs : X.s₀.heap.FunFrames X.base X.outer
  frf : ∀ b ∈ X.fs, X.H₀ b = none
structure Inv (X : Cx) (pins : List (Addr × Obj)) (σ : List (Option V)) (H : Hp) (s : Shared) : Prop where
  ok : X.Ok
  os : s.os = X.s₀.os
  bare : AllBare s.gens
  base : Un X.fs X.ex X.H₀ H X.s₀.heap s.heap
  loc : ∃ m, s.heap.Ns X.env.locals m ∧ ∀ (i : Nat) (x : Str) (v : V), X.N[i]? = some x → σ[i]? = some (some v) → Vis X.env.scope x → ∃ u, RelV v u ∧ Look X.env s.heap m x u
  cell : ∀ x c, X.env.cells.lookup x = some c → ∃ v, s.heap.IsCell c v
  free : H X.env.locals = none
  freeC : ∀ x c, X.env.cells.lookup x = some c → H c = none
  pin : ∀ p ∈ X.pn ++ pins, s.heap.get? p.1 = some p.2 ∧ H p.1 = none ∧ p.1 ≠ X.env.locals ∧ p.1 ∉ X.fs ∧ ∀ v, p.2.data ≠ .cell v
  hok : HOk X.prog X.w H s.heap
  len : σ.length = X.N.length
section
variable {X : Cx} {pins : List (Addr × Obj)} {σ : List (Option V)} {H H' : Hp} {s : Shared} {h' : Heap}
theorem Cx.Ok.nofr (ok : X.Ok) {b : Addr} {o : Obj} (e : X.base.get? b = some o) : b ∉ X.fs := fun hb => by
  have := (ok.funs.mem hb).1
  rw [e] at this; cases this
theorem Inv.bs (I : Inv X pins σ H s) : ∀ b o, X.base.get? b = some o → s.heap.get? b = some o ∧ H b = none := fun b o e =>
  ⟨I.base.keep b o (I.ok.bs b o e).1 (I.ok.bs b o e).2 (I.ok.nofr e) (I.ok.noex b o e), I.base.free b o (I.ok.bs b o e).1 (I.ok.bs b o e).2 (I.ok.noex b o e)⟩
theorem Inv.bk (I : Inv X pins σ H s) : ∀ b o, X.base.get? b = some o → s.heap.get? b = some o := fun b o e => (I.bs b o e).1
theorem Inv.mod (I : Inv X pins σ H s) : Mod X.K X.mg X.base := I.ok.mod
theorem Inv.kIn (I : Inv X pins σ H s) : X.K.In s.heap := I.ok.mod.kin.keeps I.bk
theorem Inv.lt (I : Inv X pins σ H s) : X.env.locals < s.heap.objs.size := let ⟨_, hn, _⟩ := I.loc; hn.lt
theorem Inv.sz (I : Inv X pins σ H s) : X.s₀.heap.objs.size ≤ s.heap.objs.size := Nat.le_trans I.ok.above (Nat.le_of_lt I.lt)
theorem Inv.nofs (I : Inv X pins σ H s) {a : Addr} (h : s.heap.objs.size ≤ a) : a ∉ X.fs := fun hb => by
  obtain ⟨_, o, ho, _⟩ := I.ok.funs.mem hb
  exact absurd (Nat.lt_of_lt_of_le (Heap.lt_size ho) (Nat.le_trans I.sz h)) (Nat.lt_irrefl _)
theorem Inv.cne (I : Inv X pins σ H s) : ∀ x c, X.env.cells.lookup x = some c → c ≠ X.env.locals := fun x c e z => by
  obtain ⟨v, o, ho, hd⟩ := I.cell x c e
  obtain ⟨m, ⟨o', es, ep, ho', hd', _⟩, _⟩ := I.loc
  rw [z, ho'] at ho; cases ho; rw [hd'] at hd; cases hd
theorem Inv.funs (I : Inv X pins σ H s) : s.heap.FunFrames X.base X.outer := by
  have all : ∀ (l : List Env), (∀ b ∈ frs l, b ∈ X.fs) → X.s₀.heap.FunFrames X.base l → s.heap.FunFrames X.base l := by
    intro l
    induction l with
    | nil => intro _ _; trivial
    | cons env r ih =>
      intro hs hl
      obtain ⟨hk, ⟨L, o, hf, hn, ho, hd⟩, hr⟩ := hl
      have hL : L ∈ X.fs := hs L (by unfold frs; rw [List.filterMap_cons, hf]; exact List.mem_cons_self)
      obtain ⟨sl, e⟩ := I.base.slot L o ho (I.ok.frf L hL) hL fun z => I.ok.exfs L z hL
      exact ⟨hk, ⟨L, _, hf, hn, e, hd⟩, ih (fun b hb => hs b (by unfold frs; rw [List.filterMap_cons, hf]; exact List.mem_cons_of_mem _ hb)) hr⟩
  exact all X.outer (fun _ hb => hb) I.ok.funs
/-- the frames that run, for a call -/
theorem Inv.stack (I : Inv X pins σ H s) : s.heap.FunFrames X.base X.stack := by
  rcases I.ok.stk with e | ⟨e, hf⟩
  · rw [e]; exact I.funs
  · rw [e]
    obtain ⟨m, hn, _⟩ := I.loc
    refine .cons (by rw [I.ok.kind]; decide) hf hn ?_ I.funs
    exact Heap.get?_none_of_le (Nat.le_trans I.ok.bsz I.ok.above)
theorem Inv.stkSub (I : Inv X pins σ H s) : ∀ b ∈ frs X.stack, b ∈ X.env.locals :: X.fs := fun b hb => by
  rcases I.ok.stk with e | ⟨e, hf⟩
  · rw [e] at hb; exact List.mem_cons_of_mem _ hb
  · rw [e] at hb
    unfold frs at hb
    rw [List.filterMap_cons, hf] at hb
    exact hb
theorem Inv.stkFree (I : Inv X pins σ H s) : ∀ b ∈ frs X.stack, H b = none := fun b hb => by
  rcases List.mem_cons.mp (I.stkSub b hb) with e | hb
  · rw [e]; exact I.free
  · obtain ⟨_, o, ho, _⟩ := I.ok.funs.mem hb
    exact I.base.free b o ho (I.ok.frf b hb) fun z => I.ok.exfs b z hb
/-- THE STEP: the untracked objects but the frame and the records at ch are kept (the callers' frames up to slots), the frame's map is kept, the new abstract heap is held -/
theorem Inv.step {g' : Array GenState} {t' : Nat} {d' : Drawn} {ch : List Addr} (I : Inv X pins σ H s)
    (hch : ∀ b ∈ ch, (b ∈ X.ex ∨ X.s₀.heap.objs.size ≤ b) ∧ b ≠ X.env.locals ∧ (∀ x c, X.env.cells.lookup x = some c → c ≠ b) ∧ ∀ p ∈ X.pn ++ pins, p.1 ≠ b)
    (keep : ∀ b o, b ≠ X.env.locals → b ∉ X.fs → b ∉ ch → s.heap.get? b = some o → H b = none → h'.get? b = some o)
    (slot : ∀ b o, b ≠ X.env.locals → b ∈ X.fs → b ∉ ch → s.heap.get? b = some o → H b = none → ∃ sl, h'.get? b = some { o with slots := sl }) (free : ∀ b o, b ∉ ch → s.heap.get? b = some o → H b = none → H' b = none)
    (there : ∀ b o, b ∉ ch → s.heap.get? b = some o → ∃ o', h'.get? b = some o')
    (tups : ∀ b xs, H b = some (.tup xs) → H' b = some (.tup xs)) (frzs : ∀ b o u, H b = some (.frz o u) → H' b = some (.frz o u)) (tbls : ∀ b ps, H b = some (.tbl ps) → ∃ more, H' b = some (.tbl (ps ++ more)))
    (ns : ∀ m, s.heap.Ns X.env.locals m → h'.Ns X.env.locals m) (hok : HOk X.prog X.w H' h') (hg : AllBare g') :
    Inv X pins σ H' { s with heap := h', gens := g', drawn := d', toks := t' } := by
  have neL : ∀ b o, X.s₀.heap.get? b = some o → b ≠ X.env.locals := fun b o e => Nat.ne_of_lt (Nat.lt_of_lt_of_le (Heap.lt_size e) I.ok.above)
  have neC : ∀ b o, X.s₀.heap.get? b = some o → b ∉ X.ex → b ∉ ch := fun b o e hx hb => by
    rcases (hch b hb).1 with z | z
    · exact hx z
    · exact absurd (Nat.lt_of_lt_of_le (Heap.lt_size e) z) (Nat.lt_irrefl _)
  have cellK : ∀ x c, X.env.cells.lookup x = some c → ∀ v, s.heap.IsCell c v → h'.IsCell c v := fun x c e v ⟨o, ho, hd⟩ => by
    have nch : c ∉ ch := fun z => (hch c z).2.2.1 x c e rfl
    by_cases hc : c ∈ X.fs
    · obtain ⟨sl, q⟩ := slot c o (I.cne x c e) hc nch ho (I.freeC x c e)
      exact ⟨_, q, hd⟩
    · exact ⟨o, keep c o (I.cne x c e) hc nch ho (I.freeC x c e), hd⟩
  refine ⟨I.ok, I.os, hg, ⟨fun b o e n hb hx => ?_, fun b o e n hb hx => ?_, fun b o e n hx => ?_, fun b o e hx => ?_, fun b xs e => tups b xs (I.base.tups b xs e), fun b o xs e => frzs b o xs (I.base.frzs b o xs e), fun b ps e => ?_⟩, ?_, fun x c e => ?_, ?_, fun x c e => ?_, fun p hp => ?_, hok, I.len⟩
  · exact keep b o (neL b o e) hb (neC b o e hx) (I.base.keep b o e n hb hx) (I.base.free b o e n hx)
  · obtain ⟨sl, e1⟩ := I.base.slot b o e n hb hx
    obtain ⟨sl', e2⟩ := slot b _ (neL b o e) hb (neC b o e hx) e1 (I.base.free b o e n hx)
    exact ⟨sl', e2⟩
  · obtain ⟨o', e1⟩ := I.base.there b o e hx
    exact free b o' (neC b o e hx) e1 (I.base.free b o e n hx)
  · obtain ⟨o', e1⟩ := I.base.there b o e hx
    exact there b o' (neC b o e hx) e1
  · obtain ⟨m1, e1⟩ := I.base.tbls b ps e
    obtain ⟨m2, e2⟩ := tbls b _ e1
    exact ⟨m1 ++ m2, by rw [e2, Array.append_assoc]⟩
  · obtain ⟨m, hn, hl⟩ := I.loc
    refine ⟨m, ns m hn, fun i x v e1 e2 e3 => ?_⟩
    obtain ⟨u, r, l⟩ := hl i x v e1 e2 e3
    refine ⟨u, r, ?_⟩
    rcases l with l | ⟨k, c, e, z⟩
    · exact .inl l
    · exact .inr ⟨k, c, e, cellK x c e _ z⟩
  · obtain ⟨v, z⟩ := I.cell x c e
    exact ⟨v, cellK x c e v z⟩
  · obtain ⟨m, ⟨o, _, _, ho, _⟩, _⟩ := I.loc
    exact free _ o (fun z => (hch _ z).2.1 rfl) ho I.free
  · obtain ⟨v, o, ho, hd⟩ := I.cell x c e
    exact free c o (fun z => (hch c z).2.2.1 x c e rfl) ho (I.freeC x c e)
  · obtain ⟨e, n, ne, nf, d⟩ := I.pin p hp
    have nch : p.1 ∉ ch := fun z => (hch p.1 z).2.2.2 p hp rfl
    exact ⟨keep p.1 p.2 ne nf nch e n, free p.1 p.2 nch e n, ne, nf, d⟩
/-- .. where the frame's own object is kept too -/
theorem Inv.un {t' : Nat} (I : Inv X pins σ H s) (u : Un X.fs [] H H' s.heap h') (hok : HOk X.prog X.w H' h') : Inv X pins σ H' { s with heap := h', toks := t' } := by
  obtain ⟨m, ⟨o, es, ep, ho, r⟩, _⟩ := id I.loc
  obtain ⟨sl, hL⟩ := u.any ho I.free (by simp)
  exact I.step (g' := s.gens) (d' := s.drawn) (ch := []) (fun _ z => nomatch z) (fun b o _ hb _ e n => u.keep b o e n hb (by simp)) (fun b o _ hb _ e n => u.slot b o e n hb (by simp)) (fun b o _ e n => u.free b o e n (by simp)) (fun b o _ e => u.there b o e (by simp)) u.tups u.frzs u.tbls (fun m' hm => by
    obtain ⟨o', es', ep', ho', r'⟩ := hm
    rw [ho] at ho'; cases ho'
    exact ⟨_, es', ep', hL, r'⟩) hok I.bare
/-- behind a call (or a comprehension's block): the slots of this frame may have changed too, the records at ch may have turned -/
theorem Inv.call {g' : Array GenState} {t' : Nat} {d' : Drawn} {ch : List Addr} (I : Inv X pins σ H s) (u : Un (frs X.stack) ch H H' s.heap h') (hok : HOk X.prog X.w H' h') (hg : AllBare g')
    (hch : ∀ b ∈ ch, (b ∈ X.ex ∨ X.s₀.heap.objs.size ≤ b) ∧ b ≠ X.env.locals ∧ (∀ x c, X.env.cells.lookup x = some c → c ≠ b) ∧ ∀ p ∈ X.pn ++ pins, p.1 ≠ b) :
    Inv X pins σ H' { s with heap := h', gens := g', drawn := d', toks := t' } := by
  obtain ⟨m, ⟨o, es, ep, ho, r⟩, _⟩ := id I.loc
  obtain ⟨sl, hL⟩ := u.any ho I.free fun z => (hch _ z).2.1 rfl
  exact I.step (ch := ch) hch (fun b o hL hb hc e n => u.keep b o e n (fun z => (List.mem_cons.mp (I.stkSub b z)).elim hL hb) hc) (fun b o _ _ hc e n => u.any e n hc) (fun b o hc e n => u.free b o e n hc) (fun b o hc e => u.there b o e hc) u.tups u.frzs u.tbls (fun m' hm => by
    obtain ⟨o', es', ep', ho', r'⟩ := hm
    rw [ho] at ho'; cases ho'
    exact ⟨_, es', ep', hL, r'⟩) hok hg
/-- an untracked record of ours (an iterator) has turned -/
theorem Inv.turned {t' : Nat} {it : Addr} (I : Inv X pins σ H s) (k : ∀ b o, b ≠ it → s.heap.get? b = some o → h'.get? b = some o) (hn : H it = none) (hL : it ≠ X.env.locals)
    (h1 : it ∈ X.ex ∨ X.s₀.heap.objs.size ≤ it) (h2 : ∀ x c, X.env.cells.lookup x = some c → c ≠ it) (h3 : ∀ p ∈ X.pn ++ pins, p.1 ≠ it) : Inv X pins σ H { s with heap := h', toks := t' } := by
  have nit : ∀ b u, H b = some u → b ≠ it := fun b u e z => by rw [z, hn] at e; cases e
  refine I.step (g' := s.gens) (d' := s.drawn) (ch := [it]) (fun b hb => ?_) (fun b o _ _ hc e _ => k b o (fun z => hc (by simp [z])) e) (fun b o _ _ hc e _ => ⟨o.slots, k b o (fun z => hc (by simp [z])) e⟩) (fun _ _ _ _ n => n)
    (fun b o hc e => ⟨o, k b o (fun z => hc (by simp [z])) e⟩) (fun _ _ e => e) (fun _ _ _ e => e) (fun b ps e => ⟨#[], by rw [e]; simp⟩) (fun m hm => ?_) (fun b u e => ?_) I.bare
  · have e : b = it := by simpa using hb
    subst e
    exact ⟨h1, hL, h2, h3⟩
  · obtain ⟨o, es, ep, ho, r⟩ := hm
    exact ⟨o, es, ep, k _ o (Ne.symm hL) ho, r⟩
  · refine (I.hok b u e).stay (fun c v hc q => k c v ?_ q) (fun _ q => q) fun _ _ q => q
    rcases hc with z | z
    · rw [z]; exact nit b u e
    · exact nit c _ z
theorem Inv.tok (I : Inv X pins σ H s) (t : Nat) : Inv X pins σ H { s with toks := t } := I.un (h' := s.heap) (t' := t) Un.refl I.hok
/-- all objects kept -/
theorem Inv.kept {t' : Nat} (I : Inv X pins σ H s) (k : ∀ b u, s.heap.get? b = some u → h'.get? b = some u) : Inv X pins σ H { s with heap := h', toks := t' } := I.un (Un.kept k) (I.hok.kept k)
/-- a new object laid and tracked -/
theorem Inv.laid {a : Addr} {o : HO} {t' : Nat} (I : Inv X pins σ H s) (k : ∀ b u, s.heap.get? b = some u → h'.get? b = some u) (hp : s.heap.objs.size ≤ a) (new : ObjOk X.prog X.w (upd H a o) h' a o) :
    Inv X pins σ (upd H a o) { s with heap := h', toks := t' } := I.un (Un.laid k hp (I.hok.fresh hp)) (I.hok.laid k hp new)
/-- an object written -/
theorem Inv.write {x e : Addr} {o : HO} {t' : Nat} (I : Inv X pins σ H s) (mu : Mut (H x)) (he : e = x ∨ H e = some (.own x)) (k : ∀ b u, b ≠ e → s.heap.get? b = some u → h'.get? b = some u) (heo : ∃ u, h'.get? e = some u)
    (new : ObjOk X.prog X.w (upd H x o) h' x o) : Inv X pins σ (upd H x o) { s with heap := h', toks := t' } := I.un (Un.write mu he k heo) (I.hok.write mu he k heo new)
/-- forgetting slots, pins -/
theorem Inv.weak {σ' : List (Option V)} (I : Inv X pins σ H s) (hl : σ'.length = σ.length) (w : ∀ (i : Nat) v, σ'[i]? = some (some v) → σ[i]? = some (some v)) : Inv X pins σ' H s :=
  ⟨I.ok, I.os, I.bare, I.base, let ⟨m, hn, hl'⟩ := I.loc; ⟨m, hn, fun i x v e1 e2 e3 => hl' i x v e1 (w i v e2) e3⟩, I.cell, I.free, I.freeC, I.pin, I.hok, hl.trans I.len⟩
theorem Inv.pins_of {pins' : List (Addr × Obj)} (I : Inv X pins σ H s) (h : ∀ p ∈ pins', s.heap.get? p.1 = some p.2 ∧ H p.1 = none ∧ p.1 ≠ X.env.locals ∧ p.1 ∉ X.fs ∧ ∀ v, p.2.data ≠ .cell v) : Inv X pins' σ H s :=
  ⟨I.ok, I.os, I.bare, I.base, I.loc, I.cell, I.free, I.freeC, fun p hp => (List.mem_append.mp hp).elim (fun z => I.pin p (List.mem_append_left _ z)) (h p), I.hok, I.len⟩
theorem nodup_ix {N : List Str} (hN : N.Nodup) {i j : Nat} {x : Str} (a : N[i]? = some x) (b : N[j]? = some x) : i = j := by
  obtain ⟨h1, e1⟩ := List.getElem?_eq_some_iff.mp a
  obtain ⟨h2, e2⟩ := List.getElem?_eq_some_iff.mp b
  exact (List.getElem_inj hN).mp (e1.trans e2.symm)
/-- a name is stored; what changed -/
theorem store_ok2 {M : Model} {A : Around} {E : Value → Shared → Prop} {i : Nat} {x : Str} {v : V} {u : Value} {Q : Unit → Shared → Prop} (I : Inv X pins σ H s) (hN : X.N.Nodup) (hi : X.N[i]? = some x) (hx : Loc X.env.scope x) (r : RelV v u)
    (h : ∀ s', Inv X pins (σ.set i (some v)) H s' → (∃ a, Heap.SameBut a s.heap s'.heap ∧ (a = X.env.locals ∨ X.env.cells.lookup x = some a)) → Q () s') (hf : X.fn x = true ∨ X.env.scope.names.lookup x = some .local := by first | exact .inl rfl | exact .inr rfl | assumption) : wpAny M A (storeName X.env x u) Q E s := by
  obtain ⟨m, hn, hl⟩ := id I.loc
  have hcls : (X.env.scope.kind == .class || (X.env.scope.kind == .module && X.env.locals != X.env.globals)) = false := by rw [I.ok.kind]; rfl
  have hiσ : i < σ.length := by rw [I.len]; exact (List.getElem?_eq_some_iff.mp hi).1
  have cne := I.cne
  have tracked : ∀ {a : Addr} {h' : Heap}, (∃ o, s.heap.get? a = some o ∧ H a = none) → Heap.SameBut a s.heap h' → HOk X.prog X.w H h' := fun {a h'} ha hs b ob e => by
    obtain ⟨_, _, hfree⟩ := ha
    refine (I.hok b ob e).stay (fun c w' hc q => (hs.2 c ?_).trans q) (fun _ q => q) fun _ _ q => q
    rintro rfl
    rcases hc with rfl | hc
    · rw [hfree] at e; cases e
    · rw [hfree] at hc; cases hc
  rcases hx with hk | hk
  · refine wpAny_storeName_local hk hn (fun h' hn' hs => ?_) hcls
    obtain ⟨oL, _, _, hoL, _⟩ := id hn
    refine h _ ⟨I.ok, I.os, I.bare, ⟨fun b o e n hb hx => ?_, fun b o e n hb hx => ?_, I.base.free, fun b o e hx => ?_, I.base.tups, I.base.frzs, I.base.tbls⟩, ⟨_, hn', fun j y v' e1 e2 e3 => ?_⟩, fun y c e => ?_, I.free, I.freeC, fun p hp => ?_, tracked ⟨oL, hoL, I.free⟩ hs, by simpa using I.len⟩ ⟨_, hs, .inl rfl⟩
    · exact (hs.2 b (Nat.ne_of_lt (Nat.lt_of_lt_of_le (Heap.lt_size e) I.ok.above))).trans (I.base.keep b o e n hb hx)
    · obtain ⟨sl, e1⟩ := I.base.slot b o e n hb hx
      exact ⟨sl, (hs.2 b (Nat.ne_of_lt (Nat.lt_of_lt_of_le (Heap.lt_size e) I.ok.above))).trans e1⟩
    · obtain ⟨o', e1⟩ := I.base.there b o e hx
      exact ⟨o', (hs.2 b (Nat.ne_of_lt (Nat.lt_of_lt_of_le (Heap.lt_size e) I.ok.above))).trans e1⟩
    · by_cases hj : j = i
      · subst hj
        rw [hi] at e1; cases e1
        rw [List.getElem?_set_self hiσ] at e2
        cases e2
        exact ⟨u, r, .inl ⟨hk, by simp⟩⟩
      · rw [List.getElem?_set_ne (Ne.symm hj)] at e2
        obtain ⟨u', r', q⟩ := hl j y v' e1 e2 e3
        refine ⟨u', r', ?_⟩
        rcases q with ⟨k, e⟩ | ⟨k, c, e, z⟩
        · refine .inl ⟨k, ?_⟩
          have : y ≠ x := fun e => hj (nodup_ix hN e1 (e ▸ hi))
          simp [this, e]
        · exact .inr ⟨k, c, e, z.sameBut hs (cne y c e)⟩
    · obtain ⟨w', z⟩ := I.cell y c e
      exact ⟨w', z.sameBut hs (cne y c e)⟩
    · obtain ⟨e, n, ne, nf, d⟩ := I.pin p hp
      exact ⟨(hs.2 p.1 ne).trans e, n, ne, nf, d⟩
  · have hfn : X.fn x = true := by
      rcases hf with z | z
      · exact z
      · rw [z] at hk; cases hk
    obtain ⟨c, hc⟩ := I.ok.has x (.inl hk)
    obtain ⟨w', z⟩ := I.cell x c hc
    refine wpAny_storeName_cell I.ok.kind hk hc z (fun h' hc' hs => ?_)
    obtain ⟨oc, hoc, hocd⟩ := id z
    refine h { s with heap := h' } ⟨I.ok, I.os, I.bare, ⟨fun b o e n hb hx => ?_, fun b o e n hb hx => ?_, I.base.free, fun b o e hx => ?_, I.base.tups, I.base.frzs, I.base.tbls⟩, ⟨m, hn.sameBut hs (Ne.symm (cne x c hc)), fun j y v' e1 e2 e3 => ?_⟩, fun y c' e => ?_, I.free, I.freeC, fun p hp => ?_, tracked ⟨oc, hoc, I.freeC x c hc⟩ hs, by simpa using I.len⟩ ⟨c, hs, .inr hc⟩
    · exact (hs.2 b (Nat.ne_of_lt (Nat.lt_of_lt_of_le (Heap.lt_size e) (I.ok.cab x c hfn hc)))).trans (I.base.keep b o e n hb hx)
    · obtain ⟨sl, e1⟩ := I.base.slot b o e n hb hx
      exact ⟨sl, (hs.2 b (Nat.ne_of_lt (Nat.lt_of_lt_of_le (Heap.lt_size e) (I.ok.cab x c hfn hc)))).trans e1⟩
    · obtain ⟨o', e1⟩ := I.base.there b o e hx
      exact ⟨o', (hs.2 b (Nat.ne_of_lt (Nat.lt_of_lt_of_le (Heap.lt_size e) (I.ok.cab x c hfn hc)))).trans e1⟩
    · by_cases hj : j = i
      · subst hj
        rw [hi] at e1; cases e1
        rw [List.getElem?_set_self hiσ] at e2
        cases e2
        exact ⟨u, r, .inr ⟨.inl hk, c, hc, hc'⟩⟩
      · rw [List.getElem?_set_ne (Ne.symm hj)] at e2
        obtain ⟨u', r', q⟩ := hl j y v' e1 e2 e3
        refine ⟨u', r', ?_⟩
        rcases q with q | ⟨k, c', e, z'⟩
        · exact .inl q
        · refine .inr ⟨k, c', e, z'.sameBut hs ?_⟩
          rintro rfl
          exact hj (nodup_ix hN e1 (I.ok.inj _ _ _ e hc ▸ hi))
    · by_cases hcc : c' = c
      · subst hcc; exact ⟨_, hc'⟩
      · obtain ⟨w2, z2⟩ := I.cell y c' e
        exact ⟨w2, z2.sameBut hs hcc⟩
    · obtain ⟨e, n, ne, nf, d⟩ := I.pin p hp
      refine ⟨(hs.2 p.1 ?_).trans e, n, ne, nf, d⟩
      intro q
      rw [q, hoc] at e
      have q' : oc = p.2 := Option.some.inj e
      exact d w' (by rw [← q']; exact hocd)
theorem store_ok {M : Model} {A : Around} {E : Value → Shared → Prop} {i : Nat} {x : Str} {v : V} {u : Value} {Q : Unit → Shared → Prop} (I : Inv X pins σ H s) (hN : X.N.Nodup) (hi : X.N[i]? = some x) (hx : Loc X.env.scope x) (r : RelV v u)
    (h : ∀ s', Inv X pins (σ.set i (some v)) H s' → Q () s') (hf : X.fn x = true ∨ X.env.scope.names.lookup x = some .local := by first | exact .inl rfl | exact .inr rfl | assumption) : wpAny M A (storeName X.env x u) Q E s :=
  store_ok2 I hN hi hx r (fun s' I' _ => h s' I') hf
/-- behind a call or a block, the state as it is -/
theorem Inv.call' {s' : Shared} {ch : List Addr} (I : Inv X pins σ H s) (ho : s'.os = s.os) (u : Un (frs X.stack) ch H H' s.heap s'.heap) (hok : HOk X.prog X.w H' s'.heap) (hg : AllBare s'.gens)
    (hch : ∀ b ∈ ch, (b ∈ X.ex ∨ X.s₀.heap.objs.size ≤ b) ∧ b ≠ X.env.locals ∧ (∀ x c, X.env.cells.lookup x = some c → c ≠ b) ∧ ∀ p ∈ X.pn ++ pins, p.1 ≠ b) : Inv X pins σ H' s' := by
  obtain ⟨h', g', d', t', o'⟩ := s'
  have e : o' = s.os := ho
  subst e
  exact I.call (g' := g') (t' := t') (d' := d') u hok hg hch
end
/-- an exception: its class, its own dict's address (where it has one), the abstract heap behind it -/
abbrev XK := Value → Option Addr → Hp → Prop
abbrev St := List (Option V)
abbrev VK := V → Hp → Prop
/-- an expression's reading; a test's; an argument list's -/
abbrev TE := St → Hp → VK → Prop
abbrev TT := St → Hp → (Bool → Hp → Prop) → Prop
abbrev TA := St → Hp → (List V → Hp → Prop) → Prop
/-- what is wanted behind a statement -/
structure Ends where
  nx : St → Hp → Prop
  rt : VK
  bk : St → Hp → Prop := fun _ _ => False
  ct : St → Hp → Prop := fun _ _ => False
abbrev TS := Ends → St → Hp → Prop
def EP (X : Cx) (pins : List (Addr × Obj)) (σ : St) (Q : VK) (u : Value) (s' : Shared) : Prop := ∃ v H', Inv X pins σ H' s' ∧ RelV v u ∧ Q v H'
def TP (X : Cx) (pins : List (Addr × Obj)) (σ : St) (Q : Bool → Hp → Prop) (b : Bool) (s' : Shared) : Prop := ∃ H', Inv X pins σ H' s' ∧ Q b H'
def AP (X : Cx) (pins : List (Addr × Obj)) (σ : St) (Q : List V → Hp → Prop) (us : List Value) (s' : Shared) : Prop := ∃ vs H', Inv X pins σ H' s' ∧ Vals vs us ∧ Q vs H'
def SP (X : Cx) (pins : List (Addr × Obj)) (D : Ends) (f : Flow) (s' : Shared) : Prop :=
  match f with
  | .next => ∃ σ' H', Inv X pins σ' H' s' ∧ D.nx σ' H'
  | .brk => ∃ σ' H', Inv X pins σ' H' s' ∧ D.bk σ' H'
  | .cont => ∃ σ' H', Inv X pins σ' H' s' ∧ D.ct σ' H'
  | .ret u => ∃ v σ' H', Inv X pins σ' H' s' ∧ RelV v u ∧ D.rt v H'
def PE (X : Cx) (e : Expr) (t : TE) : Prop :=
  ∀ (pins : List (Addr × Obj)) (s : Shared) (σ : St) (H : Hp) (Q : VK), Inv X pins σ H s → t σ H Q → wpAny (model X.prog X.w) X.A (eval e X.env) (EP X pins σ Q) X.xe s
def PT (X : Cx) (e : Expr) (t : TT) : Prop :=
  ∀ (pins : List (Addr × Obj)) (s : Shared) (σ : St) (H : Hp) (Q : Bool → Hp → Prop), Inv X pins σ H s → t σ H Q → wpAny (model X.prog X.w) X.A (isTrue e X.env (eval e X.env)) (TP X pins σ Q) X.xe s
/-- a test whatever its 'whole' is (and, or) -/
def PW (X : Cx) (e : Expr) (t : TT) : Prop :=
  ∀ (whole : Sem Value) (pins : List (Addr × Obj)) (s : Shared) (σ : St) (H : Hp) (Q : Bool → Hp → Prop), Inv X pins σ H s → t σ H Q → wpAny (model X.prog X.w) X.A (isTrue e X.env whole) (TP X pins σ Q) X.xe s
theorem PW.pt {X : Cx} {e : Expr} {t : TT} (h : PW X e t) : PT X e t := h _
/-- an argument list (no star), from the left -/
def PA (X : Cx) (es : List Expr) (t : TA) : Prop :=
  ∀ (pos : Pos) (pins : List (Addr × Obj)) (s : Shared) (σ : St) (H : Hp) (Q : List V → Hp → Prop), Inv X pins σ H s → t σ H Q → wpAny (model X.prog X.w) X.A (spliced (backTo pos (starEach es X.env))) (AP X pins σ Q) X.xe s
def PS (X : Cx) (st : Stmt) (t : TS) : Prop :=
  ∀ (pins : List (Addr × Obj)) (s : Shared) (σ : St) (H : Hp) (D : Ends), Inv X pins σ H s → t D σ H → wpAny (model X.prog X.w) X.A (exec st X.env) (SP X pins D) X.xe s
def PSs (X : Cx) (st : List Stmt) (t : TS) : Prop :=
  ∀ (pins : List (Addr × Obj)) (s : Shared) (σ : St) (H : Hp) (D : Ends), Inv X pins σ H s → t D σ H → wpAny (model X.prog X.w) X.A (execs st X.env) (SP X pins D) X.xe s
/-- weaken the end -/
theorem thn {α : Type} {t : Sem α} {Q Q' : α → Shared → Prop} {M : Model} {A : Around} {E : Value → Shared → Prop} {s : Shared} (h : wpAny M A t Q E s) (hQ : ∀ a s, Q a s → Q' a s) : wpAny M A t Q' E s := wpAny_mono h hQ fun _ _ x => x
end L2
namespace L2
open PySem PySem.Spec PyProof.Rows
section
variable {X : Cx}
def tVar (i : Nat) : TE := fun σ H Q => ∃ v, σ[i]? = some (some v) ∧ Q v H
def tC (v : V) : TE := fun _ H Q => Q v H
theorem pe_var {i : Nat} {x : Str} {pos : Pos} (hN : X.N[i]? = some x) (hv : Vis X.env.scope x) (hd : (x == ("__debug__" : Str)) = false := by decide) (hcd : (x == ("__classdict__" : Str)) = false := by decide) : PE X (.Name x pos) (tVar i) := by
  intro pins s σ H Q I h
  obtain ⟨v, e, h⟩ := h
  obtain ⟨m, hn, hl⟩ := I.loc
  obtain ⟨u, r, l⟩ := hl i x v hN e hv
  have fin : EP X pins σ Q u s := ⟨v, H, I, r, h⟩
  rcases l with ⟨hk, hm⟩ | ⟨hk, c, hc, hcell⟩
  · exact wpAny_Name (wpAny_loadName_local I.ok.kind hk hn hm fin) hd
  · rcases hk with hk | hk
    · exact wpAny_Name (wpAny_loadName_cell I.ok.kind hk hc hcell fin) hd
    · exact wpAny_Name (wpAny_loadName_free I.ok.kind hk hc hcell fin hcd) hd
theorem pe_int {i j pos} : PE X (.Constant (.int i) j pos) (tC (.int i)) := fun _ _ _ H _ I h => wpAny_Constant_int ⟨.int i, H, I.tok _, ⟨_, rfl⟩, h⟩
theorem pe_bl {b j pos} : PE X (.Constant (.bool b) j pos) (tC (.bl b)) := fun _ _ _ H _ I h => Constant_bool ⟨.bl b, H, I, rfl, h⟩
theorem pe_non {j pos} : PE X (.Constant .none j pos) (tC .non) := fun _ _ _ H _ I h => Constant_none ⟨.non, H, I, rfl, h⟩
theorem pe_str {x j pos} : PE X (.Constant (.str x) j pos) (tC (.str x)) := fun _ _ _ H _ I h => Calls.Constant_str ⟨.str x, H, I.tok _, ⟨_, rfl⟩, h⟩
/-- a global name of the def -/
def Gl (X : Cx) (x : Str) : Prop := X.env.kindOf x = some .globalImplicit
theorem ld_glob {E : Value → Shared → Prop} {pins : List (Addr × Obj)} {s : Shared} {σ : St} {H : Hp} {x : Str} {u : Value} {pos : Pos} {Q : Value → Shared → Prop} (I : Inv X pins σ H s) (hg : Gl X x) (hm : X.mg x = some u) (h : Q u s)
    (hd : (x == ("__debug__" : Str)) = false := by decide) : wpAny (model X.prog X.w) X.A (eval (.Name x pos) X.env) Q E s :=
  Calls.Name_function_global I.ok.kind hg (Calls.loadGlobal_global (by rw [I.ok.glob]; exact I.mod.glob.keeps I.bk) hm h) hd
theorem ld_blt {E : Value → Shared → Prop} {pins : List (Addr × Obj)} {s : Shared} {σ : St} {H : Hp} {x : Str} {u : Value} {pos : Pos} {Q : Value → Shared → Prop} (I : Inv X pins σ H s) (hg : Gl X x) (hm : X.mg x = none) (hv : bootBuiltins x = some u) (h : Q u s)
    (hn : x ≠ "__name__" := by decide) (hd : (x == ("__debug__" : Str)) = false := by decide) : wpAny (model X.prog X.w) X.A (eval (.Name x pos) X.env) Q E s := by
  obtain ⟨mb, h1, h2⟩ := I.mod.blt
  exact Calls.Name_function_global I.ok.kind hg (Calls.loadGlobal_builtin (by rw [I.ok.glob]; exact I.mod.glob.keeps I.bk) hm (by rw [I.ok.blt]; exact h1.keeps I.bk) ((h2 x hn).trans hv) h) hd
/-- a module's constant, a class, a function, as a value -/
theorem pe_glob {x : Str} {v : V} {u : Value} {pos : Pos} (hg : Gl X x) (hm : X.mg x = some u) (r : RelV v u) (hd : (x == ("__debug__" : Str)) = false := by decide) : PE X (.Name x pos) (tC v) :=
  fun _ _ _ H _ I h => ld_glob I hg hm ⟨v, H, I, r, h⟩ hd
theorem pe_bltn {x : Str} {v : V} {u : Value} {pos : Pos} (hg : Gl X x) (hm : X.mg x = none) (hv : bootBuiltins x = some u) (r : RelV v u) (hn : x ≠ "__name__" := by decide) (hd : (x == ("__debug__" : Str)) = false := by decide) : PE X (.Name x pos) (tC v) :=
  fun _ _ _ H _ I h => ld_blt I hg hm hv ⟨v, H, I, r, h⟩ hn hd
variable {a b : Expr} {ta tb : TE} {pos : Pos}
def PC (X : Cx) (op : CmpOp) (a b : Expr) (t : TE) : Prop :=
  ∀ (pins : List (Addr × Obj)) (s : Shared) (σ : St) (H : Hp) (Q : VK), Inv X pins σ H s → t σ H Q →
    wpAny (model X.prog X.w) X.A (eval a X.env) (fun v s₁ => wpAny (model X.prog X.w) X.A (eval b X.env) (fun u s₂ => wpAny (model X.prog X.w) X.A (compareOp op v u) (EP X pins σ Q) X.xe s₂) X.xe s₁) X.xe s
theorem nobehind (b : Expr) {op : CmpOp} (h : op ≠ .In) (h2 : op ≠ .NotIn) : behindInMarks op b = false := by
  have e1 : (op == CmpOp.In) = false := by cases op <;> first | rfl | exact absurd rfl h
  have e2 : (op == CmpOp.NotIn) = false := by cases op <;> first | rfl | exact absurd rfl h2
  cases b <;> simp [behindInMarks, e1, e2]
/-- is None -/
def tIsN (ta : TE) : TE := fun σ H Q => ta σ H fun x H1 => Q (.bl (decide (x = .non))) H1
def tNotN (ta : TE) : TE := fun σ H Q => ta σ H fun x H1 => Q (.bl (!decide (x = .non))) H1
theorem RelV.none_iff {x : V} {v : Value} (r : RelV x v) : (v == Value.none) = decide (x = .non) := by
  cases x with
  | non => cases r; rfl
  | bl _ => cases r; rfl
  | int _ => obtain ⟨t, rfl⟩ := r; rfl
  | str _ => obtain ⟨t, rfl⟩ := r; rfl
  | byt _ => obtain ⟨t, rfl⟩ := r; rfl
  | flt _ => obtain ⟨t, rfl⟩ := r; rfl
  | ref _ => cases r; rfl
  | ty _ => cases r; rfl
theorem pc_isN {j pos'} (ha : PE X a ta) : PC X .Is a (.Constant .none j pos') (tIsN ta) := by
  intro pins s σ H Q I h
  refine thn (ha pins s σ H _ I h) fun v s1 ⟨x, H1, I1, r1, q1⟩ => ?_
  exact Constant_none (is_none_gen ⟨.bl _, H1, I1, by rw [r1.none_iff]; rfl, q1⟩)
theorem pc_notN {j pos'} (ha : PE X a ta) : PC X .IsNot a (.Constant .none j pos') (tNotN ta) := by
  intro pins s σ H Q I h
  refine thn (ha pins s σ H _ I h) fun v s1 ⟨x, H1, I1, r1, q1⟩ => ?_
  exact Constant_none (isnot_none_gen ⟨.bl _, H1, I1, by rw [r1.none_iff]; rfl, q1⟩)
/-- a comparison as a value, as a test -/
def tB (t : TE) : TT := fun σ H Q => t σ H fun x H1 => ∃ c, x = .bl c ∧ Q c H1
theorem pe_cmp {op : CmpOp} {t : TE} (h : PC X op a b t) (h1 : behindInMarks op b = false := by first | exact nobehind _ (by decide) (by decide) | rfl) : PE X (.Compare a [op] [b] pos) t := fun pins s σ H Q I hw => wpAny_Compare1 (h pins s σ H Q I hw) h1
theorem pt_cmp {op : CmpOp} {t : TE} (h : PC X op a b t) (h1 : behindInMarks op b = false := by first | exact nobehind _ (by decide) (by decide) | rfl) : PT X (.Compare a [op] [b] pos) (tB t) := by
  intro pins s σ H Q I hw
  refine wpAny_isTrue_Compare1 (thn (h pins s σ H _ I hw) fun v s1 h1 => thn h1 fun u s2 h2 => thn h2 fun c s3 ⟨x, H1, I1, r1, q1⟩ => ?_) h1
  obtain ⟨d, rfl, q⟩ := q1
  cases r1
  exact wpAny_truthy_bool ⟨H1, I1, q⟩
/-- an expression whose value is a bool, as a test -/
theorem pt_val {e : Expr} {t : TE} (h : PE X e t) (he : ∀ whole, isTrue e X.env whole = (do let v ← whole; standAt e.pos; holding [v] (truthy v)) := by intro _; rfl) : PT X e (tB t) := by
  intro pins s σ H Q I hw
  refine isTrue_plain (thn (h pins s σ H _ I hw) fun v s1 ⟨x, H1, I1, r1, q1⟩ => ?_) (he _)
  obtain ⟨d, rfl, q⟩ := q1
  cases r1
  exact wpAny_truthy_bool ⟨H1, I1, q⟩
variable {tA tB' : TT} {rest : List Expr}
def tAnd (t u : TT) : TT := fun σ H Q => t σ H fun c H1 => if c = true then u σ H1 Q else Q false H1
def tOr (t u : TT) : TT := fun σ H Q => t σ H fun c H1 => if c = true then Q true H1 else u σ H1 Q
def tNot (t : TT) : TT := fun σ H Q => t σ H fun c H1 => Q (!c) H1
theorem pw_and1 (ha : PT X a tA) : PW X (.BoolOp .And [a] pos) tA := by
  intro wh pins s σ H Q I h
  refine isTrue_and (thn (ha pins s σ H Q I h) fun c s1 e => ?_)
  cases c with
  | true => exact isTrue_and_nil e
  | false => exact e
theorem pw_or1 (ha : PT X a tA) : PW X (.BoolOp .Or [a] pos) tA := by
  intro wh pins s σ H Q I h
  refine isTrue_or (thn (ha pins s σ H Q I h) fun c s1 e => ?_)
  cases c with
  | false => exact isTrue_or_nil e
  | true => exact e
theorem pw_and (ha : PT X a tA) (hb : PW X (.BoolOp .And (b :: rest) pos) tB') : PW X (.BoolOp .And (a :: b :: rest) pos) (tAnd tA tB') := by
  intro wh pins s σ H Q I h
  refine isTrue_and (thn (ha pins s σ H _ I h) fun c s1 ⟨H1, I1, q1⟩ => ?_)
  cases c with
  | true => exact hb wh pins s1 σ H1 Q I1 q1
  | false => exact ⟨H1, I1, q1⟩
theorem pw_or (ha : PT X a tA) (hb : PW X (.BoolOp .Or (b :: rest) pos) tB') : PW X (.BoolOp .Or (a :: b :: rest) pos) (tOr tA tB') := by
  intro wh pins s σ H Q I h
  refine isTrue_or (thn (ha pins s σ H _ I h) fun c s1 ⟨H1, I1, q1⟩ => ?_)
  cases c with
  | true => exact ⟨H1, I1, q1⟩
  | false => exact hb wh pins s1 σ H1 Q I1 q1
theorem pt_not (ha : PT X a tA) : PT X (.UnaryOp .Not a pos) (tNot tA) := by
  intro pins s σ H Q I h
  exact isTrue_not (ha pins s σ H (fun c H1 => Q (!c) H1) I h)
/-- .. as values (bools) -/
def tAndV (ta tb : TE) : TE := fun σ H Q => ta σ H fun x H1 => ∃ c, x = .bl c ∧ if c = true then tb σ H1 Q else Q (.bl false) H1
def tOrV (ta tb : TE) : TE := fun σ H Q => ta σ H fun x H1 => ∃ c, x = .bl c ∧ if c = true then Q (.bl true) H1 else tb σ H1 Q
def tNotV (ta : TE) : TE := fun σ H Q => ta σ H fun x H1 => ∃ c, x = .bl c ∧ Q (.bl (!c)) H1
theorem pe_one {op} {t : TE} (h : PE X a t) : PE X (.BoolOp op [a] pos) t := fun pins s σ H Q I hw => BoolOp_one (h pins s σ H Q I hw)
theorem pe_and (ha : PE X a ta) (hb : PE X (.BoolOp .And (b :: rest) pos) tb) : PE X (.BoolOp .And (a :: b :: rest) pos) (tAndV ta tb) := by
  intro pins s σ H Q I h
  refine BoolOp_and (thn (ha pins s σ H _ I h) fun v s1 ⟨x, H1, I1, r1, q1⟩ => ?_)
  obtain ⟨c, rfl, q1⟩ := q1
  cases r1
  refine wpAny_truthy_bool ?_
  cases c with
  | true => exact hb pins s1 σ H1 Q I1 q1
  | false => exact ⟨.bl false, H1, I1, rfl, q1⟩
theorem pe_or (ha : PE X a ta) (hb : PE X (.BoolOp .Or (b :: rest) pos) tb) : PE X (.BoolOp .Or (a :: b :: rest) pos) (tOrV ta tb) := by
  intro pins s σ H Q I h
  refine BoolOp_or (thn (ha pins s σ H _ I h) fun v s1 ⟨x, H1, I1, r1, q1⟩ => ?_)
  obtain ⟨c, rfl, q1⟩ := q1
  cases r1
  refine wpAny_truthy_bool ?_
  cases c with
  | false => exact hb pins s1 σ H1 Q I1 q1
  | true => exact ⟨.bl true, H1, I1, rfl, q1⟩
theorem pe_not (ha : PE X a ta) : PE X (.UnaryOp .Not a pos) (tNotV ta) := by
  intro pins s σ H Q I h
  refine UnaryOp_ (thn (ha pins s σ H _ I h) fun v s1 ⟨x, H1, I1, r1, q1⟩ => ?_)
  obtain ⟨c, rfl, q1⟩ := q1
  cases r1
  exact not_of (wpAny_truthy_bool ⟨.bl (!c), H1, I1, rfl, q1⟩)
/-- a if t else b -/
def tIf (t : TT) (ta tb : TE) : TE := fun σ H Q => t σ H fun c H1 => if c = true then ta σ H1 Q else tb σ H1 Q
end
end L2
namespace L2
open PySem PySem.Spec PyProof.Rows
def SqL (K : PySem.W.Frag) (H : Hp) (a : Addr) (xs : List V) : Prop :=
  Rd H a (.lst xs) ∨
    ∃ (o : Obj) (its : Array Value) (n : Nat), K.lookup a = some o ∧ o.cls = .type "list" ∧ o.dict = none ∧ o.data = .seq its n ∧ its.size ≤ sizeLine ∧ Vals xs its.toList
def SqT (K : PySem.W.Frag) (H : Hp) (a : Addr) (xs : List V) : Prop :=
  Rd H a (.tup xs) ∨
    ∃ (o : Obj) (its : Array Value) (n : Nat), K.lookup a = some o ∧ o.cls = .type "tuple" ∧ o.data = .seq its n ∧ its.size ≤ sizeLine ∧ Vals xs its.toList
def absV : Value → Option V
  | .none => some .non
  | .bool b => some (.bl b)
  | .int i _ => some (.int i)
  | .str x _ => some (.str x)
  | .bytes b _ => some (.byt b)
  | .float b _ => some (.flt b)
  | .ref a => some (.ref a)
  | .type n => some (.ty n)
  | _ => none
theorem RelV.abs {x : V} {u : Value} (r : RelV x u) : absV u = some x := by
  cases x with
  | non => cases r; rfl
  | bl _ => cases r; rfl
  | int _ => obtain ⟨t, rfl⟩ := r; rfl
  | str _ => obtain ⟨t, rfl⟩ := r; rfl
  | byt _ => obtain ⟨t, rfl⟩ := r; rfl
  | flt _ => obtain ⟨t, rfl⟩ := r; rfl
  | ref _ => cases r; rfl
  | ty _ => cases r; rfl
theorem RelV.inj {x y : V} {u : Value} (r : RelV x u) (q : RelV y u) : x = y := Option.some.inj (r.abs.symm.trans q.abs)
theorem Vals.inj : ∀ {xs ys : List V} {us : List Value}, Vals xs us → Vals ys us → xs = ys
  | _, _, _, .nil, .nil => rfl
  | _, _, _, .cons r t, .cons r' t' => by rw [r.inj r', Vals.inj t t']
section
variable {X : Cx} {pins : List (Addr × Obj)} {σ : St} {H : Hp} {s : Shared} {a : Addr} {xs ys : List V}
theorem SqL.of {K : PySem.W.Frag} (h : H a = some (.lst xs)) : SqL K H a xs := .inl (.inl h)
theorem SqT.of {K : PySem.W.Frag} (h : H a = some (.tup xs)) : SqT K H a xs := .inl (.inl h)
theorem Inv.list (I : Inv X pins σ H s) (h : SqL X.K H a xs) : ∃ its : List Value, Vals xs its ∧ PlainL s.heap a its.toArray ∧ xs.length ≤ sizeLine := by
  rcases h with h | ⟨o, its, n, hk, hc, hd, hs, hz, r⟩
  · obtain ⟨z, its, n, r, e⟩ := h.ok I.hok
    exact ⟨its, r, ⟨_, n, e, rfl, rfl, rfl⟩, z⟩
  · refine ⟨its.toList, r, ⟨o, n, I.kIn a o hk, hc, hd, by simpa using hs⟩, ?_⟩
    have e := r.length
    simp only [Array.length_toList] at e
    omega
theorem Inv.tuple (I : Inv X pins σ H s) (h : SqT X.K H a xs) : ∃ its : List Value, Vals xs its ∧ IsTup s.heap a its.toArray ∧ xs.length ≤ sizeLine := by
  rcases h with h | ⟨o, its, n, hk, hc, hs, hz, r⟩
  · obtain ⟨z, its, r, p⟩ := h.ok I.hok
    exact ⟨its, r, p, z⟩
  · refine ⟨its.toList, r, ⟨o, I.kIn a o hk, hc, n, by simpa using hs⟩, ?_⟩
    have e := r.length
    simp only [Array.length_toList] at e
    omega
theorem Inv.list_inj (I : Inv X pins σ H s) (h : SqL X.K H a xs) (h' : SqL X.K H a ys) : xs = ys := by
  obtain ⟨its, r, ⟨o, n, e, _, _, d⟩, _⟩ := I.list h
  obtain ⟨its', r', ⟨o', n', e', _, _, d'⟩, _⟩ := I.list h'
  rw [e] at e'; cases e'
  rw [d] at d'
  injection d' with d1 _
  have : its = its' := by simpa using congrArg Array.toList d1
  subst this
  exact r.inj r'
end
abbrev Cx.wish (X : Cx) (E : Value → Shared → Prop) : Cx := { X with xe := E }
/-- no exception leaves -/
abbrev Cx.nox (X : Cx) : Cx := X.wish fun _ _ => False
theorem Cx.Ok.wish {X : Cx} (ok : X.Ok) (E : Value → Shared → Prop) : (X.wish E).Ok :=
  ⟨ok.mod, ok.kind, ok.glob, ok.blt, ok.above, ok.inj, ok.has, ok.cab, ok.hd, ok.frames, ok.stk, ok.exf, ok.bs, ok.bsz, ok.noex, ok.exfs, ok.funs, ok.frf⟩
theorem Cx.Ok.unwish {X : Cx} {E : Value → Shared → Prop} (ok : (X.wish E).Ok) : X.Ok :=
  ⟨ok.mod, ok.kind, ok.glob, ok.blt, ok.above, ok.inj, ok.has, ok.cab, ok.hd, ok.frames, ok.stk, ok.exf, ok.bs, ok.bsz, ok.noex, ok.exfs, ok.funs, ok.frf⟩
section
variable {X : Cx} {pins : List (Addr × Obj)} {σ : St} {H : Hp} {s : Shared} {E : Value → Shared → Prop}
theorem Inv.wish (I : Inv X pins σ H s) (E : Value → Shared → Prop) : Inv (X.wish E) pins σ H s := ⟨I.ok.wish E, I.os, I.bare, I.base, I.loc, I.cell, I.free, I.freeC, I.pin, I.hok, I.len⟩
theorem Inv.unwish (I : Inv (X.wish E) pins σ H s) : Inv X pins σ H s := ⟨I.ok.unwish, I.os, I.bare, I.base, I.loc, I.cell, I.free, I.freeC, I.pin, I.hok, I.len⟩
theorem SP.unwish {D : Ends} {f : Flow} {s' : Shared} (h : SP (X.wish E) pins D f s') : SP X pins D f s' := by
  cases f with
  | next => obtain ⟨σ', H', I, q⟩ := h; exact ⟨σ', H', I.unwish, q⟩
  | brk => obtain ⟨σ', H', I, q⟩ := h; exact ⟨σ', H', I.unwish, q⟩
  | cont => obtain ⟨σ', H', I, q⟩ := h; exact ⟨σ', H', I.unwish, q⟩
  | ret u => obtain ⟨v, σ', H', I, r, q⟩ := h; exact ⟨v, σ', H', I.unwish, r, q⟩
theorem PSs.nox {st : List Stmt} {t : TS} (h : PSs X.nox st t) : PSs X st t := fun pins s σ H D I hw =>
  wpAny_mono (h pins s σ H D (I.wish _) hw) (fun _ _ q => q.unwish) fun _ _ z => False.elim z
end
section
variable {X : Cx} {st : Stmt} {rest : List Stmt} {t u : TS} {e : Expr} {te : TE} {pos : Pos}
def tNext : TS := fun D σ H => D.nx σ H
def tSeq (t u : TS) : TS := fun D σ H => t { D with nx := u D } σ H
theorem pss_nil : PSs X [] tNext := fun _ _ σ H _ I h => wpAny_execs_nil ⟨σ, H, I, h⟩
theorem pss_cons (h1 : PS X st t) (h2 : PSs X rest u) : PSs X (st :: rest) (tSeq t u) := by
  intro pins s σ H D I h
  refine wpAny_execs_cons (thn (h1 pins s σ H { D with nx := u D } I h) fun f s1 q => ?_)
  cases f with
  | next =>
    obtain ⟨σ', H', I', q⟩ := q
    exact h2 pins s1 σ' H' D I' q
  | ret v => exact q
  | brk => exact q
  | cont => exact q
theorem pss_one (h1 : PS X st t) : PSs X [st] t := by
  intro pins s σ H D I h
  refine wpAny_execs_cons (thn (h1 pins s σ H D I h) fun f s1 q => ?_)
  cases f with
  | next => exact wpAny_execs_nil q
  | ret v => exact q
  | brk => exact q
  | cont => exact q
/-- in a def's body nothing is shown -/
theorem Inv.quiet {pins : List (Addr × Obj)} {σ : St} {H : Hp} {s : Shared} (I : Inv X pins σ H s) : interactive X.env = false := by simp [interactive, I.ok.kind]
/-- an expression whose value is dropped -/
def tDrop (te : TE) : TS := fun D σ H => te σ H fun _ H1 => D.nx σ H1
theorem ps_expr (he : PE X e te) (hs : swapsWith e none pos.line X.env = pure false := by rfl) : PS X (.Expr e pos) (tDrop te) := by
  intro pins s σ H D I h
  exact wpAny_Expr_any (thn (he pins s σ H _ I h) fun v s1 ⟨x, H1, I1, r1, q1⟩ => ⟨σ, H1, I1, q1⟩) I.quiet hs
def tRet (te : TE) : TS := fun D σ H => te σ H D.rt
theorem ps_ret (he : PE X e te) : PS X (.Return (some e) pos) (tRet te) := by
  intro pins s σ H D I h
  exact wpAny_Return_some (thn (he pins s σ H _ I h) fun v s1 ⟨x, H1, I1, r1, q1⟩ => ⟨x, σ, H1, I1, r1, q1⟩)
def tRetN : TS := fun D _ H => D.rt .non H
def tIfS (c : TT) (t u : TS) : TS := fun D σ H => c σ H fun b H1 => if b = true then t D σ H1 else u D σ H1
theorem ps_if {c : Expr} {a b : List Stmt} {tc : TT} (hc : PT X c tc) (ha : PSs X a t) (hb : PSs X b u) : PS X (.If c a b pos) (tIfS tc t u) := by
  intro pins s σ H D I h
  refine wpAny_If (thn (hc pins s σ H _ I h) fun d s1 ⟨H1, I1, q1⟩ => ?_)
  cases d with
  | true => exact ha pins s1 σ H1 D I1 q1
  | false => exact hb pins s1 σ H1 D I1 q1
/-- code that the proof never comes to -/
def tNever : TS := fun _ _ _ => False
theorem pss_never {sts : List Stmt} : PSs X sts tNever := fun _ _ _ _ _ _ h => h.elim
end
abbrev TG := V → St → Hp → (St → Hp → Prop) → Prop
abbrev TGs := List V → St → Hp → (St → Hp → Prop) → Prop
def PG (X : Cx) (target : Expr) (t : TG) : Prop :=
  ∀ (pins : List (Addr × Obj)) (s : Shared) (σ : St) (H : Hp) (v : V) (u : Value) (Q : St → Hp → Prop), Inv X pins σ H s → RelV v u → t v σ H Q →
    wpAny (model X.prog X.w) X.A (assign target X.env u) (fun _ s' => ∃ σ' H', Inv X pins σ' H' s' ∧ Q σ' H') X.xe s
/-- several targets, one after another -/
def PGs (X : Cx) (ts : List Expr) (t : TGs) : Prop :=
  ∀ (pins : List (Addr × Obj)) (s : Shared) (σ : St) (H : Hp) (vs : List V) (us : List Value) (Q : St → Hp → Prop), Inv X pins σ H s → Vals vs us → t vs σ H Q →
    wpAny (model X.prog X.w) X.A (assignInOrder ((assignEach ts X.env).map (·.2)) us) (fun _ s' => ∃ σ' H', Inv X pins σ' H' s' ∧ Q σ' H') X.xe s
/-- o[i] = v, by values -/
abbrev TSet := V → V → V → Hp → (Hp → Prop) → Prop
def PSet (X : Cx) (t : TSet) : Prop :=
  ∀ (pins : List (Addr × Obj)) (s : Shared) (σ : St) (H : Hp) (o i v : V) (ov iv u : Value) (Q : Hp → Prop), Inv X pins σ H s → RelV o ov → RelV i iv → RelV v u → t o i v H Q →
    wpAny (model X.prog X.w) X.A (setItem ov iv u) (fun _ s' => ∃ H', Inv X pins σ H' s' ∧ Q H') X.xe s
/-- a op= b, by values -/
abbrev TIp := V → V → Hp → VK → Prop
def PIp (X : Cx) (op : Operator) (t : TIp) : Prop :=
  ∀ (pins : List (Addr × Obj)) (s : Shared) (σ : St) (H : Hp) (x y : V) (v u : Value) (Q : VK), Inv X pins σ H s → RelV x v → RelV y u → t x y H Q →
    wpAny (model X.prog X.w) X.A (inplaceOp op v u) (EP X pins σ Q) X.xe s
section
variable {X : Cx} {pos : Pos}
def gName (i : Nat) : TG := fun v σ H Q => Q (σ.set i (some v)) H
theorem pg_name {i : Nat} {x : Str} (hN : X.N.Nodup) (hi : X.N[i]? = some x) (hx : Loc X.env.scope x) (hf : X.fn x = true ∨ X.env.scope.names.lookup x = some .local := by first | exact .inl rfl | exact .inr rfl | assumption) : PG X (.Name x pos) (gName i) := by
  intro pins s σ H v u Q I r h
  exact wpAny_assign_Name (store_ok I hN hi hx r (fun s' I' => ⟨_, H, I', h⟩) hf)
def gNil : TGs := fun vs σ H Q => vs = [] ∧ Q σ H
def gCons (t : TG) (u : TGs) : TGs := fun vs σ H Q => ∃ v r, vs = v :: r ∧ t v σ H fun σ' H' => u r σ' H' Q
/-- (a, b, ..) = a tuple of that length -/
def gTup (K : PySem.W.Frag) (n : Nat) (t : TGs) : TG := fun v σ H Q => ∃ a xs, v = .ref a ∧ SqT K H a xs ∧ xs.length = n ∧ t xs σ H Q
/-- o[i] = .. -/
def gSub (to ti : TE) (t : TSet) : TG := fun v σ H Q => to σ H fun o H1 => ti σ H1 fun i H2 => t o i v H2 fun H3 => Q σ H3
theorem pg_sub {o i : Expr} {to ti : TE} {t : TSet} (ho : PE X o to) (hi : PE X i ti) (hs : PSet X t)
    (ha : ∀ v, assign (.Subscript o i pos) X.env v = (do
      let ov ← holding [v] (eval o X.env)
      let iv ← holding [v, ov] (eval i X.env)
      standAt pos
      holding [v, ov, iv] (setItem ov iv v)
      release [v, ov, iv] []) := by intro _; rfl) : PG X (.Subscript o i pos) (gSub to ti t) := by
  intro pins s σ H v u Q I r h
  rw [ha]
  refine wpAny_bind (wpAny_holding (thn (ho pins s σ H _ I h) fun ov s1 ⟨x, H1, I1, r1, q1⟩ => ?_))
  refine wpAny_bind (wpAny_holding (thn (hi pins s1 σ H1 _ I1 q1) fun iv s2 ⟨y, H2, I2, r2, q2⟩ => ?_))
  refine wpAny_bind (wpAny_standAt (wpAny_bind (wpAny_holding (thn (hs pins s2 σ H2 x y v ov iv u _ I2 r1 r2 r q2) fun _ s3 ⟨H3, I3, q3⟩ => ?_))))
  exact wpAny_release ⟨σ, H3, I3, q3⟩
/-- target = value -/
def tAsg (te : TE) (g : TG) : TS := fun D σ H => te σ H fun x H1 => g x σ H1 D.nx
theorem ps_asg {tg e : Expr} {te : TE} {g : TG} (he : PE X e te) (hg : PG X tg g) (hs : swapsWithSole [tg] e pos.line X.env = pure false := by rfl) (hw : swappedStores [tg] e X.env = pure none := by rfl)
    (h1 : (assignEach [tg] X.env).map (·.2) = [assign tg X.env] := by rfl) : PS X (.Assign [tg] e pos) (tAsg te g) := by
  intro pins s σ H D I h
  refine wpAny_Assign_stores (thn (he pins s σ H _ I h) fun v s1 ⟨x, H1, I1, r1, q1⟩ => ?_) hs hw
  rw [h1]
  exact thn (hg pins s1 σ H1 x v _ I1 r1 q1) fun _ s2 q => q
/-- name = value -/
theorem ps_set {i : Nat} {x : Str} {e : Expr} {te : TE} {pos' : Pos} (hN : X.N.Nodup) (hi : X.N[i]? = some x) (hx : Loc X.env.scope x) (he : PE X e te) (hs : swapsWith e (some (.Name x pos')) pos.line X.env = pure false := by rfl) (hf : X.fn x = true ∨ X.env.scope.names.lookup x = some .local := by first | exact .inl rfl | exact .inr rfl | assumption) :
    PS X (.Assign [.Name x pos'] e pos) (tAsg te (gName i)) := by
  intro pins s σ H D I h
  refine wpAny_Assign_Name (thn (he pins s σ H _ I h) fun v s1 ⟨y, H1, I1, r1, q1⟩ => ?_) hs
  exact store_ok I1 hN hi hx r1 (fun s2 I2 => ⟨_, H1, I2, q1⟩) hf
/-- name op= e -/
def tAug (i : Nat) (te : TE) (ti : TIp) : TS := fun D σ H => ∃ x, σ[i]? = some (some x) ∧ te σ H fun y H1 => ti x y H1 fun z H2 => D.nx (σ.set i (some z)) H2
theorem ps_aug {i : Nat} {x : Str} {e : Expr} {te : TE} {op : Operator} {ti : TIp} {pos' : Pos} (hN : X.N.Nodup) (hi : X.N[i]? = some x) (hx : Loc X.env.scope x) (he : PE X e te) (ho : PIp X op ti) (hf : X.fn x = true ∨ X.env.scope.names.lookup x = some .local := by first | exact .inl rfl | exact .inr rfl | assumption) :
    PS X (.AugAssign (.Name x pos') op e pos) (tAug i te ti) := by
  intro pins s σ H D I h
  obtain ⟨v, e1, h⟩ := h
  obtain ⟨m, hn, hl⟩ := I.loc
  have vis : Vis X.env.scope x := by rcases hx with k | k; exact .inl k; exact .inr (.inl k)
  obtain ⟨u, r, l⟩ := hl i x v hi e1 vis
  refine wpAny_AugAssign_Name ?_
  have go : wpAny (model X.prog X.w) X.A (eval e X.env) (fun w s₂ => wpAny (model X.prog X.w) X.A (inplaceOp op u w) (fun r s₃ => wpAny (model X.prog X.w) X.A (storeName X.env x r) (fun _ => SP X pins D .next) X.xe s₃) X.xe s₂) X.xe s := by
    refine thn (he pins s σ H _ I h) fun w s1 ⟨y, H1, I1, r1, q1⟩ => ?_
    refine thn (ho pins s1 σ H1 v y u w _ I1 r r1 q1) fun z s2 ⟨zv, H2, I2, r2, q2⟩ => ?_
    exact store_ok I2 hN hi hx r2 (fun s3 I3 => ⟨_, H2, I3, q2⟩) hf
  rcases l with ⟨hk, hm⟩ | ⟨hk, c, hc, hcell⟩
  · exact wpAny_loadName_local I.ok.kind hk hn hm go
  · rcases hk with hk | hk
    · exact wpAny_loadName_cell I.ok.kind hk hc hcell go
    · rcases hx with k | k
      · have : X.env.scope.names.lookup x = some .free := hk
        rw [k] at this; cases this
      · have : X.env.scope.names.lookup x = some .free := hk
        rw [k] at this; cases this
/-- ints -/
def ipI (f : Int → Int → Int) : TIp := fun x y H Q => ∃ i j, x = .int i ∧ y = .int j ∧ Q (.int (f i j)) H
theorem ip_add : PIp X .Add (ipI fun i j => i + j) := by
  intro pins s σ H x y v u Q I r1 r2 h
  obtain ⟨i, j, e1, e2, q⟩ := h
  subst e1; subst e2
  obtain ⟨t, rfl⟩ := r1
  obtain ⟨t', rfl⟩ := r2
  exact iadd_int ⟨.int _, H, I.tok _, ⟨_, rfl⟩, q⟩
end
section
variable {X : Cx} {pos : Pos}
/-- the invariant W with its measure -/
def tWhile (c : TT) (tb : TS) : TS := fun D σ H => ∃ W : Nat → St → Hp → Prop, (∃ m, W m σ H) ∧ ∀ m σ H, W m σ H →
  c σ H fun b H1 => if b = true then ∃ N : St → Hp → Prop, (∀ σ' H', N σ' H' → ∃ m', m' < m ∧ W m' σ' H') ∧ tb { D with nx := N, ct := N, bk := D.nx } σ H1 else D.nx σ H1
theorem ps_while {c : Expr} {body : List Stmt} {tc : TT} {tb : TS} (hp : PassesOwn (model X.prog X.w) X.A X.env X.xe) (hc : PT X c tc) (hb : PSs X body tb) : PS X (.While c body [] pos) (tWhile tc tb) := by
  intro pins s σ H D I h
  obtain ⟨W, ⟨m0, w0⟩, turn⟩ := h
  refine wpAny_While (codeAny_whileLoop (fun n s' => ∃ σ' H', Inv X pins σ' H' s' ∧ W n σ' H') ?_ m0 ⟨σ, H, I, w0⟩)
  rintro n s1 ⟨σ1, H1, I1, w1⟩
  refine wpAny_passesOwn hp (thn (hc pins s1 σ1 H1 _ I1 (turn n σ1 H1 w1)) fun b s2 ⟨H2, I2, q2⟩ => ?_)
  cases b with
  | true =>
    obtain ⟨N, hN, q2⟩ := q2
    rw [if_pos rfl]
    refine wpAny_passesOwn hp (thn (hb pins s2 σ1 H2 _ I2 q2) fun f s3 q3 => ?_)
    cases f with
    | next =>
      obtain ⟨σ3, H3, I3, n3⟩ := q3
      obtain ⟨m', hm, w3⟩ := hN σ3 H3 n3
      exact ⟨m', hm, σ3, H3, I3, w3⟩
    | cont =>
      obtain ⟨σ3, H3, I3, n3⟩ := q3
      obtain ⟨m', hm, w3⟩ := hN σ3 H3 n3
      exact ⟨m', hm, σ3, H3, I3, w3⟩
    | brk => exact q3
    | ret v => exact q3
  | false =>
    rw [if_neg Bool.false_ne_true]
    exact wpAny_execs_nil ⟨σ1, H2, I2, q2⟩
end
/-- at turn i: it yields x (the heap may grow), or it stops -/
structure It where
  go : Nat → Hp → Prop
  yld : Nat → Hp → V → Hp → Prop
  stop : Nat → Hp → Prop
/-- the iterator's own objects may turn: they are not the frame's, not pinned, younger than the entry (or a comprehension's own) -/
def FpOk (X : Cx) (pins : List (Addr × Obj)) (H : Hp) (b : Addr) : Prop :=
  H b = none ∧ b ≠ X.env.locals ∧ b ∉ X.fs ∧ (b ∈ X.ex ∨ X.s₀.heap.objs.size ≤ b) ∧ (∀ x c, X.env.cells.lookup x = some c → c ≠ b) ∧ ∀ p ∈ X.pn ++ pins, p.1 ≠ b
theorem Inv.fpOk {X : Cx} {pins : List (Addr × Obj)} {σ : St} {H H' : Hp} {s : Shared} {b : Addr} (I : Inv X pins σ H s) (hb : s.heap.objs.size ≤ b) (hn : H' b = none) : FpOk X pins H' b := by
  refine ⟨hn, Nat.ne_of_gt (Nat.lt_of_lt_of_le I.lt hb), I.nofs hb, .inr (Nat.le_trans I.sz hb), fun x c e z => ?_, fun p hp z => ?_⟩
  · obtain ⟨v, q⟩ := I.cell x c e
    exact absurd (Nat.lt_of_lt_of_le q.lt (by rw [z]; exact hb)) (Nat.lt_irrefl _)
  · exact absurd (Nat.lt_of_lt_of_le (Heap.lt_size (I.pin p hp).1) (by rw [z]; exact hb)) (Nat.lt_irrefl _)
structure Turn (P : Program) (w : World) (K : PySem.W.Frag) (tg : Expr) (J : It) (fp : List Addr) (it : Addr) (tn : Nat → Heap → Prop) : Prop where
  mem : it ∈ fp
  obj : ∀ i h, tn i h → ∀ b ∈ fp, ∃ o, h.get? b = some o ∧ ∀ v, o.data ≠ .cell v
  keep : ∀ i h h', tn i h → (∀ b ∈ fp, ∀ o, h.get? b = some o → h'.get? b = some o) → tn i h'
  item : ∀ (X : Cx), X.prog = P → X.w = w → X.K = K → X.calm = true → ∀ (i : Nat) (pins : List (Addr × Obj)) (s : Shared) (σ : St) (H : Hp) (E : Value → Shared → Prop), Inv X pins σ H s → (∀ b ∈ fp, FpOk X pins H b) → tn i s.heap → J.go i H →
    wpAny (model P w) X.A (pyNext (.ref it)) (fun r s1 => ∃ u, r = some u ∧
      wpAny (model P w) X.A (letOwnedTupleGo tg (.ref it) u) (fun _ s2 => ∃ x H', Inv X pins σ H' s2 ∧ RelV x u ∧ J.yld i H x H' ∧ tn (i + 1) s2.heap ∧ ∀ b ∈ fp, H' b = none) E s1) E s
  done : ∀ (X : Cx), X.prog = P → X.w = w → X.K = K → X.calm = true → ∀ (i : Nat) (pins : List (Addr × Obj)) (s : Shared) (σ : St) (H : Hp) (E : Value → Shared → Prop), Inv X pins σ H s → (∀ b ∈ fp, FpOk X pins H b) → tn i s.heap → J.stop i H →
    wpAny (model P w) X.A (pyNext (.ref it)) (fun r s1 => r = none ∧ Inv X pins σ H s1) E s
  self : ∀ (A : Around) (i : Nat) (s : Shared) (Q : Value → Shared → Prop) (E : Value → Shared → Prop), tn i s.heap → Q (.ref it) s → wpAny (model P w) A (pyIter (.ref it)) Q E s
abbrev TI := St → Hp → (It → Hp → Prop) → Prop
/-- an iterator has come -/
def PIE (X : Cx) (pins : List (Addr × Obj)) (σ : St) (tg : Expr) (R : It → Hp → Prop) (itv : Value) (s2 : Shared) : Prop :=
  ∃ (it : Addr) (fp : List Addr) (tn : Nat → Heap → Prop) (J : It) (H' : Hp), itv = .ref it ∧ Inv X pins σ H' s2 ∧ Turn X.prog X.w X.K tg J fp it tn ∧ tn 0 s2.heap ∧ (∀ b ∈ fp, FpOk X pins H' b) ∧ R J H'
def PI (X : Cx) (tg iter : Expr) (wi : TI) : Prop :=
  ∀ (pins : List (Addr × Obj)) (s : Shared) (σ : St) (H : Hp) (R : It → Hp → Prop), Inv X pins σ H s → wi σ H R →
    wpAny (model X.prog X.w) X.A (eval iter X.env) (fun v s1 => wpAny (model X.prog X.w) X.A (pyIter v) (PIE X pins σ tg R) X.xe s1) X.xe s
/-- the step ahead of the store is nothing for an iterator that keeps no tuple -/
theorem go_of {M : Model} {A : Around} {E : Value → Shared → Prop} {s : Shared} {tg : Expr} {it : Addr} {u : Value} {o : Obj} {n : String} {vs : Array Value} {Q : Unit → Shared → Prop} (ho : s.heap.get? it = some o) (hc : o.cls = .type n) (hd : o.data = .fields vs)
    (hn : ["enumerate", "zip", "dict_itemiterator", "dict_reverseitemiterator", "odict_iterator", "itertools.zip_longest", "itertools.pairwise"].contains n = false) (hQ : Q () s) : wpAny M A (letOwnedTupleGo tg (.ref it) u) Q E s := by
  unfold letOwnedTupleGo
  cases tg <;> first
    | exact wpAny_pure hQ
    | (cases u <;> first
        | exact wpAny_pure hQ
        | (refine wpAny_bind (wpAny_load ho ?_)
           rw [hc, hd]
           show wpAny M A (if (["enumerate", "zip", "dict_itemiterator", "dict_reverseitemiterator", "odict_iterator", "itertools.zip_longest", "itertools.pairwise"].contains n && vs[0]? == some (rawInt _)) = true then _ else _) Q E s
           rw [if_neg (by intro h; rw [hn, Bool.false_and] at h; cases h)]
           exact wpAny_pure hQ))
/-- the list at a, as it stands at each turn (a loop may append to it) -/
def Itl (K : PySem.W.Frag) (a : Addr) : It :=
  ⟨fun i H => ∃ xs x, SqL K H a xs ∧ xs[i]? = some x, fun i H x H' => H' = H ∧ ∀ xs, SqL K H a xs → xs[i]? = some x, fun i H => ∃ xs, SqL K H a xs ∧ xs.length ≤ i⟩
/-- lo, lo + 1, .. (n of them) -/
def Itr (lo : Int) (n : Nat) : It := ⟨fun i _ => i < n, fun i H x H' => H' = H ∧ x = .int (lo + i), fun i _ => n ≤ i⟩
theorem turn_list {P : Program} {w : World} {K : PySem.W.Frag} {tg : Expr} (a it : Addr) : Turn P w K tg (Itl K a) [it] it (fun i h => h.IsListIter it a i) where
  mem := by simp
  obj := fun i h st b hb => by
    have e : b = it := by simpa using hb
    subst e
    obtain ⟨o, e, c, d⟩ := st
    exact ⟨o, e, fun v z => by rw [d] at z; cases z⟩
  keep := fun i h h' st k => st.at fun o e => k it (by simp) o e
  item := by
    intro X hP hw hK hc i pins s σ H E I hf st hg
    subst hP hw hK
    obtain ⟨xs, x, hq, hx⟩ := hg
    obtain ⟨its, rv, p, hz⟩ := I.list hq
    obtain ⟨u, hu, ru⟩ := rv.get hx
    obtain ⟨f0, f1, f2, f3, f4, f5⟩ := hf it (by simp)
    refine wpAny_pyNext_list_item st p.isList (x := u) (by simpa using hu) fun h' st' sb => ?_
    have I1 : Inv X pins σ H { s with heap := h' } := I.turned (t' := s.toks) (fun b o hb e => (sb.2 b hb).trans e) f0 f1 f3 f4 f5
    obtain ⟨o, e, c, d⟩ := id st'
    exact ⟨u, rfl, go_of (s := { s with heap := h' }) e c d (by decide) ⟨x, H, I1, ru, ⟨rfl, fun ys hy => by rw [I.list_inj hy hq]; exact hx⟩, st', fun b hb => (hf b hb).1⟩⟩
  done := by
    intro X hP hw hK hc i pins s σ H E I hf st hg
    subst hP hw hK
    obtain ⟨xs, hq, hx⟩ := hg
    obtain ⟨its, rv, p, hz⟩ := I.list hq
    obtain ⟨f0, f1, f2, f3, f4, f5⟩ := hf it (by simp)
    have hl := rv.length
    exact wpAny_pyNext_list_end (I.ok.hd hc) st p.isList (by simp; omega) fun h' eb => ⟨rfl, I.turned (t' := s.toks) (fun b o hb e => eb b o hb e) f0 f1 f3 f4 f5⟩
  self := fun _ _ _ _ _ st h => wpAny_pyIter_listiter st h
theorem turn_range {P : Program} {w : World} {K : PySem.W.Frag} {tg : Expr} (it : Addr) (lo : Int) (n : Nat) : Turn P w K tg (Itr lo n) [it] it (fun i h => IsRangeIter h it (lo + (i : Nat) * 1) ((n : Int) - (i : Nat)) 1) where
  mem := by simp
  obj := fun i h st b hb => by
    have e : b = it := by simpa using hb
    subst e
    exact ⟨_, st, fun v z => by
      have z' : Data.fields _ = Data.cell v := z
      cases z'⟩
  keep := fun i h h' st k => k it (by simp) _ st
  item := by
    intro X hP hw hK hc i pins s σ H E I hf st hg
    subst hP hw hK
    obtain ⟨f0, f1, f2, f3, f4, f5⟩ := hf it (by simp)
    have W := Walks.range (prog := X.prog) (w := X.w) (I.ok.hd hc) it lo 1 n
    refine W.item i s _ _ hg st fun v h' tk hv st' kk => ?_
    obtain ⟨t, rfl⟩ := hv
    have I1 : Inv X pins σ H { s with heap := h', toks := tk } := I.turned (fun b o hb e => kk b o (by simpa using hb) e) f0 f1 f3 f4 f5
    refine ⟨_, rfl, go_of (s := { s with heap := h', toks := tk }) (n := "range_iterator") st' rfl rfl (by decide) ⟨.int (lo + i), H, I1, ⟨t, ?_⟩, ⟨rfl, rfl⟩, st', fun b hb => (hf b hb).1⟩⟩
    rw [Int.mul_one]
  done := by
    intro X hP hw hK hc i pins s σ H E I hf st hg
    subst hP hw hK
    obtain ⟨f0, f1, f2, f3, f4, f5⟩ := hf it (by simp)
    exact wpAny_pyNext_range_end (I.ok.hd hc) st (by have : n ≤ i := hg; omega) fun h' eb => ⟨rfl, I.turned (t' := s.toks) (fun b o hb e => eb b o hb e) f0 f1 f3 f4 f5⟩
  self := fun _ _ _ _ _ st h => wpAny_pyIter_rangeiter st h
end L2
namespace L2
open PySem PySem.Spec PyProof.Rows
section
variable {X : Cx} {tg : Expr}
def iList (K : PySem.W.Frag) (tl : TE) : TI := fun σ H R => tl σ H fun x H1 => ∃ a, x = .ref a ∧ (∃ xs, SqL K H1 a xs) ∧ R (Itl K a) H1
theorem pi_list {l : Expr} {tl : TE} (hl : PE X l tl) : PI X tg l (iList X.K tl) := by
  intro pins s σ H R I h
  refine thn (hl pins s σ H _ I h) fun v s1 ⟨x, H1, I1, r1, q1⟩ => ?_
  obtain ⟨a, e, ⟨xs, hq⟩, q⟩ := q1
  subst e
  cases r1
  obtain ⟨its, rv, p, hz⟩ := I1.list hq
  refine wpAny_pyIter_list p.isList ?_
  refine ⟨s1.heap.objs.size, [s1.heap.objs.size], _, _, H1, rfl, I1.kept (t' := s1.toks) fun b o e => Heap.get?_push_of_some _ e, turn_list a _, ⟨_, Heap.get?_push_size _ rfl, rfl, rfl⟩, fun b hb => ?_, q⟩
  have e : b = s1.heap.objs.size := by simpa using hb
  subst e
  exact I1.fpOk (Nat.le_refl _) (I1.hok.fresh (Nat.le_refl _))
/-- a range object just made, walked -/
theorem range_it {pins : List (Addr × Obj)} {σ : St} {H : Hp} {s : Shared} {R : It → Hp → Prop} {E : Value → Shared → Prop} {lo hi : Int} {t u v : Tok} {tk : Nat} (I : Inv X pins σ H s) (h1 : -(2 ^ 62) ≤ lo) (h2 : lo < 2 ^ 62) (h3 : -(2 ^ 62) ≤ hi) (h4 : hi < 2 ^ 62)
    (q : R (Itr lo (hi - lo).toNat) H) : wpAny (model X.prog X.w) X.A (pyIter (.ref s.heap.objs.size)) (PIE X pins σ tg R) E { s with heap := s.heap.push { cls := .type "range", data := .fields #[.int lo t, .int hi u, .int 1 v] }, toks := tk } := by
  refine wpAny_pyIter_range (IsRange.new ..) (small_one h1 h2 h3 h4) ?_
  have I1 : Inv X pins σ H { s with heap := s.heap.push { cls := .type "range", data := .fields #[.int lo t, .int hi u, .int 1 v] }, toks := tk } := I.kept fun b o e => Heap.get?_push_of_some _ e
  refine ⟨(s.heap.push { cls := .type "range", data := .fields #[.int lo t, .int hi u, .int 1 v] }).objs.size, [(s.heap.push { cls := .type "range", data := .fields #[.int lo t, .int hi u, .int 1 v] }).objs.size], _, _, H, rfl,
    I1.kept (t' := tk) fun b o e => Heap.get?_push_of_some _ e, turn_range _ lo (hi - lo).toNat, ?_, fun b hb => ?_, q⟩
  · have e1 : lo + ((0 : Nat) : Int) * 1 = lo := by simp
    have e2 : (((hi - lo).toNat : Nat) : Int) - ((0 : Nat) : Int) = Builtin.Range.rangeSize lo hi 1 := by rw [rangeSize_one]; split <;> omega
    show IsRangeIter _ _ (lo + ((0 : Nat) : Int) * 1) ((((hi - lo).toNat : Nat) : Int) - ((0 : Nat) : Int)) 1
    rw [e1, e2]
    exact Heap.get?_push_size _ rfl
  · have e : b = (s.heap.push { cls := .type "range", data := .fields #[.int lo t, .int hi u, .int 1 v] }).objs.size := by simpa using hb
    subst e
    exact I1.fpOk (Nat.le_refl _) (I1.hok.fresh (Nat.le_refl _))
def iRng1 (ta : TA) : TI := fun σ H R => ta σ H fun vs H1 => ∃ j : Int, vs = [.int j] ∧ -(2 ^ 62) ≤ j ∧ j < 2 ^ 62 ∧ R (Itr 0 j.toNat) H1
theorem pi_range1 {a : Expr} {ta : TA} {p pos : Pos} (hg : Gl X "range") (hm : X.mg "range" = none) (ha : PA X [a] ta) (hs : starEach [a] X.env = [(false, eval a X.env)] := by rfl) : PI X tg (.Call (.Name "range" p) [a] [] pos) (iRng1 ta) := by
  intro pins s σ H R I h
  refine Call_ (ld_blt I hg hm boot_range (PyProof.Rows.callWith_type1 (thn (ha pos pins s σ H _ I h) fun us s1 ⟨vs, H1, I1, r1, q1⟩ => ?_) hs rfl))
  obtain ⟨j, e, q1, q2, q⟩ := q1
  subst e
  cases r1 with
  | cons r rr =>
    cases rr
    obtain ⟨t, rfl⟩ := r
    exact call_range_1 (range_it I1 (by omega) (by omega) q1 q2 (by simpa using q))
/-- W: the invariant by the turn and a measure; N: what the body is to reach -/
def tFor (wi : TI) (g : TG) (tb : TS) : TS := fun D σ H => wi σ H fun J H1 => ∃ W : Nat → Nat → St → Hp → Prop, (∃ m, W 0 m σ H1) ∧ ∀ i m σ H, W i m σ H →
  (J.stop i H ∧ D.nx σ H) ∨ (J.go i H ∧ ∃ N : St → Hp → Prop, (∀ σ' H', N σ' H' → ∃ m', m' < m ∧ W (i + 1) m' σ' H') ∧ ∀ x H', J.yld i H x H' → g x σ H' fun σ2 H2 => tb { D with nx := N, ct := N, bk := D.nx } σ2 H2)
/-- the records at fp as they stand -/
def pinsAt (fp : List Addr) (h : Heap) : List (Addr × Obj) := fp.filterMap fun b => (h.get? b).map fun o => (b, o)
theorem mem_pinsAt {fp : List Addr} {h : Heap} {b : Addr} {o : Obj} (hb : b ∈ fp) (e : h.get? b = some o) : (b, o) ∈ pinsAt fp h := List.mem_filterMap.mpr ⟨b, hb, by rw [e]; rfl⟩
theorem of_pinsAt {fp : List Addr} {h : Heap} {p : Addr × Obj} (hp : p ∈ pinsAt fp h) : p.1 ∈ fp ∧ h.get? p.1 = some p.2 := by
  obtain ⟨b, hb, e⟩ := List.mem_filterMap.mp hp
  cases q : h.get? b with
  | none => rw [q] at e; cases e
  | some o =>
    rw [q] at e
    have e' : (b, o) = p := Option.some.inj e
    subst e'
    exact ⟨hb, q⟩
theorem Inv.pinned {pins : List (Addr × Obj)} {σ : St} {H : Hp} {s : Shared} {fp : List Addr} (I : Inv X pins σ H s) (hf : ∀ b ∈ fp, FpOk X pins H b) (ho : ∀ b ∈ fp, ∃ o, s.heap.get? b = some o ∧ ∀ v, o.data ≠ .cell v) : Inv X (pins ++ pinsAt fp s.heap) σ H s :=
  I.pins_of fun p hp => (List.mem_append.mp hp).elim (fun z => I.pin p (List.mem_append_right _ z)) fun z => by
    obtain ⟨hb, e⟩ := of_pinsAt z
    obtain ⟨f0, f1, f2, _⟩ := hf p.1 hb
    obtain ⟨o, e', d⟩ := ho p.1 hb
    rw [e] at e'; cases e'
    exact ⟨e, f0, f1, f2, d⟩
theorem Inv.unpinned {pins pl : List (Addr × Obj)} {σ : St} {H : Hp} {s : Shared} (I : Inv X (pins ++ pl) σ H s) : Inv X pins σ H s := I.pins_of fun p hp => I.pin p (List.mem_append_right _ (List.mem_append_left _ hp))
theorem ps_for {iter : Expr} {body : List Stmt} {wi : TI} {g : TG} {tb : TS} {pos : Pos} (hp : PassesOwn (model X.prog X.w) X.A X.env X.xe) (hc : X.calm = true) (hi : PI X tg iter wi) (hg : PG X tg g) (hb : PSs X body tb)
    (hs : ∀ x, foldedSetIterable iter X.env x = pure x := by intro _; rfl) : PS X (.For tg iter body [] pos) (tFor wi g tb) := by
  intro pins s σ H D I h
  refine wpAny_For (thn (hi pins s σ H _ I h) fun v s1 h1 => thn h1 fun itv s2 h2 => ?_) hs
  obtain ⟨it, fp, tn, J, H2, e, I2, T, st2, f2, W, ⟨m0, w0⟩, turn⟩ := h2
  subst e
  -- what stays true of the iterator's objects through the loop
  have stat : ∀ {H' : Hp}, (∀ b ∈ fp, H' b = none) → ∀ b ∈ fp, FpOk X pins H' b := fun hn b hb => ⟨hn b hb, (f2 b hb).2⟩
  refine codeAny_forLoop_any (fun n s' => ∃ i σ' H', Inv X pins σ' H' s' ∧ tn i s'.heap ∧ (∀ b ∈ fp, H' b = none) ∧ W i n σ' H') ?_ m0 ⟨0, σ, H2, I2, st2, fun b hb => (f2 b hb).1, w0⟩
  rintro n s3 ⟨i, σ3, H3, I3, st3, fr3, w3⟩
  rcases turn i n σ3 H3 w3 with ⟨stop, qn⟩ | ⟨go, N, hN, step⟩
  · refine wpAny_passesOwn hp (thn (T.done X rfl rfl rfl hc i pins s3 σ3 H3 X.xe I3 (stat fr3) st3 stop) fun r s4 ⟨hr, I4⟩ => ?_)
    subst hr
    exact wpAny_execs_nil ⟨σ3, H3, I4, qn⟩
  · refine wpAny_passesOwn hp (thn (T.item X rfl rfl rfl hc i pins s3 σ3 H3 X.xe I3 (stat fr3) st3 go) fun r s4 ⟨u, hr, h4⟩ => ?_)
    subst hr
    refine wpAny_passesOwn hp (thn h4 fun _ s5 ⟨x, H5, I5, r5, y5, st5, fr5⟩ => ?_)
    have I5' := I5.pinned (stat fr5) (T.obj _ _ st5)
    refine wpAny_passesOwn hp (thn (hg _ s5 σ3 H5 x u _ I5' r5 (step x H5 y5)) fun _ s6 ⟨σ6, H6, I6, q6⟩ => ?_)
    refine wpAny_passesOwn hp (thn (hb _ s6 σ6 H6 _ I6 q6) fun f s7 q7 => ?_)
    have again : ∀ {σ7 : St} {H7 : Hp}, Inv X (pins ++ pinsAt fp s5.heap) σ7 H7 s7 → N σ7 H7 → ∃ m, m < n ∧ ∃ i σ' H', Inv X pins σ' H' s7 ∧ tn i s7.heap ∧ (∀ b ∈ fp, H' b = none) ∧ W i m σ' H' := fun {σ7 H7} I7 n7 => by
      obtain ⟨m', hm, w7⟩ := hN σ7 H7 n7
      refine ⟨m', hm, i + 1, σ7, H7, I7.unpinned, T.keep _ _ _ st5 fun b hb o e => (I7.pin (b, o) (List.mem_append_right _ (List.mem_append_right _ (mem_pinsAt hb e)))).1, fun b hb => ?_, w7⟩
      obtain ⟨o, e, d⟩ := T.obj _ _ st5 b hb
      exact (I7.pin (b, o) (List.mem_append_right _ (List.mem_append_right _ (mem_pinsAt hb e)))).2.1
    cases f with
    | next => obtain ⟨σ7, H7, I7, n7⟩ := q7; exact again I7 n7
    | cont => obtain ⟨σ7, H7, I7, n7⟩ := q7; exact again I7 n7
    | brk => obtain ⟨σ7, H7, I7, q7⟩ := q7; exact ⟨σ7, H7, I7.unpinned, q7⟩
    | ret v => obtain ⟨x7, σ7, H7, I7, r7, q7⟩ := q7; exact ⟨x7, σ7, H7, I7.unpinned, r7, q7⟩
end
/-- over a list that the body leaves as it is -/
theorem for_list {K : PySem.W.Frag} {a : Addr} {xs : List V} {g : TG} {tb : TS} {D : Ends} {σ : St} {H : Hp} (Pv : Nat → St → Hp → Prop) (h0 : Pv 0 σ H) (hl : ∀ i σ H, i ≤ xs.length → Pv i σ H → SqL K H a xs)
    (hs : ∀ i x σ H, xs[i]? = some x → Pv i σ H → g x σ H fun σ2 H2 => tb { D with nx := Pv (i + 1), ct := Pv (i + 1), bk := D.nx } σ2 H2) (hd : ∀ σ H, Pv xs.length σ H → D.nx σ H) :
    ∃ W : Nat → Nat → St → Hp → Prop, (∃ m, W 0 m σ H) ∧ ∀ i m σ H, W i m σ H →
      ((Itl K a).stop i H ∧ D.nx σ H) ∨ ((Itl K a).go i H ∧ ∃ N : St → Hp → Prop, (∀ σ' H', N σ' H' → ∃ m', m' < m ∧ W (i + 1) m' σ' H') ∧ ∀ x H', (Itl K a).yld i H x H' → g x σ H' fun σ2 H2 => tb { D with nx := N, ct := N, bk := D.nx } σ2 H2) := by
  refine ⟨fun i m σ H => m = xs.length - i ∧ i ≤ xs.length ∧ Pv i σ H, ⟨xs.length, by simp, Nat.zero_le _, h0⟩, ?_⟩
  rintro i m σ H ⟨rfl, hi, p⟩
  have q := hl i σ H hi p
  by_cases hlt : i < xs.length
  · refine .inr ⟨⟨xs, xs[i], q, by simp [hlt]⟩, Pv (i + 1), fun σ' H' p' => ⟨xs.length - (i + 1), by omega, rfl, hlt, p'⟩, fun x H' y => ?_⟩
    obtain ⟨e, y⟩ := y
    subst e
    exact hs i x σ _ (y xs q) p
  · have e : i = xs.length := by omega
    subst e
    exact .inl ⟨⟨xs, q, Nat.le_refl _⟩, hd σ H p⟩
theorem for_range {lo : Int} {n : Nat} {g : TG} {tb : TS} {D : Ends} {σ : St} {H : Hp} (Pv : Nat → St → Hp → Prop) (h0 : Pv 0 σ H)
    (hs : ∀ i σ H, i < n → Pv i σ H → g (.int (lo + i)) σ H fun σ2 H2 => tb { D with nx := Pv (i + 1), ct := Pv (i + 1), bk := D.nx } σ2 H2) (hd : ∀ σ H, Pv n σ H → D.nx σ H) :
    ∃ W : Nat → Nat → St → Hp → Prop, (∃ m, W 0 m σ H) ∧ ∀ i m σ H, W i m σ H →
      ((Itr lo n).stop i H ∧ D.nx σ H) ∨ ((Itr lo n).go i H ∧ ∃ N : St → Hp → Prop, (∀ σ' H', N σ' H' → ∃ m', m' < m ∧ W (i + 1) m' σ' H') ∧ ∀ x H', (Itr lo n).yld i H x H' → g x σ H' fun σ2 H2 => tb { D with nx := N, ct := N, bk := D.nx } σ2 H2) := by
  refine ⟨fun i m σ H => m = n - i ∧ i ≤ n ∧ Pv i σ H, ⟨n, by simp, Nat.zero_le _, h0⟩, ?_⟩
  rintro i m σ H ⟨rfl, hi, p⟩
  by_cases hlt : i < n
  · refine .inr ⟨hlt, Pv (i + 1), fun σ' H' p' => ⟨n - (i + 1), by omega, rfl, hlt, p'⟩, fun x H' y => ?_⟩
    obtain ⟨e, y⟩ := y
    subst e y
    exact hs i σ _ hlt p
  · have e : i = n := by omega
    subst e
    exact .inl ⟨Nat.le_refl _, hd σ H p⟩
end L2
namespace L2
open PySem PySem.Spec PyProof.Rows
abbrev R2 := V → V → Hp → VK → Prop
/-- a two-place operation on values: f is binaryOp op, inplaceOp op or compareOp op -/
def OpR (X : Cx) (f : Value → Value → Sem Value) (r : R2) : Prop :=
  ∀ (pins : List (Addr × Obj)) (s : Shared) (σ : St) (H : Hp) (x y : V) (v u : Value) (Q : VK), Inv X pins σ H s → RelV x v → RelV y u → r x y H Q →
    wpAny (model X.prog X.w) X.A (f v u) (EP X pins σ Q) X.xe s
/-- a one-place operation -/
def UnR (X : Cx) (f : Value → Sem Value) (r : V → Hp → VK → Prop) : Prop :=
  ∀ (pins : List (Addr × Obj)) (s : Shared) (σ : St) (H : Hp) (x : V) (v : Value) (Q : VK), Inv X pins σ H s → RelV x v → r x H Q →
    wpAny (model X.prog X.w) X.A (f v) (EP X pins σ Q) X.xe s
/-- a call of a value that is known (a builtin, a type) with values -/
def CallR (X : Cx) (f : Value) (r : List V → Hp → VK → Prop) : Prop :=
  ∀ (pins : List (Addr × Obj)) (s : Shared) (σ : St) (H : Hp) (xs : List V) (us : List Value) (Q : VK), Inv X pins σ H s → Vals xs us → r xs H Q →
    wpAny (model X.prog X.w) X.A (call f us) (EP X pins σ Q) X.xe s
/-- a value's truth -/
def TruR (X : Cx) (r : V → Hp → (Bool → Hp → Prop) → Prop) : Prop :=
  ∀ (pins : List (Addr × Obj)) (s : Shared) (σ : St) (H : Hp) (x : V) (v : Value) (Q : Bool → Hp → Prop), Inv X pins σ H s → RelV x v → r x H Q →
    wpAny (model X.prog X.w) X.A (truthy v) (TP X pins σ Q) X.xe s
def tOp (r : R2) (ta tb : TE) : TE := fun σ H Q => ta σ H fun x H1 => tb σ H1 fun y H2 => r x y H2 Q
def tUn (r : V → Hp → VK → Prop) (ta : TE) : TE := fun σ H Q => ta σ H fun x H1 => r x H1 Q
/-- ints in, under C, and a value out -/
def rI (C : Int → Int → Prop) (g : Int → Int → V) : R2 := fun x y H Q => ∃ i j, x = .int i ∧ y = .int j ∧ C i j ∧ Q (g i j) H
def rI0 (g : Int → Int → V) : R2 := fun x y H Q => ∃ i j, x = .int i ∧ y = .int j ∧ Q (g i j) H
def rU (g : Int → V) : V → Hp → VK → Prop := fun x H Q => ∃ i, x = .int i ∧ Q (g i) H
section
variable {X : Cx} {a b c : Expr} {ta tb tc : TE} {pos : Pos}
theorem binT (ha : PE X a ta) (hb : PE X b tb) {pins : List (Addr × Obj)} {s : Shared} {σ : St} {H : Hp} {R : V → V → Hp → Prop} (I : Inv X pins σ H s)
    (h : ta σ H fun x H1 => tb σ H1 fun y H2 => R x y H2) {Q : Value → Shared → Prop} {f : Value → Value → Sem Value}
    (hf : ∀ v u s2 x y H2, Inv X pins σ H2 s2 → RelV x v → RelV y u → R x y H2 → wpAny (model X.prog X.w) X.A (f v u) Q X.xe s2) :
    wpAny (model X.prog X.w) X.A (eval a X.env) (fun v s₁ => wpAny (model X.prog X.w) X.A (eval b X.env) (fun u s₂ => wpAny (model X.prog X.w) X.A (f v u) Q X.xe s₂) X.xe s₁) X.xe s := by
  refine thn (ha pins s σ H _ I h) fun v s1 ⟨x, H1, I1, r1, q1⟩ => ?_
  refine thn (hb pins s1 σ H1 _ I1 q1) fun u s2 ⟨y, H2, I2, r2, q2⟩ => ?_
  exact hf v u s2 x y H2 I2 r1 r2 q2
theorem pe_op {op : Operator} {r : R2} (ho : OpR X (binaryOp op) r) (ha : PE X a ta) (hb : PE X b tb) : PE X (.BinOp a op b pos) (tOp r ta tb) := by
  intro pins s σ H Q I h
  exact wpAny_BinOp (binT ha hb I h fun v u s2 x y H2 I2 rx ry q => ho pins s2 σ H2 x y v u Q I2 rx ry q)
theorem pe_un {op : UnaryOp} {r : V → Hp → VK → Prop} (ho : UnR X (unaryOp op) r) (ha : PE X a ta) : PE X (.UnaryOp op a pos) (tUn r ta) := by
  intro pins s σ H Q I h
  exact UnaryOp_ (thn (ha pins s σ H _ I h) fun v s1 ⟨x, H1, I1, r1, q1⟩ => ho pins s1 σ H1 x v Q I1 r1 q1)
theorem opI {f : Value → Value → Sem Value} {C : Int → Int → Prop} {g : Int → Int → Int}
    (rule : ∀ (i j : Int) (t u : Tok) (s : Shared) (Q : Value → Shared → Prop) (E : Value → Shared → Prop), C i j → Q (.int (g i j) s.toks) { s with toks := s.toks + 1 } → wpAny (model X.prog X.w) X.A (f (.int i t) (.int j u)) Q E s) :
    OpR X f (rI C fun i j => .int (g i j)) := by
  intro pins s σ H x y v u Q I rx ry h
  obtain ⟨i, j, rfl, rfl, hc, q⟩ := h
  obtain ⟨t, rfl⟩ := rx
  obtain ⟨t', rfl⟩ := ry
  exact rule i j t t' s _ _ hc ⟨.int (g i j), H, I.tok _, ⟨_, rfl⟩, q⟩
theorem opI0 {f : Value → Value → Sem Value} {g : Int → Int → Int}
    (rule : ∀ (i j : Int) (t u : Tok) (s : Shared) (Q : Value → Shared → Prop) (E : Value → Shared → Prop), Q (.int (g i j) s.toks) { s with toks := s.toks + 1 } → wpAny (model X.prog X.w) X.A (f (.int i t) (.int j u)) Q E s) :
    OpR X f (rI0 fun i j => .int (g i j)) := by
  intro pins s σ H x y v u Q I rx ry h
  obtain ⟨i, j, rfl, rfl, q⟩ := h
  obtain ⟨t, rfl⟩ := rx
  obtain ⟨t', rfl⟩ := ry
  exact rule i j t t' s _ _ ⟨.int (g i j), H, I.tok _, ⟨_, rfl⟩, q⟩
theorem opB0 {f : Value → Value → Sem Value} {g : Int → Int → Bool}
    (rule : ∀ (i j : Int) (t u : Tok) (s : Shared) (Q : Value → Shared → Prop) (E : Value → Shared → Prop), Q (.bool (g i j)) s → wpAny (model X.prog X.w) X.A (f (.int i t) (.int j u)) Q E s) :
    OpR X f (rI0 fun i j => .bl (g i j)) := by
  intro pins s σ H x y v u Q I rx ry h
  obtain ⟨i, j, rfl, rfl, q⟩ := h
  obtain ⟨t, rfl⟩ := rx
  obtain ⟨t', rfl⟩ := ry
  exact rule i j t t' s _ _ ⟨.bl (g i j), H, I, rfl, q⟩
def CDiv (i j : Int) : Prop := 0 < j ∧ j < 1073741824
def CPow (i j : Int) : Prop := 0 ≤ j ∧ j ≤ 1000000 ∧ i.natAbs < 2 ^ 64
def CMul (i j : Int) : Prop := (-(2 ^ 64) < i ∧ i < 2 ^ 64) ∨ (-(2 ^ 64) < j ∧ j < 2 ^ 64)
theorem CMul.ok {i j : Int} (h : CMul i j) : IntMulOk i j := by
  rcases h with ⟨h1, h2⟩ | ⟨h1, h2⟩
  · exact .of_left (intBits_le_64 h1 h2)
  · exact .of_right (intBits_le_64 h1 h2)
theorem op_add : OpR X (binaryOp .Add) (rI0 fun i j => .int (i + j)) := opI0 fun _ _ _ _ _ _ _ q => add_int q
theorem op_sub : OpR X (binaryOp .Sub) (rI0 fun i j => .int (i - j)) := opI0 fun _ _ _ _ _ _ _ q => sub_int q
theorem op_mul : OpR X (binaryOp .Mult) (rI CMul fun i j => .int (i * j)) := opI fun _ _ _ _ _ _ _ hc q => mul_int q hc.ok
/-- // by a positive divisor -/
theorem op_fdiv : OpR X (binaryOp .FloorDiv) (rI CDiv fun i j => .int (i / j)) := opI fun i j _ _ _ _ _ hc q => by
  have h1 : (0 : Int) < j := hc.1
  have h2 : j < 1073741824 := hc.2
  exact floordiv_int (by omega) (by rw [Int.fdiv_eq_ediv_of_nonneg i (by omega)]; exact q) (.inl (PyProof.noPylong_small (by omega)))
/-- % by a positive divisor of any size -/
theorem op_mod : OpR X (binaryOp .Mod) (rI (fun _ j => 0 < j) fun i j => .int (i % j)) := opI fun i j _ _ _ _ _ hc q => by
  have h1 : (0 : Int) < j := hc
  exact mod_int' (by omega) (by rw [Int.fmod_eq_emod_of_nonneg i (by omega)]; exact q)
theorem op_pow : OpR X (binaryOp .Pow) (rI CPow fun i j => .int (i ^ j.toNat)) := opI fun _ _ _ _ _ _ _ hc q => pow_int_small hc.1 hc.2.1 hc.2.2 q
theorem unI {f : Value → Sem Value} {g : Int → Int}
    (rule : ∀ (i : Int) (t : Tok) (s : Shared) (Q : Value → Shared → Prop) (E : Value → Shared → Prop), Q (.int (g i) s.toks) { s with toks := s.toks + 1 } → wpAny (model X.prog X.w) X.A (f (.int i t)) Q E s) :
    UnR X f (rU fun i => .int (g i)) := by
  intro pins s σ H x v Q I rx h
  obtain ⟨i, rfl, q⟩ := h
  obtain ⟨t, rfl⟩ := rx
  exact rule i t s _ _ ⟨.int (g i), H, I.tok _, ⟨_, rfl⟩, q⟩
theorem un_neg : UnR X (unaryOp .USub) (rU fun i => .int (-i)) := unI fun _ _ _ _ _ q => neg_int q
end
/-- the scalars that == tells apart as data does -/
def scal : V → V → Bool
  | .non, .non => true | .non, .int _ => true | .int _, .non => true | .non, .bl _ => true | .bl _, .non => true | .non, .str _ => true | .str _, .non => true
  | .int _, .int _ => true | .bl _, .bl _ => true | .str _, .str _ => true | .byt _, .byt _ => true
  | .int _, .str _ => true | .str _, .int _ => true | .bl _, .str _ => true | .str _, .bl _ => true
  | _, _ => false
def rEq : R2 := fun x y H Q => scal x y = true ∧ Q (.bl (decide (x = y))) H
def rNe : R2 := fun x y H Q => scal x y = true ∧ Q (.bl (!decide (x = y))) H
theorem dec_int {i j : Int} : decide (V.int i = V.int j) = (i == j) := by
  rw [Bool.eq_iff_iff]
  simp
theorem dec_bl {i j : Bool} : decide (V.bl i = V.bl j) = (i == j) := by
  rw [Bool.eq_iff_iff]
  simp
theorem dec_str {i j : Str} : decide (V.str i = V.str j) = (i == j) := by
  rw [Bool.eq_iff_iff]
  simp
theorem dec_byt {i j : Array UInt8} : decide (V.byt i = V.byt j) = (i.toList == j.toList) := by
  rw [Bool.eq_iff_iff]
  cases i
  cases j
  simp
section
variable {X : Cx} {a b c : Expr} {ta tb tc : TE} {pos : Pos}
theorem fin_bl {pins : List (Addr × Obj)} {σ : St} {H : Hp} {s : Shared} {Q : VK} {k k' : Bool} (I : Inv X pins σ H s) (q : Q (.bl k) H) (e : k = k') : EP X pins σ Q (.bool k') s := by
  subst e
  exact ⟨.bl k, H, I, rfl, q⟩
theorem op_eq : OpR X (compareOp .Eq) rEq := by
  intro pins s σ H x y v u Q I rx ry h
  obtain ⟨hs, q⟩ := h
  cases x with
  | non =>
    cases rx
    cases y with
    | non => cases ry; exact PySem.EqNone.eq_none_none (fin_bl I q (by simp))
    | bl j => cases ry; exact PySem.EqNone.eq_none_bool (fin_bl I q (by simp))
    | int j => obtain ⟨t', rfl⟩ := ry; exact PySem.EqNone.eq_none_int (fin_bl I q (by simp))
    | str j => obtain ⟨t', rfl⟩ := ry; exact PySem.EqNone.eq_none_str (fin_bl I q (by simp))
    | _ => exact absurd (show false = true from hs) Bool.false_ne_true
  | bl i =>
    cases rx
    cases y with
    | non => cases ry; exact PySem.EqNone.eq_bool_none (fin_bl I q (by simp))
    | bl j => cases ry; exact eq_bool (fin_bl I q dec_bl)
    | str j => obtain ⟨t', rfl⟩ := ry; exact PySem.EqMixed.eq_bool_str (fin_bl I q (by simp))
    | _ => exact absurd (show false = true from hs) Bool.false_ne_true
  | int i =>
    obtain ⟨t, rfl⟩ := rx
    cases y with
    | non => cases ry; exact PySem.EqNone.eq_int_none (fin_bl I q (by simp))
    | int j => obtain ⟨t', rfl⟩ := ry; exact eq_int (fin_bl I q dec_int)
    | str j => obtain ⟨t', rfl⟩ := ry; exact PySem.EqMixed.eq_int_str (fin_bl I q (by simp))
    | _ => exact absurd (show false = true from hs) Bool.false_ne_true
  | str i =>
    obtain ⟨t, rfl⟩ := rx
    cases y with
    | non => cases ry; exact PySem.EqNone.eq_str_none (fin_bl I q (by simp))
    | bl j => cases ry; exact PySem.EqMixed.eq_str_bool (fin_bl I q (by simp))
    | int j => obtain ⟨t', rfl⟩ := ry; exact PySem.EqMixed.eq_str_int (fin_bl I q (by simp))
    | str j => obtain ⟨t', rfl⟩ := ry; exact eq_str (fin_bl I q dec_str)
    | _ => exact absurd (show false = true from hs) Bool.false_ne_true
  | byt i =>
    obtain ⟨t, rfl⟩ := rx
    cases y with
    | byt j => obtain ⟨t', rfl⟩ := ry; exact PySem.W.eq_bytes (fin_bl I q dec_byt)
    | _ => exact absurd (show false = true from hs) Bool.false_ne_true
  | _ => cases y <;> exact absurd (show false = true from hs) Bool.false_ne_true
theorem op_ne : OpR X (compareOp .NotEq) rNe := by
  intro pins s σ H x y v u Q I rx ry h
  obtain ⟨hs, q⟩ := h
  cases x with
  | non =>
    cases rx
    cases y with
    | non => cases ry; exact PySem.EqNone.ne_none_none (fin_bl I q (by simp))
    | bl j => cases ry; exact PySem.EqNone.ne_none_bool (fin_bl I q (by simp))
    | int j => obtain ⟨t', rfl⟩ := ry; exact PySem.EqNone.ne_none_int (fin_bl I q (by simp))
    | str j => obtain ⟨t', rfl⟩ := ry; exact PySem.EqNone.ne_none_str (fin_bl I q (by simp))
    | _ => exact absurd (show false = true from hs) Bool.false_ne_true
  | bl i =>
    cases rx
    cases y with
    | non => cases ry; exact PySem.EqNone.ne_bool_none (fin_bl I q (by simp))
    | bl j => cases ry; exact ne_bool (fin_bl I q (congrArg not dec_bl))
    | str j => obtain ⟨t', rfl⟩ := ry; exact PySem.EqMixed.ne_bool_str (fin_bl I q (by simp))
    | _ => exact absurd (show false = true from hs) Bool.false_ne_true
  | int i =>
    obtain ⟨t, rfl⟩ := rx
    cases y with
    | non => cases ry; exact PySem.EqNone.ne_int_none (fin_bl I q (by simp))
    | int j => obtain ⟨t', rfl⟩ := ry; exact ne_int (fin_bl I q (congrArg not dec_int))
    | str j => obtain ⟨t', rfl⟩ := ry; exact PySem.EqMixed.ne_int_str (fin_bl I q (by simp))
    | _ => exact absurd (show false = true from hs) Bool.false_ne_true
  | str i =>
    obtain ⟨t, rfl⟩ := rx
    cases y with
    | non => cases ry; exact PySem.EqNone.ne_str_none (fin_bl I q (by simp))
    | bl j => cases ry; exact PySem.EqMixed.ne_str_bool (fin_bl I q (by simp))
    | int j => obtain ⟨t', rfl⟩ := ry; exact PySem.EqMixed.ne_str_int (fin_bl I q (by simp))
    | str j => obtain ⟨t', rfl⟩ := ry; exact ne_str (fin_bl I q (congrArg not dec_str))
    | _ => exact absurd (show false = true from hs) Bool.false_ne_true
  | byt i =>
    obtain ⟨t, rfl⟩ := rx
    cases y with
    | byt j => obtain ⟨t', rfl⟩ := ry; exact PySem.W.ne_bytes (fin_bl I q (congrArg not dec_byt))
    | _ => exact absurd (show false = true from hs) Bool.false_ne_true
  | _ => cases y <;> exact absurd (show false = true from hs) Bool.false_ne_true
theorem op_lt : OpR X (compareOp .Lt) (rI0 fun i j => .bl (decide (i < j))) := opB0 fun _ _ _ _ _ _ _ q => lt_int q
theorem op_le : OpR X (compareOp .LtE) (rI0 fun i j => .bl (decide (i ≤ j))) := opB0 fun _ _ _ _ _ _ _ q => le_int q
theorem op_gt : OpR X (compareOp .Gt) (rI0 fun i j => .bl (decide (j < i))) := opB0 fun _ _ _ _ _ _ _ q => gt_int q
/-- the one string within the other -/
theorem op_in_str : OpR X (compareOp .In) (fun x y H Q => ∃ i j, x = .str i ∧ y = .str j ∧ Q (.bl (!(Builtin.Str.occurrences j i 0 j.length 1).isEmpty)) H) := by
  intro pins s σ H x y v u Q I rx ry h
  obtain ⟨i, j, rfl, rfl, q⟩ := h
  obtain ⟨t, rfl⟩ := rx
  obtain ⟨t', rfl⟩ := ry
  exact in_str (fin_bl I q rfl)
theorem op_notin_str : OpR X (compareOp .NotIn) (fun x y H Q => ∃ i j, x = .str i ∧ y = .str j ∧ Q (.bl (!(!(Builtin.Str.occurrences j i 0 j.length 1).isEmpty))) H) := by
  intro pins s σ H x y v u Q I rx ry h
  obtain ⟨i, j, rfl, rfl, q⟩ := h
  obtain ⟨t, rfl⟩ := rx
  obtain ⟨t', rfl⟩ := ry
  exact notIn_str (fin_bl I q rfl)
theorem nomark (b : Expr) {op : CmpOp} (h : op ≠ .In := by decide) (h2 : op ≠ .NotIn := by decide) : behindInMarks op b = false := by
  have e1 : (op == CmpOp.In) = false := by cases op <;> first | rfl | exact absurd rfl h
  have e2 : (op == CmpOp.NotIn) = false := by cases op <;> first | rfl | exact absurd rfl h2
  cases b <;> simp [behindInMarks, e1, e2]
/-- a comparison as a value; hm: nomark b, or (for in, not in) by with_unfolding_all rfl -/
theorem pe_cmpR {op : CmpOp} {r : R2} (ho : OpR X (compareOp op) r) (ha : PE X a ta) (hb : PE X b tb) (hm : behindInMarks op b = false) : PE X (.Compare a [op] [b] pos) (tOp r ta tb) := by
  intro pins s σ H Q I h
  exact wpAny_Compare1 (binT ha hb I h fun v u s2 x y H2 I2 rx ry q => ho pins s2 σ H2 x y v u Q I2 rx ry q) hm
/-- a reading of a value as a test -/
def tTest (t : TE) : TT := fun σ H Q => t σ H fun x H' => ∃ k, x = .bl k ∧ Q k H'
theorem pt_cmpR {op : CmpOp} {r : R2} (ho : OpR X (compareOp op) r) (ha : PE X a ta) (hb : PE X b tb) (hm : behindInMarks op b = false) : PT X (.Compare a [op] [b] pos) (tTest (tOp r ta tb)) := by
  intro pins s σ H Q I h
  refine wpAny_isTrue_Compare1 (thn (ha pins s σ H _ I h) fun v s1 ⟨x, H1, I1, r1, q1⟩ => thn (hb pins s1 σ H1 _ I1 q1) fun u s2 ⟨y, H2, I2, r2, q2⟩ =>
    thn (ho pins s2 σ H2 x y v u _ I2 r1 r2 q2) fun c s3 ⟨z, H3, I3, r3, k, e, q3⟩ => ?_) hm
  subst e
  cases r3
  exact wpAny_truthy_bool ⟨H3, I3, q3⟩
/-- a op1 b op2 c -/
def tChain (r r' : R2) (ta tb tc : TE) : TE := fun σ H Q => ta σ H fun x H1 => tb σ H1 fun y H2 => r x y H2 fun z H3 => ∃ k, z = .bl k ∧
  (if k = true then tc σ H3 fun w' H4 => r' y w' H4 Q else Q (.bl false) H3)
theorem pe_chain {op op' : CmpOp} {r r' : R2} (ho : OpR X (compareOp op) r) (ho' : OpR X (compareOp op') r') (ha : PE X a ta) (hb : PE X b tb) (hc : PE X c tc)
    (hm : lastMarks [op, op'] [b, c] = false := by with_unfolding_all rfl) : PE X (.Compare a [op, op'] [b, c] pos) (tChain r r' ta tb tc) := by
  intro pins s σ H Q I h
  refine Compare_chain (thn (ha pins s σ H _ I h) fun v s1 ⟨x, H1, I1, r1, q1⟩ => chain_link (thn (hb pins s1 σ H1 _ I1 q1) fun u s2 ⟨y, H2, I2, r2, q2⟩ =>
    thn (ho pins s2 σ H2 x y v u _ I2 r1 r2 q2) fun d s3 ⟨z, H3, I3, r3, k, e, q3⟩ => ?_)) hm
  subst e
  cases r3
  refine wpAny_truthy_bool ?_
  cases k with
  | false => exact ite_ff ⟨.bl false, H3, I3, rfl, q3⟩
  | true => exact ite_tt (chain_last (thn (hc pins s3 σ H3 _ I3 q3) fun w' s4 ⟨z', H4, I4, r4, q4⟩ => ho' pins s4 σ H4 y z' u w' Q I4 r2 r4 q4))
theorem pt_chain {op op' : CmpOp} {r r' : R2} (ho : OpR X (compareOp op) r) (ho' : OpR X (compareOp op') r') (ha : PE X a ta) (hb : PE X b tb) (hc : PE X c tc)
    (hm : lastMarks [op, op'] [b, c] = false := by with_unfolding_all rfl) : PT X (.Compare a [op, op'] [b, c] pos) (tTest (tChain r r' ta tb tc)) := by
  intro pins s σ H Q I h
  refine isTrue_chain (thn (ha pins s σ H _ I h) fun v s1 ⟨x, H1, I1, r1, q1⟩ => test_link (thn (hb pins s1 σ H1 _ I1 q1) fun u s2 ⟨y, H2, I2, r2, q2⟩ =>
    thn (ho pins s2 σ H2 x y v u _ I2 r1 r2 q2) fun d s3 ⟨z, H3, I3, r3, k, e, q3⟩ => ?_)) hm
  subst e
  cases r3
  refine wpAny_truthy_bool ?_
  cases k with
  | false =>
    obtain ⟨k', e', q'⟩ := q3
    cases e'
    exact ite_ff ⟨H3, I3, q'⟩
  | true =>
    refine ite_tt (test_last (thn (hc pins s3 σ H3 _ I3 q3) fun w' s4 ⟨z', H4, I4, r4, q4⟩ => thn (ho' pins s4 σ H4 y z' u w' _ I4 r2 r4 q4) fun d' s5 ⟨z2, H5, I5, r5, k2, e2, q5⟩ => ?_))
    subst e2
    cases r5
    exact wpAny_truthy_bool ⟨H5, I5, q5⟩
/-- a value's truth by the abstract heap -/
def TruV (K : PySem.W.Frag) (x : V) (H : Hp) (k : Bool) : Prop :=
  match x with
  | .non => k = false
  | .bl b => k = b
  | .int i => k = (i != 0)
  | .str y => y.length ≤ sizeLine ∧ k = ((y.length : Int) != 0)
  | .byt y => y.size ≤ sizeLine ∧ k = ((y.size : Int) != 0)
  | .ref p => (∃ xs, SqL K H p xs ∧ k = !xs.isEmpty) ∨ (∃ xs, SqT K H p xs ∧ k = !xs.isEmpty) ∨ ∃ kvs, H p = some (.dK kvs) ∧ k = !kvs.isEmpty
  | _ => False
theorem isEmpty_kv {κ : Type} {kvs : List (κ × V)} {vs : List (κ × Value)} (r : KV kvs vs) : (!vs.isEmpty) = !kvs.isEmpty := by
  cases r <;> rfl
theorem isEmpty_of {xs : List V} {its : List Value} (r : Vals xs its) : (!its.toArray.isEmpty) = !xs.isEmpty := by
  cases r <;> simp
theorem line63 : (sizeLine : Nat) < 2 ^ 63 := by rw [sizeLine_eq]; decide
theorem tru_ok : TruR X (fun x H Q => ∃ k, TruV X.K x H k ∧ Q k H) := by
  intro pins s σ H x v Q I rx h
  obtain ⟨k, e, q⟩ := h
  have hl := line63
  have hs : sizeLine = 16777216 := sizeLine_eq
  cases x with
  | non =>
    cases rx
    have e' : k = false := e
    subst e'
    exact truthy_none ⟨H, I, q⟩
  | bl b =>
    cases rx
    have e' : k = b := e
    subst e'
    exact wpAny_truthy_bool ⟨H, I, q⟩
  | int i =>
    obtain ⟨t, rfl⟩ := rx
    have e' : k = (i != 0) := e
    subst e'
    exact PySem.P.truthy_int ⟨H, I, q⟩
  | str y =>
    obtain ⟨t, rfl⟩ := rx
    obtain ⟨hy, e'⟩ : y.length ≤ sizeLine ∧ k = ((y.length : Int) != 0) := e
    subst e'
    exact PySem.P.truthy_str (by omega) ⟨H, I.tok _, q⟩
  | byt y =>
    obtain ⟨t, rfl⟩ := rx
    obtain ⟨hy, e'⟩ : y.size ≤ sizeLine ∧ k = ((y.size : Int) != 0) := e
    subst e'
    exact PySem.W.truthy_bytes (by omega) ⟨H, I.tok _, q⟩
  | ref p =>
    cases rx
    have e' : (∃ xs, SqL X.K H p xs ∧ k = !xs.isEmpty) ∨ (∃ xs, SqT X.K H p xs ∧ k = !xs.isEmpty) ∨ ∃ kvs, H p = some (.dK kvs) ∧ k = !kvs.isEmpty := e
    rcases e' with ⟨xs, hx, e'⟩ | ⟨xs, hx, e'⟩ | ⟨kvs, hx, e'⟩
    · subst e'
      obtain ⟨its, r, pl, hz⟩ := I.list hx
      have hlen := r.length
      exact wpAny_truthy_list pl.isList (by simp only [List.size_toArray]; omega) ⟨H, I.tok _, by rw [isEmpty_of r]; exact q⟩
    · subst e'
      obtain ⟨its, r, pl, hz⟩ := I.tuple hx
      have hlen := r.length
      exact truthy_tuple pl (by simp only [List.size_toArray]; omega) ⟨H, I.tok _, by rw [isEmpty_of r]; exact q⟩
    · subst e'
      obtain ⟨hz, hS, vs, r, m⟩ : kvs.length ≤ sizeLine ∧ (p == sysModules) = false ∧ ∃ vs, KV kvs vs ∧ s.heap.DictOf (mixKind X.prog X.w) p vs := I.hok p _ hx
      have hlen : kvs.length = vs.length := Paired.length r
      exact wpAny_truthy_dict hS m (by omega) ⟨H, I.tok _, by rw [isEmpty_kv r]; exact q⟩
  | _ => exact (show False from e).elim
/-- any expression whose test is its value's truth (a name, a call, a subscript, a field ..: he by fun _ => rfl) -/
theorem pt_truth (ha : PE X a ta) (he : ∀ whole, isTrue a X.env whole = (do let v ← whole; standAt a.pos; holding [v] (truthy v))) :
    PT X a (fun σ H Q => ta σ H fun x H' => ∃ k, TruV X.K x H' k ∧ Q k H') := by
  intro pins s σ H Q I h
  exact isTrue_plain (thn (ha pins s σ H _ I h) fun v s1 ⟨x, H1, I1, r1, q1⟩ => tru_ok pins s1 σ H1 x v Q I1 r1 q1) (he _)
theorem op_add_str : OpR X (binaryOp .Add) (fun x y H Q => ∃ i j, x = .str i ∧ y = .str j ∧ i.length + j.length ≤ sizeLine ∧ Q (.str (i ++ j)) H) := by
  intro pins s σ H x y v u Q I rx ry h
  obtain ⟨i, j, rfl, rfl, hz, q⟩ := h
  obtain ⟨t, rfl⟩ := rx
  obtain ⟨t', rfl⟩ := ry
  exact add_str (fun t' tk => ⟨.str (i ++ j), H, I.tok _, ⟨_, rfl⟩, q⟩) hz
theorem vals1 {x : V} {us : List Value} (r : Vals [x] us) : ∃ u, us = [u] ∧ RelV x u := by
  cases r with
  | cons r1 r2 => cases r2; exact ⟨_, rfl, r1⟩
theorem vals2 {x y : V} {us : List Value} (r : Vals [x, y] us) : ∃ u w', us = [u, w'] ∧ RelV x u ∧ RelV y w' := by
  cases r with
  | cons r1 r2 =>
    cases r2 with
    | cons r3 r4 => cases r4; exact ⟨_, _, rfl, r1, r3⟩
theorem call_abs : CallR X (.builtin "abs") (fun xs H Q => ∃ i, xs = [.int i] ∧ Q (.int (if i < 0 then -i else i)) H) := by
  intro pins s σ H xs us Q I r h
  obtain ⟨i, rfl, q⟩ := h
  obtain ⟨u, rfl, t, rfl⟩ := vals1 r
  exact call_abs_int fun u tk => ⟨.int (if i < 0 then -i else i), H, I.tok _, ⟨_, rfl⟩, q⟩
theorem call_int1 : CallR X (.type "int") (fun xs H Q => (∃ i, xs = [.int i] ∧ Q (.int i) H) ∨ ∃ k, xs = [.bl k] ∧ Q (.int (if k then 1 else 0)) H) := by
  intro pins s σ H xs us Q I r h
  rcases h with ⟨i, rfl, q⟩ | ⟨k, rfl, q⟩
  · obtain ⟨u, rfl, t, rfl⟩ := vals1 r
    exact call_int_int ⟨.int i, H, I, ⟨_, rfl⟩, q⟩
  · obtain ⟨u, rfl, r1⟩ := vals1 r
    cases r1
    exact call_int_bool ⟨.int (if k then 1 else 0), H, I.tok _, ⟨_, rfl⟩, q⟩
theorem call_str_int : CallR X (.type "str") (fun xs H Q => ∃ i, xs = [.int i] ∧ i.natAbs.log2 < 1920 ∧ Q (.str (toString i)) H) := by
  intro pins s σ H xs us Q I r h
  obtain ⟨i, rfl, hz, q⟩ := h
  obtain ⟨u, rfl, t, rfl⟩ := vals1 r
  exact PySem.P.str_of_int hz ⟨.str _, H, I.tok _, ⟨_, rfl⟩, q⟩
theorem call_ord : CallR X (.builtin "ord") (fun xs H Q => ∃ x, xs = [.str x] ∧ x.length = 1 ∧ Q (.int (x.cps.getD 0 0 : Nat)) H) := by
  intro pins s σ H xs us Q I r h
  obtain ⟨x, rfl, hz, q⟩ := h
  obtain ⟨u, rfl, t, rfl⟩ := vals1 r
  exact ord_of_one hz ⟨.int _, H, I.tok _, ⟨_, rfl⟩, q⟩
end
end L2
namespace L2
open PySem PySem.Spec PyProof.Rows
structure ObjM (h : Heap) (x dx C : Addr) (mA : Str → Option Value) : Prop where
  obj : h.get? x = some (PySem.W.instObj C dx)
  ns : h.Ns1 dx mA
  ne : dx ≠ x
theorem lookIn_ns {h : Heap} {dx : Addr} {mA : Str → Option Value} (n : h.Ns1 dx mA) : ∃ od, h.get? dx = some od ∧ ∀ name, PySem.W.lookIn name od = some (mA name) := by
  obtain ⟨o, es, ep, ho, hd, hk, _, hm⟩ := n
  refine ⟨o, ho, fun name => ?_⟩
  have e := hm name
  unfold nsFind findBy at e
  rw [← Array.find?_toList] at e
  unfold PySem.W.lookIn
  rw [hd]
  dsimp only
  split
  · rename_i y q
    rw [q] at e
    exact congrArg some e
  · rename_i q
    rw [q] at e
    have a : es.toList.any (·.refKey) = false := by
      rw [List.any_eq_false]
      intro y hy
      obtain ⟨z, t, hkey⟩ := hk y (Array.mem_toList_iff.mp hy)
      simp [DictEntry.refKey, hkey]
    have a' : ¬ es.toList.any (·.refKey) = true := by rw [a]; exact Bool.false_ne_true
    rw [if_neg a']
    exact congrArg some e
theorem ObjM.look {h : Heap} {x dx C : Addr} {mA : Str → Option Value} (I : ObjM h x dx C mA) : ∃ od, PySem.W.InstAt h x (PySem.W.instObj C dx) C (some od) ∧ ∀ name, PySem.W.lookIn name od = some (mA name) :=
  let ⟨od, ho, hl⟩ := lookIn_ns I.ns
  ⟨od, ⟨I.obj, rfl, rfl, ho⟩, hl⟩
section
variable {prog : Program} {w : World} {A : Around} {E : Value → Shared → Prop} {s : Shared} {K : PySem.W.Frag} {x dx C f : Addr} {mA : Str → Option Value} {name : Str} {v : Value}
end
theorem RelO.some_of {v : V} {o : Option Value} (r : RelO (some v) o) : ∃ u, o = some u ∧ RelV v u := by
  cases o with
  | none => exact (show False from r).elim
  | some u => exact ⟨u, rfl, r⟩
section
variable {P : Program} {w : World} {H H' : Hp} {h h' : Heap} {a C dx : Addr} {fs fs' : List (Str × V)}
theorem ins_get (hok : HOk P w H h) (e : H a = some (.ins C dx fs)) : ∃ mA, ObjM h a dx C mA ∧ (∀ f, RelO (fs.lookup f) (mA f)) ∧ PySem.Within mA (fs.map (·.1)) ∧ fs.length ≤ 1000 ∧ H dx = some (.own a) := by
  obtain ⟨d, z, ne, ob, mA, n, r, q⟩ := (show ObjOk P w H h a (.ins C dx fs) from hok a _ e)
  exact ⟨mA, ⟨ob, n, ne⟩, r, q, z, d⟩
end
structure Cls (K : PySem.W.Frag) (C : Addr) : Prop where
  pg : PySem.W.plainGet K C Str.empty = true
  hd : PySem.W.hasDictIn K C = true
  po : PySem.W.plainOver K C = true
  sa : PySem.W.findIn K (.ref C) "__setattr__" = some (some (.builtin "object.__setattr__"))
theorem Cls.get {K : PySem.W.Frag} {C : Addr} (c : Cls K C) (f : Str) : PySem.W.plainGet K C f = true := c.pg
/-- a constant of the class -/
structure Con (K : PySem.W.Frag) (C : Addr) (f : Str) (v : V) (u : Value) : Prop where
  at_ : PySem.W.findIn K (.ref C) f = some (some u)
  rel : RelV v u
  get : PySem.W.specialIn K u "__get__" = some none
  cp : PySem.W.copiedNames.contains f = false
/-- a method: a plain def of the class or of one above it -/
structure Meth (K : PySem.W.Frag) (C : Addr) (m : Str) (f : Addr) : Prop where
  at_ : PySem.W.findIn K (.ref C) m = some (some (.ref f))
  fn : PySem.W.isFn K (.ref f) = true
  kp : PySem.W.keepIn K (.ref f) = true
section
variable {X : Cx} {pins : List (Addr × Obj)} {σ : St} {H : Hp} {s : Shared} {a C dx : Addr} {fs : List (Str × V)} {f : Str} {v : V} {A : Around} {E : Value → Shared → Prop}
end
section
variable {X : Cx} {o e value : Expr} {f : Str} {pos pos' tpos : Pos} {ta tv : TE}
end
section
variable {X : Cx} {pins : List (Addr × Obj)} {σ : St} {H : Hp} {s : Shared} {A : Around} {E : Value → Shared → Prop} {Q : Value → Shared → Prop} {c : Value} {b : Bool}
/-- the type of a value, as the fragment's deciders take it; for an instance its class -/
inductive TyOf (K : PySem.W.Frag) (H : Hp) : V → Value → Prop where
  | non : TyOf K H .non (.type "NoneType")
  | bl (x : Bool) : TyOf K H (.bl x) (.type "bool")
  | int (i : Int) : TyOf K H (.int i) (.type "int")
  | str (x : Str) : TyOf K H (.str x) (.type "str")
  | flt (x : UInt64) : TyOf K H (.flt x) (.type "float")
  | lst {a : Addr} {xs : List V} (e : H a = some (.lst xs)) : TyOf K H (.ref a) (.type "list")
  | frz {a : Addr} {o : Obj} {xs : List V} (e : H a = some (.frz o (.lst xs))) : TyOf K H (.ref a) (.type "list")
  | tup {a : Addr} {xs : List V} (e : H a = some (.tup xs)) : TyOf K H (.ref a) (.type "tuple")
  | dK {a : Addr} {kvs : List (Key × V)} (e : H a = some (.dK kvs)) : TyOf K H (.ref a) (.type "dict")
  | dT {a : Addr} {kvs : List (List Key × V)} (e : H a = some (.dT kvs)) : TyOf K H (.ref a) (.type "dict")
  | ins {a C dx : Addr} {fs : List (Str × V)} (e : H a = some (.ins C dx fs)) (cl : Cls K C) (ha : PySem.W.findIn K (.ref C) "__class__" = some (some (.builtin "object.__class__")))
      (hn : PySem.W.specialIn K (.builtin "object.__class__") "__get__" = some (some (.builtin "getset_descriptor.__get__"))) (htk : PySem.W.takesIn K (.builtin "object.__class__") = some true)
      (hm : PySem.W.mroIn K C (.type "object") = some true) : TyOf K H (.ref a) (.ref C)
/-- isinstance(x, c) for one class c, a built-in or an own one: kitOne's answer -/
theorem isinst_ok {x : V} {u t : Value} (I : Inv X pins σ H s) (rx : RelV x u) (ty : TyOf X.K H x t) (e : PySem.W.kitOne X.K t c = some b) (h : ∀ tk, Q (.bool b) { s with toks := tk }) :
    wpAny (model X.prog X.w) A (call (.builtin "isinstance") [u, c]) Q E s := by
  cases ty with
  | non => cases (show u = Value.none from rx); exact PySem.W.kia_one PySem.W.kitx_none I.kIn True.intro e (fun z => nomatch z) h
  | bl y => cases (show u = Value.bool y from rx); exact PySem.W.kia_one PySem.W.kitx_bool I.kIn True.intro e (fun z => nomatch z) h
  | int i => obtain ⟨t, q⟩ := (show ∃ t, u = Value.int i t from rx); cases q; exact PySem.W.kia_one PySem.W.kitx_int I.kIn True.intro e (fun z => nomatch z) h
  | str y => obtain ⟨t, q⟩ := (show ∃ t, u = Value.str y t from rx); cases q; exact PySem.W.kia_one PySem.W.kitx_str I.kIn True.intro e (fun z => nomatch z) h
  | flt y => obtain ⟨t, q⟩ := (show ∃ t, u = Value.float y t from rx); cases q; exact PySem.W.kia_one PySem.W.kitx_float I.kIn True.intro e (fun z => nomatch z) h
  | @lst a xs ea =>
    cases (show u = Value.ref a from rx)
    obtain ⟨_, _, n, _, h1⟩ := (show ObjOk X.prog X.w H s.heap a (.lst xs) from I.hok a _ ea)
    exact PySem.W.kia_one PySem.W.kitx_list I.kIn ⟨_, h1, rfl⟩ e (fun z => nomatch z) h
  | @frz a ob xs ea =>
    cases (show u = Value.ref a from rx)
    obtain ⟨_, _, _, n, _, h1⟩ := (show ObjOk X.prog X.w H s.heap a (.frz ob (.lst xs)) from I.hok a _ ea)
    exact PySem.W.kia_one PySem.W.kitx_list I.kIn ⟨_, h1, rfl⟩ e (fun z => nomatch z) h
  | @tup a xs ea =>
    cases (show u = Value.ref a from rx)
    obtain ⟨_, _, _, p⟩ := (show ObjOk X.prog X.w H s.heap a (.tup xs) from I.hok a _ ea)
    obtain ⟨o, h1, h2, _⟩ := p
    exact PySem.W.kia_one PySem.W.kitx_tuple I.kIn ⟨o, h1, h2⟩ e (fun z => nomatch z) h
  | @dK a kvs ea =>
    cases (show u = Value.ref a from rx)
    obtain ⟨_, _, vs, _, p⟩ := (show ObjOk X.prog X.w H s.heap a (.dK kvs) from I.hok a _ ea)
    obtain ⟨o, es, ep, h1, h2, _⟩ := p
    exact PySem.W.kia_one PySem.W.kitx_dict I.kIn ⟨o, h1, h2.1⟩ e (fun z => nomatch z) h
  | @dT a kvs ea =>
    cases (show u = Value.ref a from rx)
    obtain ⟨_, _, xs, _, o, es, ep, h1, h2, _⟩ := (show ObjOk X.prog X.w H s.heap a (.dT kvs) from I.hok a _ ea)
    exact PySem.W.kia_one PySem.W.kitx_dict I.kIn ⟨o, h1, h2.1⟩ e (fun z => nomatch z) h
  | @ins a C dx fs ea cl ha hn htk hm =>
    cases (show u = Value.ref a from rx)
    obtain ⟨mA, O, _⟩ := ins_get I.hok ea
    obtain ⟨od, J, _⟩ := O.look
    exact PySem.W.kia_one (PySem.W.kitx_own (cl.get _) cl.hd ha hn htk hm) I.kIn J e (fun z => nomatch z) h
end
end L2
namespace L2
open PySem PySem.Spec PyProof.Rows
structure Room (k : Nat) (A : Around) : Prop where
  hd : A.handled = none
  dp : A.depth + 3 * k + 5 < recursionLimit
  un : A.units + 16 * k + 200 < cLine
theorem Room.mono {j k : Nat} {A : Around} (r : Room k A) (h : j ≤ k) : Room j A := ⟨r.hd, by have := r.dp; omega, by have := r.un; omega⟩
theorem Room.deeper {k : Nat} {A : Around} (r : Room (k + 1) A) (env : Env) : Room k (A.deeper env) :=
  ⟨r.hd, by have := r.dp; show A.depth + 1 + 3 * k + 5 < _; omega, by have := r.un; show A.units + 3 + 16 * k + 200 < _; omega⟩
theorem Room.depth {k : Nat} {A : Around} (r : Room k A) : A.depth < recursionLimit := by have := r.dp; omega
theorem Room.units {k : Nat} {A : Around} (r : Room k A) : A.units + 64 < cLine := by have := r.un; omega
theorem Room.units0 {k : Nat} {A : Around} (r : Room k A) : A.units < cLine := by have := r.un; omega
def tNil : TA := fun _ H Q => Q [] H
def tCons (ta : TE) (tr : TA) : TA := fun σ H Q => ta σ H fun x H1 => tr σ H1 fun xs H2 => Q (x :: xs) H2
section
variable {X : Cx} {e : Expr} {es : List Expr} {te : TE} {t : TA} {pos : Pos}
theorem pa_nil : PA X [] tNil := fun _ _ _ _ H Q I h => Calls.spliced_nil ⟨[], H, I, .nil, h⟩
theorem pa_cons (ha : PE X e te) (hr : PA X es t) (hs : starEach (e :: es) X.env = (false, eval e X.env) :: starEach es X.env := by rfl) : PA X (e :: es) (tCons te t) := by
  intro pos pins s σ H Q I h
  rw [hs]
  show wpAny _ _ (spliced ((false, eval e X.env) :: backTo pos (starEach es X.env))) _ _ s
  refine Calls.spliced_cons (thn (ha pins s σ H _ I h) fun u s1 ⟨x, H1, I1, r1, q1⟩ => ?_)
  exact thn (hr pos pins s1 σ H1 _ I1 q1) fun us s2 ⟨xs, H2, I2, r2, q2⟩ => ⟨x :: xs, H2, I2, .cons r1 r2, q2⟩
/-- a tuple, a list of written items -/
def tTup (t : TA) : TE := fun σ H Q => t σ H fun xs H1 => xs.length ≤ sizeLine ∧ ∀ p, H1 p = none → Q (.ref p) (upd H1 p (.tup xs))
def tLst (t : TA) : TE := fun σ H Q => t σ H fun xs H1 => xs.length ≤ sizeLine ∧ ∀ p, H1 p = none → Q (.ref p) (upd H1 p (.lst xs))
theorem pe_tup {x1} (h : PA X es t) : PE X (.Tuple es x1 pos) (tTup t) := by
  intro pins s σ H Q I hq
  refine wpAny_Tuple_spliced (thn (h pos pins s σ H _ I hq) fun us s1 ⟨xs, H1, I1, r, z, q⟩ => ⟨by rw [← r.length]; exact z, ?_⟩)
  have hf : H1 s1.heap.objs.size = none := I1.hok.fresh (Nat.le_refl _)
  refine ⟨.ref s1.heap.objs.size, upd H1 s1.heap.objs.size (.tup xs), I1.laid (t' := s1.toks) (fun b u e => Heap.get?_push_of_some _ e) (Nat.le_refl _) ?_, rfl, q _ hf⟩
  exact ⟨z, us, r, ⟨_, Heap.get?_push_size _ rfl, rfl, _, rfl⟩⟩
theorem pe_lst (h : PA X es t) : PE X (.List es pos) (tLst t) := by
  intro pins s σ H Q I hq
  refine wpAny_List_spliced (thn (h pos pins s σ H _ I hq) fun us s1 ⟨xs, H1, I1, r, z, q⟩ => ⟨by rw [← r.length]; exact z, ?_⟩)
  have hf : H1 s1.heap.objs.size = none := I1.hok.fresh (Nat.le_refl _)
  refine ⟨.ref s1.heap.objs.size, upd H1 s1.heap.objs.size (.lst xs), I1.laid (t' := s1.toks) (fun b u e => Heap.get?_push_of_some _ e) (Nat.le_refl _) ?_, rfl, q _ hf⟩
  exact ⟨z, us, 0, r, Heap.get?_push_size _ rfl⟩
end
/-- a def's promise: the bound arguments in the parameters' order, the heap, the wanted end, the wanted exception -/
abbrev Sp := List V → Hp → VK → XK → Prop
/-- how an exception lies behind a call (file 08 gives it): the callers' frames, abstract heap and state ahead of the call, the wish, the exception, the state -/
abbrev CXT := List Env → Hp → Shared → XK → Value → Shared → Prop
/-- the state at a call -/
structure Env0 (P : Program) (w : World) (K : PySem.W.Frag) (mg : Str → Option Value) (base : Heap) (A : Around) (outer : List Env) (s : Shared) (H : Hp) : Prop where
  frames : A.frames = some outer
  mod : Mod K mg base
  bs : ∀ b o, base.get? b = some o → s.heap.get? b = some o ∧ H b = none
  bsz : base.objs.size ≤ s.heap.objs.size
  funs : s.heap.FunFrames base outer
  frf : ∀ b ∈ frs outer, H b = none
  hok : HOk P w H s.heap
  bare : AllBare s.gens
/-- a call's end -/
def CE (outer : List Env) (P : Program) (w : World) (H : Hp) (s : Shared) (Q : VK) (u : Value) (s' : Shared) : Prop :=
  ∃ v H', s'.os = s.os ∧ AllBare s'.gens ∧ Un (frs outer) [] H H' s.heap s'.heap ∧ HOk P w H' s'.heap ∧ RelV v u ∧ Q v H'
def CR (CX : CXT) (outer : List Env) (P : Program) (w : World) (H : Hp) (s : Shared) (Q : VK) (E : XK) (r : Result) (s' : Shared) : Prop :=
  match r with
  | .ok (.ret u) => CE outer P w H s Q u s'
  | .ok _ => False
  | .error e => CX outer H s E e s'
structure FnOk (P : Program) (w : World) (K : PySem.W.Frag) (mg : Str → Option Value) (base : Heap) (CX : CXT) (k : Nat) (f : Addr) (fd : FuncData) (ps : List Str) (sp : Sp) : Prop where
  len : ∀ vs H Q E, sp vs H Q E → vs.length = ps.length
  run : ∀ (A : Around) (outer : List Env) (s : Shared) (H : Hp) (args : Args) (us : List Value) (vs : List V) (Q : VK) (E : XK), Room k A → Env0 P w K mg base A outer s H → BindsTo s fd args (ps.zip us) → Vals vs us → sp vs H Q E →
    codeAny (model P w) A (.call (.ref f) args) (CR CX outer P w H s Q E) s
theorem FnOk.mono {P : Program} {w : World} {K : PySem.W.Frag} {mg : Str → Option Value} {base : Heap} {CX : CXT} {j k : Nat} {f : Addr} {fd : FuncData} {ps : List Str} {sp : Sp} (F : FnOk P w K mg base CX j f fd ps sp) (h : j ≤ k) :
    FnOk P w K mg base CX k f fd ps sp := ⟨F.len, fun A outer s H args us vs Q E hr => F.run A outer s H args us vs Q E (hr.mono h)⟩
/-- a weaker promise -/
theorem FnOk.imp {P : Program} {w : World} {K : PySem.W.Frag} {mg : Str → Option Value} {base : Heap} {CX : CXT} {k : Nat} {f : Addr} {fd : FuncData} {ps : List Str} {sp sp' : Sp} (F : FnOk P w K mg base CX k f fd ps sp)
    (h : ∀ vs H Q E, sp' vs H Q E → sp vs H Q E) : FnOk P w K mg base CX k f fd ps sp' :=
  ⟨fun vs H Q E q => F.len vs H Q E (h _ _ _ _ q), fun A outer s H args us vs Q E hr he hb hv hs => F.run A outer s H args us vs Q E hr he hb hv (h _ _ _ _ hs)⟩
section
variable {X : Cx} {pins : List (Addr × Obj)} {σ : St} {H : Hp} {s s' : Shared}
/-- from a body: what a callee wants -/
theorem Inv.env0 (I : Inv X pins σ H s) : Env0 X.prog X.w X.K X.mg X.base X.A X.stack s H :=
  ⟨I.ok.frames, I.ok.mod, I.bs, Nat.le_trans I.ok.bsz I.sz, I.stack, I.stkFree, I.hok, I.bare⟩
/-- behind a call -/
theorem Inv.after {Q : VK} {u : Value} (I : Inv X pins σ H s) (h : CE X.stack X.prog X.w H s Q u s') : EP X pins σ Q u s' := by
  obtain ⟨v, H', os, bare, un, hok, r, q⟩ := h
  obtain ⟨hh, g, d, t, os'⟩ := s'
  obtain rfl : os' = s.os := os
  exact ⟨v, H', I.call (h' := hh) (g' := g) (d' := d) (t' := t) (ch := []) un hok bare (fun b z => absurd z (by simp)), r, q⟩
end
/-- f(..): the written arguments, then the defaults dvs; E: what is wanted of an exception -/
def tCall (sp : Sp) (dvs : List V) (E : XK) (t : TA) : TE := fun σ H Q => t σ H fun vs H1 => sp (vs ++ dvs) H1 Q E
/-- how the parameters are bound: us the positional arguments, kw the keywords' values by name, ds the defaults that fill up -/
def Binds (K : PySem.W.Frag) (fd : FuncData) (ps : List Str) (ds : List Value) : Prop :=
  ∀ (s : Shared) (us : List Value), K.In s.heap → (us ++ ds).length = ps.length → BindsTo s fd ⟨us, []⟩ (ps.zip (us ++ ds))
/-- every parameter is given -/
theorem Binds.all {K : PySem.W.Frag} {fd : FuncData} {ps : List Str} (h : ∀ us : List Value, us.length = ps.length → bindArgs fd ⟨us, []⟩ = pure (ps.zip us)) : Binds K fd ps [] := fun s us _ hl => by
  rw [List.append_nil] at hl ⊢
  exact .of_eq (h us hl)
/-- an exception of a callee reaches what this body wants of exceptions -/
def Passes (CX : CXT) (X : Cx) (E : XK) : Prop := ∀ (pins : List (Addr × Obj)) (σ : St) (H : Hp) (s : Shared) (e : Value) (s' : Shared), Inv X pins σ H s → CX X.stack H s E e s' → X.xe e s'
section
variable {X : Cx} {CX : CXT} {k : Nat} {f C : Addr} {fd : FuncData} {ps : List Str} {sp : Sp} {dvs : List V} {ds : List Value} {E : XK} {x m : Str} {p pos apos : Pos} {e o : Expr} {es : List Expr} {ta : TE} {t : TA}
/-- the callee runs -/
theorem run_fn {pins : List (Addr × Obj)} {σ : St} {H : Hp} {s : Shared} {Q : VK} {us : List Value} {vs : List V} (F : FnOk X.prog X.w X.K X.mg X.base CX k f fd ps sp) (hr : Room k X.A) (hb : Binds X.K fd ps ds) (hd : Vals dvs ds) (hx : Passes CX X E)
    (I : Inv X pins σ H s) (r : Vals vs us) (h : sp (vs ++ dvs) H Q E) : wpAny (model X.prog X.w) X.A (call (.ref f) us) (EP X pins σ Q) X.xe s := by
  have r2 : Vals (vs ++ dvs) (us ++ ds) := r.append hd
  have hl : (us ++ ds).length = ps.length := by rw [← r2.length]; exact F.len _ _ _ _ h
  refine wpAny_call (codeAny_mono (F.run X.A X.stack s H ⟨us, []⟩ (us ++ ds) (vs ++ dvs) Q E hr I.env0 (hb s us I.kIn hl) r2 h) fun r s' hq => ?_)
  cases r with
  | error e => exact hx pins σ H s e s' I hq
  | ok fl =>
    cases fl with
    | ret u => exact I.after hq
    | next => exact False.elim hq
    | brk => exact False.elim hq
    | cont => exact False.elim hq
theorem pe_call (F : FnOk X.prog X.w X.K X.mg X.base CX k f fd ps sp) (hr : Room k X.A) (hg : Gl X x) (hm : X.mg x = some (.ref f)) (hk : PySem.W.keepIn X.K (.ref f) = true) (hb : Binds X.K fd ps ds) (hd : Vals dvs ds) (hx : Passes CX X E)
    (ha : PA X (e :: es) t) (hdb : (x == ("__debug__" : Str)) = false := by decide) (he : starEach (e :: es) X.env = (false, eval e X.env) :: starEach es X.env := by rfl) (hpl : (backTo pos (starEach es X.env)).any (·.1) = false := by rfl) :
    PE X (.Call (.Name x p) (e :: es) [] pos) (tCall sp dvs E t) := by
  intro pins s σ H Q I h
  refine wpAny_Call_Name_kw (ld_glob I hg hm ?_ hdb)
  refine PySem.W.callWith_K (h₀ := X.base) I.ok.mod.kin hk (thn (ha pos pins s σ H _ I h) fun us s1 ⟨vs, H1, I1, r, q⟩ => ⟨I1.kIn, ?_⟩) he hpl
  exact run_fn F hr hb hd hx I1 r q
theorem pe_call0 (F : FnOk X.prog X.w X.K X.mg X.base CX k f fd ps sp) (hr : Room k X.A) (hg : Gl X x) (hm : X.mg x = some (.ref f)) (hk : PySem.W.keepIn X.K (.ref f) = true) (hb : Binds X.K fd ps ds) (hd : Vals dvs ds) (hx : Passes CX X E)
    (hdb : (x == ("__debug__" : Str)) = false := by decide) : PE X (.Call (.Name x p) [] [] pos) (tCall sp dvs E tNil) := by
  intro pins s σ H Q I h
  refine wpAny_Call_Name_kw (ld_glob I hg hm ?_ hdb)
  exact PySem.W.callWith_K0 I.kIn hk (run_fn (us := []) F hr hb hd hx I .nil h)
/-- what a class must have to be made -/
structure Mk (K : PySem.W.Frag) (C f : Addr) : Prop where
  makes : PySem.W.makesIn K C = true
  init : PySem.W.findIn K (.ref C) "__init__" = some (some (.ref f))
  fn : PySem.W.isFn K (.ref f) = true
  kp : PySem.W.keepIn K (.ref C) = true
end
section
variable {X : Cx} {CX : CXT} {k : Nat} {f C : Addr} {fd : FuncData} {ps ks : List Str} {sp : Sp} {E : XK} {x m : Str} {p pos apos kpos : Pos} {e o : Expr} {es : List Expr} {kws : List Keyword} {te ta : TE} {t tk : TA} {nm : Option Str}
/-- how a call with keywords binds: g puts the positional values us and the keywords' values ws (names ks) in the parameters' order, defaults among them -/
structure KBinds (K : PySem.W.Frag) (fd : FuncData) (ps ks : List Str) (g : List Value → List Value → List Value) (gV : List V → List V → List V) : Prop where
  to : ∀ (s : Shared) (us ws : List Value), K.In s.heap → (g us ws).length = ps.length → BindsTo s fd ⟨us, ks.zip ws⟩ (ps.zip (g us ws))
  rel : ∀ {vs : List V} {us : List Value} {zs : List V} {ws : List Value}, Vals vs us → Vals zs ws → Vals (gV vs zs) (g us ws)
variable {g : List Value → List Value → List Value} {gV : List V → List V → List V}
end
/-- names: the parameters first -/
structure FnScope (N P : List Str) (sc : Scope) : Prop where
  kind : sc.kind = .function
  co : sc.isCoroutine = false
  gen : sc.isGenerator = false
  nd : N.Nodup
  pre : N.take P.length = P
  par : ∀ x ∈ P, sc.names.lookup x = some .local ∨ sc.names.lookup x = some .cell
  nofree : ∀ y ∈ sc.names, y.2 ≠ .free
theorem bindL_out {kindOf : Str → Option NameKind} {x : Str} : ∀ {binds : List (Str × Value)} {m : Str → Option Value}, (∀ v, (x, v) ∉ binds) → bindL kindOf binds m x = m x
  | [], _, _ => rfl
  | (n, v) :: r, m, h => by
    unfold bindL
    rw [bindL_out fun w hw => h w (List.mem_cons_of_mem _ hw)]
    split
    · have : x ≠ n := by rintro rfl; exact h v List.mem_cons_self
      simp [this]
    · rfl
theorem bindC_out {kindOf : Str → Option NameKind} {x : Str} : ∀ {binds : List (Str × Value)} {m : Str → Option Value}, (∀ v, (x, v) ∉ binds) → bindC kindOf binds m x = m x
  | [], _, _ => rfl
  | (n, v) :: r, m, h => by
    unfold bindC
    rw [bindC_out fun w hw => h w (List.mem_cons_of_mem _ hw)]
    split
    · rfl
    · have : x ≠ n := by rintro rfl; exact h v List.mem_cons_self
      simp [this]
theorem bindL_get {kindOf : Str → Option NameKind} {x : Str} {v : Value} : ∀ {P : List Str} {vs : List Value} {i : Nat} {m : Str → Option Value}, P.Nodup → P[i]? = some x → vs[i]? = some v → kindOf x = some .local →
    bindL kindOf (P.zip vs) m x = some v
  | [], _, _, _, _, h, _, _ => by simp at h
  | _ :: _, [], _, _, _, _, h, _ => by simp at h
  | p :: P, w :: vs, 0, m, nd, h1, h2, hk => by
    simp at h1 h2; subst h1; subst h2
    show bindL kindOf ((p, w) :: P.zip vs) m p = _
    unfold bindL
    rw [bindL_out fun v hv => (List.nodup_cons.mp nd).1 (List.of_mem_zip hv).1, if_pos hk]
    simp
  | p :: P, w :: vs, i + 1, m, nd, h1, h2, hk => by
    show bindL kindOf ((p, w) :: P.zip vs) m x = _
    unfold bindL
    exact bindL_get (i := i) (List.nodup_cons.mp nd).2 (by simpa using h1) (by simpa using h2) hk
theorem bindC_get {kindOf : Str → Option NameKind} {x : Str} {v : Value} : ∀ {P : List Str} {vs : List Value} {i : Nat} {m : Str → Option Value}, P.Nodup → P[i]? = some x → vs[i]? = some v → kindOf x ≠ some .local →
    bindC kindOf (P.zip vs) m x = some v
  | [], _, _, _, _, h, _, _ => by simp at h
  | _ :: _, [], _, _, _, _, h, _ => by simp at h
  | p :: P, w :: vs, 0, m, nd, h1, h2, hk => by
    simp at h1 h2; subst h1; subst h2
    show bindC kindOf ((p, w) :: P.zip vs) m p = _
    unfold bindC
    rw [bindC_out fun v hv => (List.nodup_cons.mp nd).1 (List.of_mem_zip hv).1, if_neg hk]
    simp
  | p :: P, w :: vs, i + 1, m, nd, h1, h2, hk => by
    show bindC kindOf ((p, w) :: P.zip vs) m x = _
    unfold bindC
    exact bindC_get (i := i) (List.nodup_cons.mp nd).2 (by simpa using h1) (by simpa using h2) hk
/-- the names' values at the entry -/
def start (N : List Str) (vs : List V) : St := vs.map some ++ List.replicate (N.length - vs.length) none
/-- the context of a def's body, at its entry; an exception leaves the frame, then lies as CX says -/
def cxOf (CX : CXT) (P : Program) (w : World) (K : PySem.W.Frag) (mg : Str → Option Value) (base : Heap) (N : List Str) (qual : Str) (scope : Scope) (f : Addr) (cd : Value) (A : Around) (outer : List Env) (s : Shared) (H : Hp) (E : XK) : Cx where
  prog := P
  w := w
  K := K
  mg := mg
  base := base
  A := A.deeper (envOfC qual scope s.heap.objs.size f cd)
  N := N
  s₀ := s
  H₀ := H
  env := envOfC qual scope s.heap.objs.size f cd
  outer := outer
  stack := envOfC qual scope s.heap.objs.size f cd :: outer
  ex := []
  calm := true
  fn := fun _ => true
  pn := []
  xe := fun e s' => wpAny (model P w) (A.deeper (envOfC qual scope s.heap.objs.size f cd)) (leaving (envOfC qual scope s.heap.objs.size f cd) e) (fun _ s'' => CX outer H s E e s'') (fun e' s'' => CX outer H s E e' s'') s'
theorem cell_has {sc : Scope} {n : Nat} {x : Str} (h : sc.names.lookup x = some .cell) : ∃ c, (cellsFrom n sc.names []).lookup x = some c := by
  have q := PySem.W.cellsFrom_some sc.names n [] (.inl h)
  exact Option.isSome_iff_exists.mp q
theorem inv_start {CX : CXT} {P : Program} {w : World} {K : PySem.W.Frag} {mg : Str → Option Value} {base : Heap} {N ps : List Str} {qual : Str} {scope : Scope} {f : Addr} {cd : Value} {A : Around} {outer : List Env} {s s1 : Shared} {H : Hp} {E : XK} {us : List Value} {vs : List V}
    (S : FnScope N ps scope) (hd : A.handled = none) (e0 : Env0 P w K mg base A outer s H) (hl : vs.length = ps.length) (r : Vals vs us)
    (x : InCallC s s.heap.objs.size (bindL (envOfC qual scope s.heap.objs.size f cd).kindOf (ps.zip us) fun _ => none) (cellsFrom (s.heap.objs.size + 1) scope.names []) (bindC (envOfC qual scope s.heap.objs.size f cd).kindOf (ps.zip us) fun _ => none) s1) :
    Inv (cxOf CX P w K mg base N qual scope f cd A outer s H E) [] (start N vs) H s1 := by
  have hpl : ps.length ≤ N.length := by have := congrArg List.length S.pre; rw [List.length_take] at this; omega
  obtain ⟨h1, tk, rfl, hk⟩ := x.done
  have noA : ∀ b : Addr, b ∉ (cxOf CX P w K mg base N qual scope f cd A outer s H E).ex := fun b z => absurd (show b ∈ ([] : List Addr) from z) (by simp)
  refine ⟨⟨e0.mod, S.kind, rfl, rfl, Nat.le_refl _, fun y z c h1 h2 => ?_, fun y hy => ?_, fun y c _ h => ?_, fun _ => hd, Around.frames_deeper e0.frames, .inr ⟨rfl, rfl⟩, fun b z => absurd z (noA b), e0.bs, e0.bsz, fun b _ _ => noA b, fun b z => absurd z (noA b), e0.funs, e0.frf⟩,
    rfl, e0.bare, Un.kept hk, ⟨_, x.toInCall.ns, fun i y v h1 h2 h3 => ?_⟩, fun y c h => ⟨_, x.cell y c h⟩, e0.hok.fresh (Nat.le_refl _), fun y c h => ?_, fun p hp => absurd (show p ∈ ([] : List (Addr × Obj)) from hp) (by simp), e0.hok.kept hk, ?_⟩
  · exact name_of_addr x.apart (PySem.mem_of_lookup h1) (PySem.mem_of_lookup h2)
  · have hy : scope.names.lookup y = some .cell ∨ scope.names.lookup y = some .free := hy
    rcases hy with hy | hy
    · exact cell_has hy
    · exact absurd rfl (S.nofree _ (PySem.mem_of_lookup hy))
  · exact Nat.le_of_lt (x.above y c (PySem.mem_of_lookup h))
  · have hi : i < vs.length := by
      unfold start at h2
      by_cases hi : i < vs.length
      · exact hi
      · rw [List.getElem?_append_right (by simpa using hi)] at h2
        rw [List.getElem?_replicate] at h2
        split at h2 <;> cases h2
    have ha : vs[i]? = some v := by
      unfold start at h2
      rw [List.getElem?_append_left (by simpa using hi), List.getElem?_map] at h2
      cases e : vs[i]? with
      | none => rw [e] at h2; cases h2
      | some a => rw [e] at h2; cases h2; rfl
    obtain ⟨u, hu, rv⟩ := r.get ha
    have hp : ps[i]? = some y := by
      rw [← S.pre, List.getElem?_take_of_lt (by omega)]; exact h1
    have ndP : ps.Nodup := by rw [← S.pre]; exact S.nd.sublist (List.take_sublist _ _)
    refine ⟨u, rv, ?_⟩
    rcases S.par y (List.mem_of_getElem? hp) with k | k
    · exact .inl ⟨k, bindL_get ndP hp hu k⟩
    · obtain ⟨c, e⟩ := cell_has (n := s.heap.objs.size + 1) k
      refine .inr ⟨.inl k, c, e, ?_⟩
      have q := x.cell y c e
      rw [bindC_get ndP hp hu (by show scope.names.lookup y ≠ _; rw [k]; decide)] at q
      exact q
  · exact e0.hok.fresh (Nat.le_of_lt (x.above y c (PySem.mem_of_lookup h)))
  · unfold start
    show _ = N.length
    rw [List.length_append, List.length_map, List.length_replicate]
    omega
/-- THE RULE: a def (or a method) of the text, by its body. The body's reading t is chosen for each entry; it is run at the parameters' values -/
theorem fn_of {CX : CXT} {P : Program} {w : World} {K : PySem.W.Frag} {mg : Str → Option Value} {base : Heap} {k : Nat} {f : Addr} {name qual : Str} {params : Arguments} {body : List Stmt} {scope : Scope} {dV kV doc pm cdv ct oc : Value} {an od : Option Addr}
    {osl : Array (Option Value)} {N ps : List Str} {sp : Sp} (lk : K.lookup f = some ⟨oc, od, .func (PySem.W.fnOf name qual params body scope dV kV doc pm an cdv ct), osl⟩) (hcd : PySem.W.codeIn K cdv qual = true) (S : FnScope N ps scope)
    (len : ∀ vs H Q E, sp vs H Q E → vs.length = ps.length)
    (hbody : ∀ (A : Around) (outer : List Env) (s : Shared) (H : Hp) (vs : List V) (Q : VK) (E : XK), Room k (A.deeper (envOfC qual scope s.heap.objs.size f cdv)) → sp vs H Q E →
      ∃ t, PSs (cxOf CX P w K mg base N qual scope f cdv A outer s H E) body t ∧ t { nx := fun _ H' => Q .non H', rt := Q } (start N vs) H) :
    FnOk P w K mg base CX (k + 1) f (PySem.W.fnOf name qual params body scope dV kV doc pm an cdv ct) ps sp := by
  refine ⟨len, fun A outer s H args us vs Q E hr e0 hb r hsp => ?_⟩
  have hl := len _ _ _ _ hsp
  have KX : K.In s.heap := e0.mod.kin.keeps fun b o e => (e0.bs b o e).1
  have lim : s.heap.NoLimit := e0.mod.nolimit.keeps fun b o e => (e0.bs b o e).1
  have hkind : ∀ y ∈ ps.zip us, scope.names.lookup y.1 = some .local ∨ (scope.names.lookup y.1 = some .cell ∧ ((cellsFrom (s.heap.objs.size + 1) scope.names []).lookup y.1).isSome = true) := fun ⟨n, v⟩ hy => by
    rcases S.par n (List.of_mem_zip hy).1 with q | q
    · exact .inl q
    · exact .inr ⟨q, PySem.W.cellsFrom_some _ _ _ (.inl q)⟩
  refine codeAny_call_function hr.depth (KX _ _ lk) rfl S.co S.gen rfl (PySem.W.codeRec_of KX hcd) (hb _ _ _ _ ?_)
  refine wpAny_newFunctionEnv_cells S.kind hkind fun env he s1 x => ?_
  subst he
  refine ⟨lim.keeps x.toInCall.keep, codeAny_func ?_⟩
  obtain ⟨t, ht, hq⟩ := hbody A outer s H vs Q E (hr.deeper _) hsp
  have I : Inv (cxOf CX P w K mg base N qual scope f cdv A outer s H E) [] (start N vs) H s1 := inv_start S hr.hd e0 hl r x
  refine wpAny_mono (ht [] s1 (start N vs) H _ I hq) (fun fl s' hs => ?_) fun e s' hs => hs
  have fin : ∀ {σ' : St} {H' : Hp} {v : V} {u : Value}, Inv (cxOf CX P w K mg base N qual scope f cdv A outer s H E) [] σ' H' s' → RelV v u → Q v H' → CE outer P w H s Q u s' :=
    fun {σ' H' v u} J rv q => ⟨v, H', J.os, J.bare, J.base, J.hok, rv, q⟩
  cases fl with
  | ret u =>
    obtain ⟨v, σ', H', J, rv, q⟩ := hs
    exact fin J rv q
  | next =>
    obtain ⟨σ', H', J, q⟩ := hs
    exact fin (v := V.non) (u := Value.none) J rfl q
  | brk =>
    obtain ⟨_, _, _, q⟩ := hs
    exact False.elim q
  | cont =>
    obtain ⟨_, _, _, q⟩ := hs
    exact False.elim q
end L2
namespace L2
open PySem PySem.Spec PyProof.Rows
section
variable {X : Cx} {x : Str} {p pos : Pos} {e : Expr} {es : List Expr} {t : TA} {id T : String} {r : List V → Hp → VK → Prop}
def tCB (r : List V → Hp → VK → Prop) (t : TA) : TE := fun σ H Q => t σ H fun vs H1 => r vs H1 Q
/-- f(e, ..), f a built-in function -/
theorem pe_callB (hc : CallR X (.builtin id) r) (hg : Gl X x) (hm : X.mg x = none) (hv : bootBuiltins x = some (.builtin id)) (ha : PA X (e :: es) t) (hn : x ≠ "__name__" := by decide) (hdb : (x == ("__debug__" : Str)) = false := by decide)
    (he : starEach (e :: es) X.env = (false, eval e X.env) :: starEach es X.env := by rfl) (hpl : (backTo pos (starEach es X.env)).any (·.1) = false := by rfl) : PE X (.Call (.Name x p) (e :: es) [] pos) (tCB r t) := by
  intro pins s σ H Q I h
  refine wpAny_Call_Name_kw (ld_blt I hg hm hv ?_ hn hdb)
  exact PyProof.Rows.callWith_builtin1 (thn (ha pos pins s σ H _ I h) fun us s1 ⟨vs, H1, I1, r1, q1⟩ => hc pins s1 σ H1 vs us Q I1 r1 q1) he hpl
/-- T(e, ..), T a built-in type -/
theorem pe_callTy (hc : CallR X (.type T) r) (hg : Gl X x) (hm : X.mg x = none) (hv : bootBuiltins x = some (.type T)) (ha : PA X (e :: es) t) (hn : x ≠ "__name__" := by decide) (hdb : (x == ("__debug__" : Str)) = false := by decide)
    (he : starEach (e :: es) X.env = (false, eval e X.env) :: starEach es X.env := by rfl) (hpl : (backTo pos (starEach es X.env)).any (·.1) = false := by rfl) : PE X (.Call (.Name x p) (e :: es) [] pos) (tCB r t) := by
  intro pins s σ H Q I h
  refine wpAny_Call_Name_kw (ld_blt I hg hm hv ?_ hn hdb)
  exact PyProof.Rows.callWith_type1 (thn (ha pos pins s σ H _ I h) fun us s1 ⟨vs, H1, I1, r1, q1⟩ => hc pins s1 σ H1 vs us Q I1 r1 q1) he hpl
end
end L2
namespace HT
open PySem PyProof.Rows
section
open PySem.SeqAt
open PySem.AutoSeq1 (wpAny_loadPart')
open PySem.MeetsSeq PySem.MeetsSeq2 PySem.MeetsSeq3
end
section
variable {prog : Program} {w : World} {A : Around} {E : Value → Shared → Prop} {s : Shared}
/-- t + u, t not empty -/
theorem cat_tup {t b : Addr} {vs ws : List Value} {Q : Value → Shared → Prop} (ht : IsTup s.heap t vs.toArray) (hb : IsTup s.heap b ws.toArray) (hv : vs ≠ [])
    (h1 : ws = [] → Q (.ref t) s) (h2 : ws ≠ [] → Q (.ref s.heap.objs.size) { s with heap := s.heap.push { cls := .type "tuple", data := .seq (vs ++ ws).toArray } })
    (hsz : vs.length + ws.length ≤ sizeLine) : wpAny (model prog w) A (binaryOp .Add (.ref t) (.ref b)) Q E s := by
  obtain ⟨⟨cls, dd, data, sl⟩, ho, hc, n, hd⟩ := id ht
  obtain ⟨⟨cls2, dd2, data2, sl2⟩, ho2, hc2, n2, hd2⟩ := id hb
  simp only at hc hd hc2 hd2
  subst hc hd hc2 hd2
  have e : vs.toArray ++ ws.toArray = (vs ++ ws).toArray := by simp
  by_cases hw : ws = []
  · exact concat_meets ⟨_, ho, rfl⟩ ⟨_, ho2, rfl⟩ noFill_tuple_add seq_tuple_add PySem.F.slot_tuple_add PySem.F.entry_tuple_add (PySem.F.args_tuple_add_2 _ _)
      (tuple_addW1 t b vs.toArray ws.toArray n n2 dd dd2 sl sl2 (by simpa using hv) (by simp [hw])) ⟨ho, ho2, h1 hw⟩
  · refine concat_meets ⟨_, ho, rfl⟩ ⟨_, ho2, rfl⟩ noFill_tuple_add seq_tuple_add PySem.F.slot_tuple_add PySem.F.entry_tuple_add (PySem.F.args_tuple_add_2 _ _)
      (tuple_addW2 t b vs.toArray ws.toArray n n2 dd dd2 sl sl2 (by simpa using hv) (by simpa using hw) (by rw [List.size_toArray, List.size_toArray]; exact hsz)) ⟨ho, ho2, ?_⟩
    rw [e]
    exact h2 hw
/-- a slice's bound as a place among n (d where it is left out) -/
def sIx (n d : Nat) : Option Int → Nat
  | none => d
  | some v => if v < 0 then (v + (n : Int)).toNat else min v.toNat n
theorem sIx_none (n d : Nat) : sIx n d none = d := rfl
theorem sIx_nat (n d k : Nat) : sIx n d (some (k : Int)) = min k n := by
  show (if (k : Int) < 0 then ((k : Int) + (n : Int)).toNat else min (k : Int).toNat n) = min k n
  rw [if_neg (by omega), Int.toNat_natCast]
theorem sIx_le (n d : Nat) (hd : d ≤ n) (o : Option Int) : sIx n d o ≤ n := by
  cases o with
  | none => exact hd
  | some v =>
    show (if v < 0 then (v + (n : Int)).toNat else min v.toNat n) ≤ n
    by_cases hv : v < 0
    · rw [if_pos hv]; omega
    · rw [if_neg hv]; exact Nat.min_le_right _ _
theorem clip_eq (v : Int) (n d : Nat) : (if v < 0 then max (v + (n : Int)) 0 else min v (n : Int)) = ((sIx n d (some v) : Nat) : Int) := by
  show (if v < 0 then max (v + (n : Int)) 0 else min v (n : Int)) = (((if v < 0 then (v + (n : Int)).toNat else min v.toNat n) : Nat) : Int)
  by_cases hv : v < 0
  · simp only [if_pos hv]; omega
  · simp only [if_neg hv]; omega
theorem adjust_gen (lo hi : Option Int) (n : Nat) : Builtin.Slice.sliceAdjust lo hi 1 (n : Int) = (((sIx n 0 lo : Nat) : Int), ((sIx n n hi : Nat) : Int)) := by
  have h1 : ¬ ((1 : Int) < 0) := by omega
  unfold Builtin.Slice.sliceAdjust
  simp only [h1, if_false]
  refine Prod.ext ?_ ?_
  · cases lo with
    | none => rfl
    | some v => exact clip_eq v n 0
  · cases hi with
    | none => rfl
    | some v => exact clip_eq v n n
theorem places_gen (i j : Nat) : Builtin.Slice.slicePlaces (i : Int) (j : Int) 1 = j - i := by
  unfold Builtin.Slice.slicePlaces
  have h1 : (1 : Int) > 0 := by omega
  simp only [h1, if_true, Int.ediv_one]
  split <;> omega
theorem slicePart_ {v : Value} {o : Option Int} {Q : Option Int → Shared → Prop} (p : IsPart v o) (h : Q o s) : wpAny (model prog w) A (Builtin.Slice.slicePartIndex v) Q E s := by
  cases p with
  | none => exact slicePart_none h
  | int i t => exact slicePart_int h
theorem sliceApplied_gen {sl : Addr} {vl vu : Value} {lo hi : Option Int} {n : Nat} {Q : Int × Int × Nat → Shared → Prop} (hs : s.heap.IsSliceOf sl vl vu .none) (pl : IsPart vl lo) (pu : IsPart vu hi)
    (h : Q (((sIx n 0 lo : Nat) : Int), 1, sIx n n hi - sIx n 0 lo) s) : wpAny (model prog w) A (Builtin.Slice.sliceApplied (.ref sl) (pure (n : Int))) Q E s := by
  obtain ⟨os, hos, hcs, hds⟩ := id hs
  unfold Builtin.Slice.sliceApplied Builtin.Slice.sliceFields
  refine wpAny_bind (wpAny_bind (wpAny_field hos hds (x := vl) rfl (wpAny_bind (wpAny_field hos hds (x := vu) rfl (wpAny_bind (wpAny_field hos hds (x := .none) rfl (wpAny_pure ?_)))))))
  refine wpAny_bind (slicePart_none ?_)
  show wpAny _ _ (if ((1 : Int) == 0) = true then _ else _) _ _ s
  rw [if_neg (by decide)]
  refine wpAny_bind (slicePart_ pl (wpAny_bind (slicePart_ pu (wpAny_bind (wpAny_pure ?_)))))
  show wpAny _ _ (match Builtin.Slice.sliceAdjust lo hi 1 (n : Int) with | (lo, hi) => pure (lo, (1 : Int), Builtin.Slice.slicePlaces lo hi 1)) _ _ s
  rw [adjust_gen lo hi n]
  show wpAny _ _ (pure (((sIx n 0 lo : Nat) : Int), (1 : Int), Builtin.Slice.slicePlaces ((sIx n 0 lo : Nat) : Int) ((sIx n n hi : Nat) : Int) 1)) _ _ s
  rw [places_gen]
  exact wpAny_pure h
theorem pick_gen (xs : Array Value) (i k : Nat) : ((List.range k).filterMap fun (m : Nat) => xs[((i : Int) + (m : Int) * 1).toNat]?).toArray = ((xs.toList.drop i).take k).toArray := by
  have e : (fun (m : Nat) => xs[((i : Int) + (m : Int) * 1).toNat]?) = fun m => xs[i + m]? := by
    funext m
    have : ((i : Int) + (m : Int) * 1).toNat = i + m := by omega
    rw [this]
  rw [e]
  have := pick_run xs i k
  rw [List.filterMap_map] at this
  have e2 : ((fun x => xs[x]?) ∘ fun x => i + x) = fun m => xs[i + m]? := rfl
  rw [e2] at this
  rw [this]
theorem getItem_tuple_cut {t sl : Addr} {items : Array Value} {vl vu : Value} {lo hi : Option Int} {Q : Value → Shared → Prop} (ht : IsTup s.heap t items) (hs : s.heap.IsSliceOf sl vl vu .none) (pl : IsPart vl lo) (pu : IsPart vu hi)
    (hw : ¬ (sIx items.size 0 lo = 0 ∧ sIx items.size items.size hi = items.size))
    (h : Q (.ref s.heap.objs.size) { s with heap := s.heap.push { cls := .type "tuple", data := .seq ((items.toList.drop (sIx items.size 0 lo)).take (sIx items.size items.size hi - sIx items.size 0 lo)).toArray } })
    (hsz : items.size ≤ sizeLine) : wpAny (model prog w) A (getItem (.ref t) (.ref sl)) Q E s := by
  have htake : sizeOk (.seq ((items.toList.drop (sIx items.size 0 lo)).take (sIx items.size items.size hi - sIx items.size 0 lo)).toArray) := by
    show ((items.toList.drop (sIx items.size 0 lo)).take (sIx items.size items.size hi - sIx items.size 0 lo)).toArray.size ≤ sizeLine
    rw [List.size_toArray, List.length_take, List.length_drop, Array.length_toList]
    omega
  have hj : sIx items.size items.size hi ≤ items.size := sIx_le _ _ (Nat.le_refl _) hi
  obtain ⟨os, hos, hcs, hds⟩ := id hs
  have hTs : s.TypeIs (.ref sl) "slice" := ⟨os, hos, hcs⟩
  unfold getItem
  try with_reducible refine wpAny_holding ?_
  first | refine wpAny_bind (wpAny_pure ?_) | skip
  refine wpAny_bind (wpAny_sequenceKey ht.typeIs (by decide) ?_)
  refine wpAny_bind (wpAny_callSpecial?_slot (name := Str.ofString "__getitem__") ht.typeIs PyProof.Rows.slot_tuple_getitem
    (wpAny_call_entry PyProof.Rows.slot_tuple_getitem ht.typeIs entry_tuple_getitem ?_ (args_tuple_getitem _ _)))
  show wpAny _ _ (Builtin.Tuple.tupleItemsOf (.ref t) >>= _) _ _ s
  refine wpAny_bind (tupleItemsOf_ ht ?_)
  refine wpAny_bind (wpAny_typeOf hTs ?_)
  rw [if_pos (by decide)]
  refine wpAny_bind (sliceApplied_gen hs pl pu ?_)
  have hno : ¬ ((((sIx items.size 0 lo : Nat) : Int) == 0 && (1 : Int) == 1 && (sIx items.size items.size hi - sIx items.size 0 lo) == items.size) = true) := by
    intro q
    rw [Bool.and_eq_true, Bool.and_eq_true] at q
    have q1 : ((sIx items.size 0 lo : Nat) : Int) = 0 := eq_of_beq q.1.1
    have q2 : sIx items.size items.size hi - sIx items.size 0 lo = items.size := eq_of_beq q.2
    exact hw ⟨by omega, by omega⟩
  show wpAny _ _ (if (((sIx items.size 0 lo : Nat) : Int) == 0 && (1 : Int) == 1 && (sIx items.size items.size hi - sIx items.size 0 lo) == items.size) = true then _ else _) _ _ s
  rw [if_neg hno, pick_gen]
  first
    | exact wpAny_bind (m := Builtin.Tuple.tupleExact _) (wpAny_newObj_type (wpAny_pure ⟨_, rfl, wpAny_pure h⟩) htake)
    | exact wpAny_bind (m := Builtin.Tuple.tupleExact _) (wpAny_newObj_type (wpAny_bind (wpAny_pure (wpAny_pure ⟨_, rfl, wpAny_pure h⟩))) htake)
    | exact wpAny_bind (wpAny_bind (m := Builtin.Tuple.tupleExact _) (wpAny_newObj_type (wpAny_pure (wpAny_pure ⟨_, rfl, wpAny_pure h⟩)) htake))
    | exact wpAny_bind (wpAny_bind (m := Builtin.Tuple.tupleExact _) (wpAny_newObj_type (wpAny_pure ⟨_, rfl, wpAny_pure h⟩) htake))
end
end HT
namespace L2
open PySem PySem.Spec PyProof.Rows
abbrev TO := St → Hp → (Option Int → Hp → Prop) → Prop
/-- a slice's part (left out, or an int) -/
def PO (X : Cx) (e : Option Expr) (t : TO) : Prop :=
  ∀ (pins : List (Addr × Obj)) (s : Shared) (σ : St) (H : Hp) (Q : Option Int → Hp → Prop), Inv X pins σ H s → t σ H Q →
    wpAny (model X.prog X.w) X.A (evalPart e X.env) (fun u s' => ∃ o H', Inv X pins σ H' s' ∧ IsPart u o ∧ Q o H') X.xe s
def tNoPart : TO := fun _ H Q => Q none H
def tPart (t : TE) : TO := fun σ H Q => t σ H fun x H1 => ∃ i, x = .int i ∧ Q (some i) H1
theorem intsAre_of {ns : List Int} : ∀ {us : List Value}, Vals (ns.map V.int) us → IntsAre us ns := by
  induction ns with
  | nil => intro us r; rw [List.map_nil] at r; cases r; exact .nil
  | cons n ns ih =>
    intro us r
    rw [List.map_cons] at r
    cases r with
    | cons r1 r2 =>
      obtain ⟨t, e⟩ := r1
      subst e
      exact .cons n t (ih r2)
section
variable {X : Cx} {e : Expr} {te : TE} {lo hi : Option Expr} {tl th : TO} {pos p2 : Pos}
theorem po_none : PO X none tNoPart := by
  intro pins s σ H Q I h
  rw [evalPart_none]
  exact wpAny_pure ⟨none, H, I, .none, h⟩
theorem po_some (h : PE X e te) : PO X (some e) (tPart te) := by
  intro pins s σ H Q I hw
  rw [evalPart_some]
  refine thn (h pins s σ H _ I hw) fun u s1 ⟨x, H1, I1, r1, q1⟩ => ?_
  obtain ⟨i, rfl, q⟩ := q1
  obtain ⟨t, rfl⟩ := r1
  exact ⟨some i, H1, I1, .int i t, q⟩
/-- what a slice of a value is, by values: the slice object stands at sl -/
def SlR (X : Cx) (r : V → Option Int → Option Int → Hp → VK → Prop) : Prop :=
  ∀ (pins : List (Addr × Obj)) (s : Shared) (σ : St) (H : Hp) (x : V) (v vl vu : Value) (lo hi : Option Int) (sl : Addr) (Q : VK), Inv X pins σ H s → RelV x v → s.heap.IsSliceOf sl vl vu .none → IsPart vl lo → IsPart vu hi → r x lo hi H Q →
    ∃ T id, typeLookup (.type T) "__getitem__" = pure (some (.builtin id)) ∧ s.TypeIs v T ∧ wpAny (model X.prog X.w) X.A (getItem v (.ref sl)) (EP X pins σ Q) X.xe s
def tSl (r : V → Option Int → Option Int → Hp → VK → Prop) (te : TE) (tl th : TO) : TE := fun σ H Q => te σ H fun x H1 => tl σ H1 fun l H2 => th σ H2 fun u H3 => r x l u H3 Q
/-- a[lo:hi], any a -/
theorem pe_slice {r : V → Option Int → Option Int → Hp → VK → Prop} (hr : SlR X r) (he : PE X e te) (hl : PO X lo tl) (hu : PO X hi th) : PE X (.Subscript e (.Slice lo hi none p2) pos) (tSl r te tl th) := by
  intro pins s σ H Q I h
  refine Subscript_ (thn (he pins s σ H _ I h) fun v s1 ⟨x, H1, I1, r1, q1⟩ => ?_)
  refine wpAny_Slice (thn (hl pins s1 σ H1 _ I1 q1) fun vl s2 ⟨l, H2, I2, pl, q2⟩ => thn (hu pins s2 σ H2 _ I2 q2) fun vu s3 ⟨u, H3, I3, pu, q3⟩ => ?_)
  rw [evalPart_none]
  refine wpAny_pure ?_
  have I4 : Inv X pins σ H3 { s3 with heap := s3.heap.push { cls := .type "slice", data := .fields #[vl, vu, .none] } } := I3.kept (t' := s3.toks) fun b ob q => Heap.get?_push_of_some _ q
  obtain ⟨T, id, hT, ht, hg⟩ := hr pins { s3 with heap := s3.heap.push { cls := .type "slice", data := .fields #[vl, vu, .none] } } σ H3 x v vl vu l u s3.heap.objs.size Q I4 r1 (Heap.IsSliceOf.new ..) pl pu q3
  show wpAny (model X.prog X.w) X.A (subscriptTail e (.Slice lo hi none p2) v (.ref s3.heap.objs.size)) (EP X pins σ Q) X.xe { s3 with heap := s3.heap.push { cls := .type "slice", data := .fields #[vl, vu, .none] } }
  exact tail_any (ops := [.ref s3.heap.objs.size, v]) ht hT hg (by with_unfolding_all rfl)
/-- the items of xs[lo:hi] -/
def cutV (xs : List V) (lo hi : Option Int) : List V := (xs.drop (HT.sIx xs.length 0 lo)).take (HT.sIx xs.length xs.length hi - HT.sIx xs.length 0 lo)
theorem cutV_length (xs : List V) (lo hi : Option Int) : (cutV xs lo hi).length ≤ xs.length := by
  unfold cutV
  rw [List.length_take, List.length_drop]
  omega
/-- t[lo:hi], not the whole of it (the whole would be t itself) -/
def rSlT (K : PySem.W.Frag) : V → Option Int → Option Int → Hp → VK → Prop := fun x lo hi H Q => ∃ a xs, x = .ref a ∧ SqT K H a xs ∧
  ¬ (HT.sIx xs.length 0 lo = 0 ∧ HT.sIx xs.length xs.length hi = xs.length) ∧ ∀ p, H p = none → Q (.ref p) (upd H p (.tup (cutV xs lo hi)))
theorem sl_tup : SlR X (rSlT X.K) := by
  intro pins s σ H x v vl vu lo hi sl Q I rx hs pl pu h
  obtain ⟨a, xs, rfl, hx, hw, q⟩ := h
  cases rx
  obtain ⟨its, r, ht, hz⟩ := I.tuple hx
  have hlen : its.toArray.size = xs.length := by rw [List.size_toArray]; exact r.length.symm
  refine ⟨"tuple", _, PyProof.Rows.slot_tuple_getitem.lookup, ht.typeIs, ?_⟩
  refine HT.getItem_tuple_cut ht hs pl pu (by rw [hlen]; exact hw) ?_ (by rw [hlen]; exact hz)
  rw [hlen]
  refine ⟨.ref s.heap.objs.size, _, I.laid (t' := s.toks) (o := .tup (cutV xs lo hi)) (fun b ob q => Heap.get?_push_of_some _ q) (Nat.le_refl _) ?_, rfl, q _ (I.hok.fresh (Nat.le_refl _))⟩
  exact ⟨Nat.le_trans (cutV_length xs lo hi) hz, _, (r.drop (HT.sIx xs.length 0 lo)).take (HT.sIx xs.length xs.length hi - HT.sIx xs.length 0 lo), IsTup.new _ _⟩
/-- t + u, t not empty: u empty gives t itself -/
def rCatT (K : PySem.W.Frag) : R2 := fun x y H Q => ∃ a b xs ys, x = .ref a ∧ y = .ref b ∧ SqT K H a xs ∧ SqT K H b ys ∧ xs ≠ [] ∧ xs.length + ys.length ≤ sizeLine ∧
  (ys = [] → Q (.ref a) H) ∧ (ys ≠ [] → ∀ p, H p = none → Q (.ref p) (upd H p (.tup (xs ++ ys))))
theorem Vals.nil_iff {xs : List V} {us : List Value} (r : Vals xs us) : us = [] ↔ xs = [] := by
  cases r with
  | nil => simp
  | cons _ _ => simp
theorem op_catT : OpR X (binaryOp .Add) (rCatT X.K) := by
  intro pins s σ H x y v u Q I rx ry h
  obtain ⟨a, b, xs, ys, rfl, rfl, ha, hb, hx, hz, q1, q2⟩ := h
  cases rx
  cases ry
  obtain ⟨its, r1, p1, _⟩ := I.tuple ha
  obtain ⟨its2, r2, p2, _⟩ := I.tuple hb
  refine HT.cat_tup p1 p2 (fun z => hx (r1.nil_iff.mp z)) (fun z => ⟨.ref a, H, I, rfl, q1 (r2.nil_iff.mp z)⟩) (fun z => ?_) (by rw [← r1.length, ← r2.length]; exact hz)
  refine ⟨.ref s.heap.objs.size, _, I.laid (t' := s.toks) (o := .tup (xs ++ ys)) (fun b ob q => Heap.get?_push_of_some _ q) (Nat.le_refl _) ?_, rfl, q2 (fun w => z (r2.nil_iff.mpr w)) _ (I.hok.fresh (Nat.le_refl _))⟩
  exact ⟨by rw [List.length_append]; exact hz, _, r1.append r2, IsTup.new _ _⟩
end
end L2
namespace L2
open PySem PySem.Spec PyProof.Rows
/-- the place that an index of any sign means -/
def ixN (n : Nat) (i : Int) : Option Nat := if 0 ≤ i then (if i < n then some i.toNat else none) else if -(n : Int) ≤ i then some (i + n).toNat else none
def atI {α : Type} (xs : List α) (i : Int) : Option α := (ixN xs.length i).bind fun j => xs[j]?
theorem ixN_seq {n : Nat} {i : Int} {j : Nat} (h : ixN n i = some j) : seqIndex? i n = some j ∧ j < n ∧ -(n : Int) ≤ i ∧ i < n := by
  unfold ixN at h
  by_cases h0 : 0 ≤ i
  · rw [if_pos h0] at h
    by_cases h1 : i < n
    · rw [if_pos h1] at h
      have e : i.toNat = j := Option.some.inj h
      exact ⟨by rw [seqIndex_of h0 h1, e], by omega, by omega, h1⟩
    · rw [if_neg h1] at h; cases h
  · rw [if_neg h0] at h
    by_cases h1 : -(n : Int) ≤ i
    · rw [if_pos h1] at h
      have e : (i + n).toNat = j := Option.some.inj h
      exact ⟨by rw [seqIndex_neg (by omega) h1, e], by omega, h1, by omega⟩
    · rw [if_neg h1] at h; cases h
theorem atI_get {α : Type} {xs : List α} {i : Int} {v : α} (h : atI xs i = some v) : ∃ j, seqIndex? i xs.length = some j ∧ xs[j]? = some v ∧ j < xs.length ∧ -(xs.length : Int) ≤ i ∧ i < xs.length := by
  unfold atI at h
  cases e : ixN xs.length i with
  | none => rw [e] at h; cases h
  | some j =>
    rw [e] at h
    obtain ⟨h1, h2, h3, h4⟩ := ixN_seq e
    exact ⟨j, h1, h, h2, h3, h4⟩
theorem atI_nat {α : Type} {xs : List α} {j : Nat} {v : α} (h : xs[j]? = some v) : atI xs (j : Int) = some v := by
  have hj : j < xs.length := (List.getElem?_eq_some_iff.mp h).1
  have e : ixN xs.length (j : Int) = some j := by
    unfold ixN
    rw [if_pos (by omega), if_pos (by omega)]; simp
  unfold atI; rw [e]; exact h
/-- what stands as an index of a plain subscript -/
def PlainIx (b : Expr) : Prop := ∀ o i, subscripted b false o i = operate [o, i] (getItem o i)
/-- a subscript by values -/
def IxR (X : Cx) (r : R2) : Prop :=
  ∀ (value slice : Expr) (pins : List (Addr × Obj)) (s : Shared) (σ : St) (H : Hp) (x y : V) (v u : Value) (Q : VK), Inv X pins σ H s → RelV x v → RelV y u → r x y H Q →
    subscripted slice false v u = operate [v, u] (getItem v u) → wpAny (model X.prog X.w) X.A (subscriptTail value slice v u) (EP X pins σ Q) X.xe s
/-- a call of a builtin's method by values: the receiver, the arguments -/
def MtR (X : Cx) (id : String) (r : V → List V → Hp → VK → Prop) : Prop :=
  ∀ (pins : List (Addr × Obj)) (s : Shared) (σ : St) (H : Hp) (x : V) (xs : List V) (v : Value) (us : List Value) (Q : VK), Inv X pins σ H s → RelV x v → Vals xs us → r x xs H Q →
    wpAny (model X.prog X.w) X.A (call (.builtin id) (v :: us)) (EP X pins σ Q) X.xe s
section
variable {X : Cx} {a b : Expr} {ta tb : TE} {pos : Pos}
/-- a[b] -/
theorem pe_ix {r : R2} (hr : IxR X r) (ha : PE X a ta) (hb : PE X b tb) (hs : PlainIx b) : PE X (.Subscript a b pos) (tOp r ta tb) := by
  intro pins s σ H Q I h
  exact Subscript_ (binT ha hb I h fun v u s2 x y H2 I2 rx ry q => hr a b pins s2 σ H2 x y v u Q I2 rx ry q (hs _ _))
def rIxL (K : PySem.W.Frag) : R2 := fun x y H Q => ∃ p xs i v, x = .ref p ∧ y = .int i ∧ SqL K H p xs ∧ atI xs i = some v ∧ Q v H
def rIxT (K : PySem.W.Frag) : R2 := fun x y H Q => ∃ p xs i v, x = .ref p ∧ y = .int i ∧ SqT K H p xs ∧ atI xs i = some v ∧ Q v H
def rIxS : R2 := fun x y H Q => ∃ z i c, x = .str z ∧ y = .int i ∧ z.length ≤ sizeLine ∧ atI z.cps.toList i = some c ∧ Q (.str ⟨#[c]⟩) H
theorem ix_list : IxR X (rIxL X.K) := by
  intro value slice pins s σ H x y v u Q I rx ry h hs
  obtain ⟨p, xs, i, z, rfl, rfl, hq, he, q⟩ := h
  cases rx
  obtain ⟨t, rfl⟩ := ry
  obtain ⟨its, r, pl, hz⟩ := I.list hq
  obtain ⟨j, h1, h2, h3, h4, h5⟩ := atI_get he
  obtain ⟨w, ew, rw'⟩ := r.get h2
  have hl := r.length
  have hn := line63
  have fin : EP X pins σ Q w s := ⟨z, H, I, rw', q⟩
  by_cases h0 : 0 ≤ i
  · have hj : i.toNat = j := by
      rw [seqIndex_of h0 h5] at h1
      exact Option.some.inj h1
    exact item_listR pl.isList h0 (by omega) (by rw [hj]; simpa using ew) fin hs
  · have hj : (i + (its.toArray.size : Int)).toNat = j := by
      rw [seqIndex_neg (by omega) h4] at h1
      rw [List.size_toArray, ← hl]
      exact Option.some.inj h1
    exact subscriptTail_builtinR (x := w) pl.isList.typeIs slot_list_getitem.lookup
      (wpAny_getItem_list_neg (Q := fun r s' => r = w ∧ EP X pins σ Q r s') pl.isList (by omega) (by rw [List.size_toArray] <;> omega) (by omega) (by rw [hj]; simpa using ew) ⟨rfl, fin⟩) hs
theorem ix_tup : IxR X (rIxT X.K) := by
  intro value slice pins s σ H x y v u Q I rx ry h hs
  obtain ⟨p, xs, i, z, rfl, rfl, hq, he, q⟩ := h
  cases rx
  obtain ⟨t, rfl⟩ := ry
  obtain ⟨its, r, pl, hz⟩ := I.tuple hq
  obtain ⟨j, h1, h2, h3, h4, h5⟩ := atI_get he
  obtain ⟨w, ew, rw'⟩ := r.get h2
  have hl := r.length
  have hn := line63
  have fin : EP X pins σ Q w s := ⟨z, H, I, rw', q⟩
  exact subscriptTail_builtinR (x := w) pl.typeIs slot_tuple_getitem.lookup
    (getItem_tuple (j := j) (Q := fun r s' => r = w ∧ EP X pins σ Q r s') pl (by omega) (by omega) (by rw [List.size_toArray, ← hl]; exact h1) (by simpa using ew) ⟨rfl, fin⟩) hs
theorem ix_str : IxR X rIxS := by
  intro value slice pins s σ H x y v u Q I rx ry h hs
  obtain ⟨z, i, c, rfl, rfl, hz, he, q⟩ := h
  obtain ⟨t, rfl⟩ := rx
  obtain ⟨t', rfl⟩ := ry
  obtain ⟨j, h1, h2, h3, h4, h5⟩ := atI_get he
  have hl : z.cps.toList.length = z.length := by simp [Str.length]
  rw [hl] at h1 h4 h5
  have hn := line63
  exact tail_any (typeIs_str s z t) slot_str_getitem.lookup (getItem_str (c := c) (by
    have e1 : decide (i < -(2 ^ 63 : Int)) = false := decide_eq_false (by omega)
    have e2 : decide (i ≥ 2 ^ 63) = false := decide_eq_false (by omega)
    rw [e1, e2, Bool.or_false]) (by rw [h1]; simpa using h2) ⟨.str ⟨#[c]⟩, H, I.tok _, ⟨_, rfl⟩, q⟩) hs
/-- the list's object behind a store -/
theorem mapSeq_set (its : List Value) (n j : Nat) (u : Value) : Obj.mapSeq (·.setIfInBounds j u) { cls := .type "list", data := .seq its.toArray n } = { cls := .type "list", data := .seq (its.set j u).toArray n } := by
  simp [Obj.mapSeq]
theorem Inv.lst {pins : List (Addr × Obj)} {σ : St} {H : Hp} {s : Shared} {p : Addr} {xs : List V} (I : Inv X pins σ H s) (h : H p = some (.lst xs)) :
    ∃ (its : List Value) (n : Nat), Vals xs its ∧ s.heap.get? p = some { cls := .type "list", data := .seq its.toArray n } ∧ xs.length ≤ sizeLine := by
  obtain ⟨z, its, n, r, e⟩ := I.hok p _ h
  exact ⟨its, n, r, e, z⟩
/-- the list at p is written by an update of its object -/
theorem Inv.lstUpd {pins : List (Addr × Obj)} {σ : St} {H : Hp} {s : Shared} {p : Addr} {xs ys : List V} {its its' : List Value} {n n' : Nat} {f : Obj → Obj} (I : Inv X pins σ H s) (h : H p = some (.lst xs))
    (ho : s.heap.get? p = some { cls := .type "list", data := .seq its.toArray n }) (hf : f { cls := .type "list", data := .seq its.toArray n } = { cls := .type "list", data := .seq its'.toArray n' }) (r : Vals ys its') (hz : ys.length ≤ sizeLine) (t : Nat) :
    Inv X pins σ (upd H p (.lst ys)) { s with heap := s.heap.update p f, toks := t } := by
  have e : (s.heap.update p f).get? p = some { cls := .type "list", data := .seq its'.toArray n' } := by
    rw [Heap.get?_update_self f ho (by rw [hf] <;> rfl), hf]
  refine I.write (x := p) (e := p) (by rw [h]; trivial) (.inl rfl) (fun b u hb q => (Heap.get?_update_other _ _ (Ne.symm hb)).trans q) ⟨_, e⟩ ?_
  exact ⟨hz, its', n', r, e⟩
def rSetL : V → V → V → Hp → (Hp → Prop) → Prop := fun o i v H Q => ∃ p xs k j, o = .ref p ∧ i = .int k ∧ H p = some (.lst xs) ∧ ixN xs.length k = some j ∧ Q (upd H p (.lst (xs.set j v)))
theorem set_list : PSet X rSetL := by
  intro pins s σ H o i v ov iv u Q I ro ri rv h
  obtain ⟨p, xs, k, j, rfl, rfl, hp, hj, q⟩ := h
  cases ro
  obtain ⟨t, rfl⟩ := ri
  obtain ⟨its, n, r, ho, hz⟩ := I.lst hp
  obtain ⟨h1, h2, h3, h4⟩ := ixN_seq hj
  have hl := r.length
  have hn := line63
  have I' : Inv X pins σ (upd H p (.lst (xs.set j v))) { s with heap := s.heap.update p (Obj.mapSeq (·.setIfInBounds j u)) } :=
    I.lstUpd hp ho (mapSeq_set its n j u) (r.set rv j) (by rw [List.length_set]; exact hz) s.toks
  by_cases h0 : 0 ≤ k
  · have hk : k.toNat = j := by
      rw [seqIndex_of h0 h4] at h1
      exact Option.some.inj h1
    exact PySem.W.ki_setAt ho h0 (by omega) (by rw [List.size_toArray, ← hl]; exact h4) (by rw [hk]; exact ⟨_, I', q⟩)
  · have hk : (k + (its.toArray.size : Int)).toNat = j := by
      rw [seqIndex_neg (by omega) h3] at h1
      rw [List.size_toArray, ← hl]
      exact Option.some.inj h1
    exact PySem.W.ki_setBack ho (by omega) (by rw [List.size_toArray, ← hl]; exact h3) (by omega) (by rw [hk]; exact ⟨_, I', q⟩)
theorem slice_bounds (lo hi : Option Int) (n : Nat) : (sliceBounds lo hi none n).1 = ((HT.sIx n 0 lo : Nat) : Int) ∧ (sliceBounds lo hi none n).2.1 = ((HT.sIx n n hi : Nat) : Int) ∧ (sliceBounds lo hi none n).2.2 = 1 := by
  refine ⟨?_, ?_, rfl⟩
  · cases lo with
    | none => simp [sliceBounds, HT.sIx]
    | some i =>
      simp only [sliceBounds, HT.sIx, Option.getD_none, show (1 : Int) > 0 by decide, if_true]
      by_cases h : i < 0
      · simp only [h, if_true] <;> omega
      · simp only [h, if_false] <;> omega
  · cases hi with
    | none => simp [sliceBounds, HT.sIx]
    | some i =>
      simp only [sliceBounds, HT.sIx, Option.getD_none, show (1 : Int) > 0 by decide, if_true]
      by_cases h : i < 0
      · simp only [h, if_true] <;> omega
      · simp only [h, if_false] <;> omega
theorem slicePick_cut (its : List Value) (lo hi : Option Int) : slicePick its.toArray lo hi none = ((its.drop (HT.sIx its.length 0 lo)).take (HT.sIx its.length its.length hi - HT.sIx its.length 0 lo)).toArray := by
  obtain ⟨h1, h2, h3⟩ := slice_bounds lo hi its.toArray.size
  unfold slicePick
  rw [h1, h2, h3]
  simp only [sliceRange_one, pick_run, List.size_toArray] <;> rfl
/-- xs[lo:hi] of a list: a new list -/
def rSlL (K : PySem.W.Frag) : V → Option Int → Option Int → Hp → VK → Prop := fun x lo hi H Q => ∃ a xs, x = .ref a ∧ SqL K H a xs ∧ ∀ p, H p = none → Q (.ref p) (upd H p (.lst (cutV xs lo hi)))
theorem sl_list : SlR X (rSlL X.K) := by
  intro pins s σ H x v vl vu lo hi sl Q I rx hs pl pu h
  obtain ⟨a, xs, rfl, hx, q⟩ := h
  cases rx
  obtain ⟨its, r, ht, hz⟩ := I.list hx
  have hlen := r.length
  refine ⟨"list", _, slot_list_getitem.lookup, ht.isList.typeIs, ?_⟩
  refine wpAny_getItem_list_slice ht.isList hs pl pu .none (by simp) ?_ (by rw [List.size_toArray] <;> omega)
  rw [slicePick_cut, ← hlen]
  refine ⟨.ref s.heap.objs.size, _, I.laid (t' := s.toks) (o := .lst (cutV xs lo hi)) (fun b ob q => Heap.get?_push_of_some _ q) (Nat.le_refl _) ?_, rfl, q _ (I.hok.fresh (Nat.le_refl _))⟩
  exact ⟨Nat.le_trans (cutV_length xs lo hi) hz, _, 0, (r.drop (HT.sIx xs.length 0 lo)).take (HT.sIx xs.length xs.length hi - HT.sIx xs.length 0 lo), Heap.get?_push_size _ rfl⟩
def flatV : V → Bool
  | .non => true
  | .bl _ => true
  | .int _ => true
  | .str _ => true
  | _ => false
/-- == of flat values -/
def eqV : V → V → Bool
  | .non, .non => true
  | .bl a, .bl b => a == b
  | .bl a, .int b => (if a then 1 else 0) == b
  | .int a, .bl b => a == (if b then 1 else 0)
  | .int a, .int b => a == b
  | .str a, .str b => a == b
  | _, _ => false
theorem eqAt_V {A : Around} {s : Shared} {y x : V} {u v : Value} (ry : RelV y u) (rx : RelV x v) (fy : flatV y = true) (fx : flatV x = true) : SeqAt.EqAt A s u v (eqV y x) := by
  cases y with
  | non =>
    cases ry
    cases x with
    | non => cases rx; exact SeqAt.EqAt.same _
    | bl b => cases rx; exact SeqAt.EqAt.none_bool b
    | int b => obtain ⟨t, rfl⟩ := rx; exact SeqAt.EqAt.none_int b t
    | str b => obtain ⟨t, rfl⟩ := rx; exact SeqAt.EqAt.none_str b t
    | _ => exact absurd (show false = true from fx) Bool.false_ne_true
  | bl a =>
    cases ry
    cases x with
    | non => cases rx; exact SeqAt.EqAt.bool_none a
    | bl b => cases rx; exact SeqAt.EqAt.bool_bool a b
    | int b => obtain ⟨t, rfl⟩ := rx; exact SeqAt.EqAt.bool_int a b t
    | str b => obtain ⟨t, rfl⟩ := rx; exact SeqAt.EqAt.bool_str a b t
    | _ => exact absurd (show false = true from fx) Bool.false_ne_true
  | int a =>
    obtain ⟨t', rfl⟩ := ry
    cases x with
    | non => cases rx; exact SeqAt.EqAt.int_none a t'
    | bl b => cases rx; exact SeqAt.EqAt.int_bool a t' b
    | int b => obtain ⟨t, rfl⟩ := rx; exact SeqAt.EqAt.int_int a t' b t
    | str b => obtain ⟨t, rfl⟩ := rx; exact SeqAt.EqAt.int_str a t' b t
    | _ => exact absurd (show false = true from fx) Bool.false_ne_true
  | str a =>
    obtain ⟨t', rfl⟩ := ry
    cases x with
    | non => cases rx; exact SeqAt.EqAt.str_none a t'
    | bl b => cases rx; exact SeqAt.EqAt.str_bool a t' b
    | int b => obtain ⟨t, rfl⟩ := rx; exact SeqAt.EqAt.str_int a t' b t
    | str b => obtain ⟨t, rfl⟩ := rx; exact SeqAt.EqAt.str_str a t' b t
    | _ => exact absurd (show false = true from fx) Bool.false_ne_true
  | _ => exact absurd (show false = true from fy) Bool.false_ne_true
/-- the items' answers, read off the values (a value's own answer does not lean on its token) -/
def eqU (x : V) (u : Value) : Bool := match u with
  | .none => eqV .non x
  | .bool b => eqV (.bl b) x
  | .int i _ => eqV (.int i) x
  | .str z _ => eqV (.str z) x
  | _ => false
theorem eqU_of {x y : V} {u : Value} (r : RelV y u) (f : flatV y = true) : eqU x u = eqV y x := by
  cases y with
  | non => cases r; rfl
  | bl b => cases r; rfl
  | int i => obtain ⟨t, rfl⟩ := r; rfl
  | str z => obtain ⟨t, rfl⟩ := r; rfl
  | _ => exact absurd (show false = true from f) Bool.false_ne_true
theorem any_eqU {x : V} : ∀ {xs : List V} {us : List Value}, Vals xs us → xs.all flatV = true → us.any (eqU x) = xs.any fun y => eqV y x
  | _, _, .nil, _ => rfl
  | y :: xs, u :: us, .cons r t, f => by
    rw [List.all_cons, Bool.and_eq_true] at f
    rw [List.any_cons, List.any_cons, eqU_of r f.1, any_eqU t f.2]
theorem mem_eqAt {A : Around} {s : Shared} {x : V} {v : Value} (rx : RelV x v) (fx : flatV x = true) : ∀ {xs : List V} {us : List Value}, Vals xs us → xs.all flatV = true → ∀ u ∈ us, SeqAt.EqAt A s u v (eqU x u)
  | _, _, .nil, _ => fun u hu => by cases hu
  | y :: xs, u :: us, .cons r t, f => fun u' hu => by
    rw [List.all_cons, Bool.and_eq_true] at f
    rcases List.mem_cons.mp hu with rfl | hu
    · rw [eqU_of r f.1]; exact eqAt_V r rx f.1 fx
    · exact mem_eqAt rx fx t f.2 u' hu
def inV (x : V) (xs : List V) : Bool := xs.any fun y => eqV y x
/-- x in a list or tuple of flat items -/
def rIn (K : PySem.W.Frag) (neg : Bool) : R2 := fun x y H Q => ∃ p xs, y = .ref p ∧ (SqL K H p xs ∨ SqT K H p xs) ∧ flatV x = true ∧ xs.all flatV = true ∧ Q (.bl (if neg then !inV x xs else inV x xs)) H
theorem op_in_seq : OpR X (compareOp .In) (rIn X.K false) := by
  intro pins s σ H x y v u Q I rx ry h
  obtain ⟨p, xs, rfl, hq, fx, fs, q⟩ := h
  cases ry
  rcases hq with hq | hq
  · obtain ⟨its, r, pl, hz⟩ := I.list hq
    refine SeqAt.in_listAt (eqU x) pl.isList (fun w hw => mem_eqAt rx fx r fs w (by simpa using hw)) ⟨.bl _, H, I, rfl, ?_⟩
    rw [show its.toArray.any (eqU x) = its.any (eqU x) by simp, any_eqU r fs]
    exact q
  · obtain ⟨its, r, pl, hz⟩ := I.tuple hq
    refine SeqAt.in_tupleAt (eqU x) pl (fun w hw => mem_eqAt rx fx r fs w (by simpa using hw)) ⟨.bl _, H, I, rfl, ?_⟩
    rw [show its.toArray.any (eqU x) = its.any (eqU x) by simp, any_eqU r fs]
    exact q
theorem op_notIn_seq : OpR X (compareOp .NotIn) (rIn X.K true) := by
  intro pins s σ H x y v u Q I rx ry h
  obtain ⟨p, xs, rfl, hq, fx, fs, q⟩ := h
  cases ry
  rcases hq with hq | hq
  · obtain ⟨its, r, pl, hz⟩ := I.list hq
    refine SeqAt.notIn_listAt (eqU x) pl.isList (fun w hw => mem_eqAt rx fx r fs w (by simpa using hw)) ⟨.bl _, H, I, rfl, ?_⟩
    rw [show its.toArray.any (eqU x) = its.any (eqU x) by simp, any_eqU r fs]
    exact q
  · obtain ⟨its, r, pl, hz⟩ := I.tuple hq
    refine SeqAt.notIn_tupleAt (eqU x) pl (fun w hw => mem_eqAt rx fx r fs w (by simpa using hw)) ⟨.bl _, H, I, rfl, ?_⟩
    rw [show its.toArray.any (eqU x) = its.any (eqU x) by simp, any_eqU r fs]
    exact q
theorem call_len_seq : CallR X (.builtin "len") (fun xs H Q => ∃ p ys, xs = [.ref p] ∧ (SqL X.K H p ys ∨ SqT X.K H p ys) ∧ Q (.int ys.length) H) := by
  intro pins s σ H xs us Q I r h
  obtain ⟨p, ys, rfl, hq, q⟩ := h
  obtain ⟨u, rfl, rx⟩ := vals1 r
  cases rx
  have hn := line63
  rcases hq with hq | hq
  · obtain ⟨its, r', pl, hz⟩ := I.list hq
    have hlen := r'.length
    exact Calls.call_len_list pl.isList (by simp only [List.size_toArray] <;> omega) ⟨.int ys.length, H, I.tok _, ⟨s.toks + 1, by rw [List.size_toArray, hlen]⟩, q⟩
  · obtain ⟨its, r', pl, hz⟩ := I.tuple hq
    have hlen := r'.length
    exact len_tuple pl (by simp only [List.size_toArray] <;> omega) ⟨.int ys.length, H, I.tok _, ⟨s.toks + 1, by rw [List.size_toArray, hlen]⟩, q⟩
theorem call_len_str : CallR X (.builtin "len") (fun xs H Q => ∃ z, xs = [.str z] ∧ z.length ≤ sizeLine ∧ Q (.int z.length) H) := by
  intro pins s σ H xs us Q I r h
  obtain ⟨z, rfl, hz, q⟩ := h
  obtain ⟨u, rfl, t, rfl⟩ := vals1 r
  have hn := line63
  exact len_str (by omega) ⟨.int z.length, H, I.tok _, ⟨_, rfl⟩, q⟩
theorem call_list_of : CallR X (.type "list") (fun xs H Q => ∃ p ys, xs = [.ref p] ∧ (SqL X.K H p ys ∨ SqT X.K H p ys) ∧ ∀ l, H l = none → Q (.ref l) (upd H l (.lst ys))) := by
  intro pins s σ H xs us Q I r h
  obtain ⟨p, ys, rfl, hq, q⟩ := h
  obtain ⟨u, rfl, rx⟩ := vals1 r
  cases rx
  have fin : ∀ (its : List Value), Vals ys its → ys.length ≤ sizeLine → ∀ (h' : Heap) (c' : Nat), (∀ b o', s.heap.get? b = some o' → h'.get? b = some o') →
      h'.get? s.heap.objs.size = some { cls := .type "list", dict := none, data := .seq its.toArray c', slots := #[] } → EP X pins σ Q (.ref s.heap.objs.size) { s with heap := h' } := fun its r' hz h' c' kp e =>
    ⟨.ref s.heap.objs.size, _, I.laid (t' := s.toks) kp (Nat.le_refl _) (show ObjOk X.prog X.w _ h' _ (.lst ys) from ⟨hz, its, c', r', e⟩), rfl, q _ (I.hok.fresh (Nat.le_refl _))⟩
  rcases hq with hq | hq
  · obtain ⟨its, r', pl, hz⟩ := I.list hq
    have hlen := r'.length
    obtain ⟨o, ho, hc, n, hd⟩ := pl.isList
    exact call_list_seq p (.inl rfl) ho hc hd (fun h' c' kp e => fin its r' hz h' c' kp e) (by simp only [List.size_toArray] <;> omega)
  · obtain ⟨its, r', pl, hz⟩ := I.tuple hq
    have hlen := r'.length
    obtain ⟨o, ho, hc, n, hd⟩ := pl
    exact call_list_seq p (.inr rfl) ho hc hd (fun h' c' kp e => fin its r' hz h' c' kp e) (by simp only [List.size_toArray] <;> omega)
theorem call_tuple_of : CallR X (.type "tuple") (fun xs H Q => ∃ p ys, xs = [.ref p] ∧ ((SqL X.K H p ys ∧ ∀ l, H l = none → Q (.ref l) (upd H l (.tup ys))) ∨ (SqT X.K H p ys ∧ Q (.ref p) H))) := by
  intro pins s σ H xs us Q I r h
  obtain ⟨p, ys, rfl, h⟩ := h
  obtain ⟨u, rfl, rx⟩ := vals1 r
  cases rx
  rcases h with ⟨hq, q⟩ | ⟨hq, q⟩
  · obtain ⟨its, r', pl, hz⟩ := I.list hq
    have hlen := r'.length
    refine call_tuple_list pl.isList (fun h' kp => ?_) (by simp only [List.size_toArray] <;> omega)
    have I1 : Inv X pins σ H { s with heap := h' } := I.kept (t' := s.toks) kp
    have I2 : Inv X pins σ (upd H h'.objs.size (.tup ys)) { s with heap := h'.push { cls := .type "tuple", data := .seq its.toArray } } :=
      I1.laid (t' := s.toks) (fun b o e => Heap.get?_push_of_some _ e) (Nat.le_refl _) (show ObjOk X.prog X.w _ _ _ (.tup ys) from ⟨hz, its, r', IsTup.new _ _⟩)
    exact ⟨.ref h'.objs.size, _, I2, rfl, q _ (I1.hok.fresh (Nat.le_refl _))⟩
  · obtain ⟨its, r', pl, hz⟩ := I.tuple hq
    exact call_tuple_same pl ⟨.ref p, H, I, rfl, q⟩
/-- the value is of that builtin type -/
def tyV (K : PySem.W.Frag) (T : String) (x : V) (H : Hp) : Prop := match x with
  | .str _ => T = "str"
  | .int _ => T = "int"
  | .ref p => (T = "list" ∧ ∃ xs, SqL K H p xs) ∨ (T = "tuple" ∧ ∃ o, K.lookup p = some o ∧ o.cls = .type "tuple" ∧ o.dict = none) ∨
      (T = "dict" ∧ ((∃ kvs, H p = some (.dK kvs)) ∨ ∃ kvs, H p = some (.dT kvs))) ∨ (T = "set" ∧ ∃ S n, H p = some (.set S n))
  | _ => False
theorem tyV_is {pins : List (Addr × Obj)} {σ : St} {H : Hp} {s : Shared} {T : String} {x : V} {v : Value} (I : Inv X pins σ H s) (r : RelV x v) (ty : tyV X.K T x H) :
    s.TypeIs v T ∧ ∀ a, v = .ref a → ∃ ob, s.heap.get? a = some ob ∧ ob.dict = none := by
  cases x with
  | str z =>
    obtain ⟨t, rfl⟩ := r
    cases (show T = "str" from ty)
    exact ⟨typeIs_str s z t, fun _ e => nomatch e⟩
  | int i =>
    obtain ⟨t, rfl⟩ := r
    cases (show T = "int" from ty)
    exact ⟨typeIs_int s i t, fun _ e => nomatch e⟩
  | ref p =>
    cases r
    rcases ty with ⟨rfl, xs, hq⟩ | ⟨rfl, o, hk, hc, hd⟩ | ⟨rfl, hk⟩ | ⟨rfl, S, n, hk⟩
    · obtain ⟨its, _, pl, _⟩ := I.list hq
      refine ⟨pl.isList.typeIs, fun a e => ?_⟩
      cases e
      obtain ⟨o, n, e, c, hd, _⟩ := pl
      exact ⟨o, e, hd⟩
    · refine ⟨⟨o, I.kIn p o hk, hc⟩, fun a e => ?_⟩
      cases e
      exact ⟨o, I.kIn _ o hk, hd⟩
    · have z : ∃ o, s.heap.get? p = some o ∧ o.ExactDict := by
        rcases hk with ⟨kvs, hk⟩ | ⟨kvs, hk⟩
        · obtain ⟨_, _, _, _, o, _, _, e, ex, _⟩ := I.hok p _ hk
          exact ⟨o, e, ex⟩
        · obtain ⟨_, _, _, _, o, _, _, e, ex, _⟩ := I.hok p _ hk
          exact ⟨o, e, ex⟩
      obtain ⟨o, e, ex⟩ := z
      refine ⟨⟨o, e, ex.1⟩, fun a e2 => ?_⟩
      cases e2
      exact ⟨o, e, ex.2.1⟩
    · obtain ⟨o, _, _, _, e, ex, _⟩ := I.hok p _ hk
      refine ⟨⟨o, e, ex.1⟩, fun a e2 => ?_⟩
      cases e2
      exact ⟨o, e, ex.2.1⟩
  | _ => exact False.elim ty
def tBM0 (K : PySem.W.Frag) (T : String) (r : V → List V → Hp → VK → Prop) (to : TE) : TE := fun σ H Q => to σ H fun x H1 => tyV K T x H1 ∧ r x [] H1 Q
def tBM (K : PySem.W.Frag) (T : String) (r : V → List V → Hp → VK → Prop) (to : TE) (t : TA) : TE := fun σ H Q => to σ H fun x H1 => tyV K T x H1 ∧ t σ H1 fun xs H2 => r x xs H2 Q
variable {o e : Expr} {es : List Expr} {to : TE} {t : TA} {name : Str} {apos cpos : Pos} {T id : String} {r : V → List V → Hp → VK → Prop}
theorem pe_bm (pa : PlainAttrs T) (slot : Slot T name id) (hty : typeOf (.builtin id) = pure (.type "method_descriptor")) (hm : MtR X id r) (ho : PE X o to) (ha : PA X (e :: es) t)
    (hbase : attributeBase o name X.env (eval o X.env) = eval o X.env := by rfl)
    (hfew : ((backTo cpos (starEach (e :: es) X.env)).all (fun x => !x.1) && (backToKw cpos (keywordEach [] X.env)).all (fun x => x.1.isSome)
      && decide ((e :: es).length + ([] : List Keyword).length + (if ([] : List Keyword).isEmpty then 0 else 1) < 30)) = true := by rfl)
    (hline : (apos.endLine == cpos.line) = true := by rfl) (hs : starEach (e :: es) X.env = (false, eval e X.env) :: starEach es X.env := by rfl) (hplain : (backTo cpos (starEach es X.env)).any (·.1) = false := by rfl) :
    PE X (.Call (.Attribute o name apos) (e :: es) [] cpos) (tBM X.K T r to t) := by
  intro pins s σ H Q I h
  refine wpAny_Call_method_late hbase hfew hline rfl (thn (ho pins s σ H _ I h) fun v s1 ⟨x, H1, I1, r1, ty, q1⟩ => ?_)
  obtain ⟨h1, h2⟩ := tyV_is I1 r1 ty
  refine ⟨T, id, pa, slot, hty, h1, h2, ?_⟩
  have hA := ha cpos pins s1 σ H1 _ I1 q1
  rw [hs] at hA ⊢
  refine Calls.callWith_builtin (by show (false || (backTo cpos (starEach es X.env)).any (·.1)) = false; rw [hplain] <;> rfl) (Calls.evalArgs_plain ?_)
  exact thn hA fun us s2 ⟨vs, H2, I2, r2, q2⟩ => hm pins s2 σ H2 x vs v us Q I2 r1 r2 q2
/- xs.append(e), list.index on a module's tuple .. are MtR facts of 06m -/
end
end L2
namespace L2
open PySem PySem.Spec PyProof.Rows
def MtM (X : Cx) (id : String) (r : V → List V → Hp → VK → Prop) : Prop :=
  ∀ (pins : List (Addr × Obj)) (s : Shared) (σ : St) (H : Hp) (x : V) (xs : List V) (v : Value) (us : List Value) (Q : VK), Inv X pins σ H s → RelV x v → Vals xs us → r x xs H Q →
    wpAny (model X.prog X.w) X.A (call (.builtin id) (v :: us)) (EP X pins σ Q) X.xe s
theorem Vals.one : ∀ {x : V} {us : List Value}, Vals [x] us → ∃ u, us = [u] ∧ RelV x u
  | _, _, .cons r .nil => ⟨_, rfl, r⟩
theorem Vals.rep {xs : List V} {us : List Value} (h : Vals xs us) : ∀ k : Nat, Vals (List.replicate k xs).flatten (List.replicate k us).flatten
  | 0 => .nil
  | k + 1 => by
    rw [List.replicate_succ, List.replicate_succ, List.flatten_cons, List.flatten_cons]
    exact Vals.append h (Vals.rep h k)
theorem foldl_rep (its : List Value) : ∀ (k : Nat) (acc : List Value),
    List.foldl (fun x1 x2 => x1 ++ x2) acc.toArray (List.replicate k its.toArray) = (acc ++ (List.replicate k its).flatten).toArray
  | 0, acc => by simp
  | k + 1, acc => by
    have e : acc.toArray ++ its.toArray = (acc ++ its).toArray := by simp
    have e2 : (acc ++ its) ++ (List.replicate k its).flatten = acc ++ (List.replicate (k + 1) its).flatten := by
      rw [List.replicate_succ, List.flatten_cons, List.append_assoc]
    rw [← e2, ← foldl_rep its k (acc ++ its), ← e, List.replicate_succ, List.foldl_cons]
section
variable {X : Cx} {pins : List (Addr × Obj)} {σ : St} {H : Hp} {s : Shared} {l b : Addr} {xs ys zs : List V}
theorem Inv.lset {its its' : List Value} {n : Nat} {f : Array Value → Array Value} {t' : Nat} (I : Inv X pins σ H s) (hH : H l = some (.lst xs))
    (e : s.heap.get? l = some { cls := .type "list", data := .seq its.toArray n }) (hf : f its.toArray = its'.toArray) (hv : Vals ys its') (hz : ys.length ≤ sizeLine) :
    Inv X pins σ (upd H l (.lst ys)) { s with heap := s.heap.update l (Obj.mapSeq f), toks := t' } := by
  have q := PySem.IsL.update e f
  rw [hf] at q
  refine I.write (x := l) (e := l) (by rw [hH]; exact trivial) (.inl rfl) (fun b' u hb hu => (Heap.get?_update_other s.heap (Obj.mapSeq f) (Ne.symm hb)).trans hu) ⟨_, q⟩ ?_
  exact ⟨hz, its', _, hv, q⟩
theorem Inv.lnew {its : List Value} {t' : Nat} (I : Inv X pins σ H s) (hv : Vals ys its) (hz : ys.length ≤ sizeLine) :
    Inv X pins σ (upd H s.heap.objs.size (.lst ys)) { s with heap := s.heap.push { cls := .type "list", data := .seq its.toArray }, toks := t' } :=
  I.laid (fun _ _ q => Heap.get?_push_of_some _ q) (Nat.le_refl _) ⟨hz, its, 0, hv, Heap.get?_push_size _ rfl⟩
theorem Inv.fresh (I : Inv X pins σ H s) : H s.heap.objs.size = none := I.hok.fresh (Nat.le_refl _)
theorem Inv.lstM (I : Inv X pins σ H s) (hH : H l = some (.lst xs)) : xs.length ≤ sizeLine ∧ ∃ (its : List Value) (n : Nat), Vals xs its ∧ xs.length = its.length ∧ s.heap.get? l = some { cls := .type "list", data := .seq its.toArray n } := by
  obtain ⟨z, its, n, r, e⟩ := I.hok l _ hH
  exact ⟨z, its, n, r, r.length, e⟩
theorem notLongL {n : Nat} (h : n ≤ sizeLine) : Builtin.List.listTooLong n = false := by
  unfold Builtin.List.listTooLong
  exact decide_eq_false (by omega)
end
section
variable {X : Cx}
def rAppend : V → List V → Hp → VK → Prop := fun x vs H Q => ∃ l xs y, x = .ref l ∧ vs = [y] ∧ H l = some (.lst xs) ∧ xs.length < sizeLine ∧ Q .non (upd H l (.lst (xs ++ [y])))
theorem mt_append : MtM X "list.append" rAppend := by
  intro pins s σ H x vs v us Q I rx rv h
  obtain ⟨l, xs, y, rfl, rfl, hH, hz, q⟩ := h
  cases rx
  obtain ⟨u, rfl, ru⟩ := rv.one
  obtain ⟨z, its, n, r, hl, e⟩ := I.lstM hH
  refine call_meets F.slot_list_append ⟨_, e, rfl⟩ F.entry_list_append (F.args_list_append_2 _ _) (PySem.list_append l its.toArray n u (by rw [List.size_toArray]; omega)) ⟨e, ?_⟩
  refine ⟨.non, _, I.lset (its' := its ++ [u]) hH e (by simp) (r.append (.cons ru .nil)) ?_, rfl, q⟩
  rw [List.length_append, List.length_singleton]
  omega
def rExtend : V → List V → Hp → VK → Prop := fun x vs H Q => ∃ l b xs zs, x = .ref l ∧ vs = [.ref b] ∧ H l = some (.lst xs) ∧ H b = some (.lst zs) ∧ xs.length + zs.length ≤ sizeLine ∧ Q .non (upd H l (.lst (xs ++ zs)))
theorem mt_extend : MtM X "list.extend" rExtend := by
  intro pins s σ H x vs v us Q I rx rv h
  obtain ⟨l, b, xs, zs, rfl, rfl, hH, hB, hz, q⟩ := h
  cases rx
  obtain ⟨u, rfl, ru⟩ := rv.one
  cases ru
  obtain ⟨z, its, n, r, hl, e⟩ := I.lstM hH
  obtain ⟨z2, its2, n2, r2, hl2, e2⟩ := I.lstM hB
  have hsz : its.toArray.size + its2.toArray.size ≤ sizeLine := by rw [List.size_toArray, List.size_toArray]; omega
  have hlong : ¬ (!its.toArray.isEmpty && Builtin.List.listTooLong (its.toArray.size + its2.toArray.size)) = true := by
    rw [notLongL hsz, Bool.and_false]
    exact Bool.false_ne_true
  refine call_meets F.slot_list_extend ⟨_, e, rfl⟩ F.entry_list_extend (F.args_list_extend_2 _ _)
    (AutoSeq1.list_extend_list_list_0 l its.toArray n b its2.toArray n2 hlong (by rw [List.size_toArray]; omega) (by omega)) ⟨e, e2, ?_⟩
  refine ⟨.non, _, I.lset (its' := its ++ its2) hH e (by simp) (r.append r2) ?_, rfl, q⟩
  rw [List.length_append]
  omega
def rCat : R2 := fun x y H Q => ∃ l b xs zs, x = .ref l ∧ y = .ref b ∧ H l = some (.lst xs) ∧ H b = some (.lst zs) ∧ xs.length + zs.length ≤ sizeLine ∧ ∀ p, H p = none → Q (.ref p) (upd H p (.lst (xs ++ zs)))
theorem op_cat : OpR X (binaryOp .Add) rCat := by
  intro pins s σ H x y v u Q I rx ry h
  obtain ⟨l, b, xs, zs, rfl, rfl, hH, hB, hz, q⟩ := h
  cases rx
  cases ry
  obtain ⟨z, its, n, r, hl, e⟩ := I.lstM hH
  obtain ⟨z2, its2, n2, r2, hl2, e2⟩ := I.lstM hB
  refine PySem.P.add_list e e2 ?_ (by rw [List.size_toArray, List.size_toArray]; omega)
  have ea : its.toArray ++ its2.toArray = (its ++ its2).toArray := by simp
  rw [ea]
  exact ⟨.ref _, _, I.lnew (t' := s.toks) (r.append r2) (by rw [List.length_append]; omega), rfl, q _ I.fresh⟩
/-- a list times an int (a negative one is nothing) -/
def rRep : R2 := fun x y H Q => ∃ l k xs, x = .ref l ∧ y = .int k ∧ H l = some (.lst xs) ∧ -(2 ^ 63) ≤ k ∧ k < 2 ^ 63 ∧ xs.length * k.toNat ≤ sizeLine ∧
  ∀ p, H p = none → Q (.ref p) (upd H p (.lst (List.replicate k.toNat xs).flatten))
theorem len_rep {α : Type} (xs : List α) (k : Nat) : (List.replicate k xs).flatten.length = k * xs.length := by
  induction k with
  | zero => simp
  | succ k ih => rw [List.replicate_succ, List.flatten_cons, List.length_append, ih, Nat.succ_mul, Nat.add_comm]
theorem op_rep : OpR X (binaryOp .Mult) rRep := by
  intro pins s σ H x y v u Q I rx ry h
  obtain ⟨l, k, xs, rfl, rfl, hH, h1, h2, hz, q⟩ := h
  cases rx
  obtain ⟨t, rfl⟩ := ry
  obtain ⟨z, its, n, r, hl, e⟩ := I.lstM hH
  have hlen : its.toArray.size * k.toNat ≤ sizeLine := by rw [List.size_toArray, ← hl]; exact hz
  have hcap : ¬ its.toArray.size * k.toNat > (2 ^ 63 - 1) / 8 := by
    have : (sizeLine : Nat) ≤ (2 ^ 63 - 1) / 8 := by decide
    omega
  have hfit : ¬ (!Builtin.List.listFitsIndex k) = true := by
    rw [fitsIndex_both h1 h2]
    exact Bool.false_ne_true
  have hlong : ¬ Builtin.List.listTooLong (its.toArray.size * k.toNat) = true := by
    rw [notLongL hlen]
    exact Bool.false_ne_true
  have hnew : List.foldl (fun x1 x2 => x1 ++ x2) #[] (List.replicate (if its.toArray.isEmpty = true then 0 else k.toNat) its.toArray) = (List.replicate k.toNat its).flatten.toArray := by
    have f0 : ∀ m : Nat, List.foldl (fun x1 x2 => x1 ++ x2) #[] (List.replicate m its.toArray) = (List.replicate m its).flatten.toArray := fun m => by
      have := foldl_rep its m []
      rw [List.nil_append] at this
      exact this
    rw [f0]
    cases its with
    | nil => simp
    | cons a r' => rw [if_neg (by simp)]
  refine wpAny_binaryOp_repeat_ref (T := "list") (U := "int") (by decide) ⟨_, e, rfl⟩ (fun s' => typeIs_int s' k t) noFill_list_mul F.fills_int_mul F.slot_int_rmul repeat_list F.slot_int_index.lookup
    (call_meets F.slot_int_rmul (typeIs_int s k t) F.entry_int_rmul (F.args_int_rmul_2 _ _) (int___rmul___int_list k t l its.toArray n)
      ⟨e, rfl, ⟨_, e, rfl⟩, call_meets F.slot_list_mul ⟨_, e, rfl⟩ F.entry_list_mul (F.args_list_mul_2 _ _) (AutoListH.list___mul___list_int_3 l its.toArray n k t hfit hcap hlong) ⟨e, ?_⟩⟩)
  rw [hnew]
  exact ⟨.ref _, _, I.lnew (t' := s.toks) (r.rep k.toNat) (by rw [len_rep, Nat.mul_comm]; exact hz), rfl, q _ I.fresh⟩
end
section
variable {prog : Program} {w : World} {A : Around} {E : Value → Shared → Prop} {s : Shared}
set_option maxRecDepth 100000 in
end
section
variable {X : Cx}
end
end L2
namespace L2
open PySem PySem.Spec PyProof.Rows
section
variable {κ : Type} [DecidableEq κ]
def valV (kvs : List (κ × V)) (k : κ) : Option V := (kvs.find? fun kv => decide (kv.1 = k)).map (·.2)
/-- in its place, or at the end -/
def putK (kvs : List (κ × V)) (k : κ) (v : V) : List (κ × V) :=
  if (kvs.any fun kv => decide (kv.1 = k)) = true then kvs.map (fun kv => if kv.1 = k then (kv.1, v) else kv) else kvs ++ [(k, v)]
theorem valV_pos {p : κ × V} {r : List (κ × V)} {k : κ} (e : p.1 = k) : valV (p :: r) k = some p.2 := by simp [valV, List.find?_cons, e]
theorem valV_neg {p : κ × V} {r : List (κ × V)} {k : κ} (e : ¬ p.1 = k) : valV (p :: r) k = valV r k := by simp [valV, List.find?_cons, e]
theorem valV_any (k : κ) : ∀ kvs : List (κ × V), (kvs.any fun kv => decide (kv.1 = k)) = (valV kvs k).isSome
  | [] => rfl
  | p :: r => by
    rw [List.any_cons]
    by_cases e : p.1 = k
    · simp only [valV_pos e, decide_eq_true e, Bool.true_or, Option.isSome_some]
    · rw [valV_neg e, decide_eq_false e, Bool.false_or]; exact valV_any k r
theorem length_putK (kvs : List (κ × V)) (k : κ) (v : V) : (putK kvs k v).length ≤ kvs.length + 1 := by
  unfold putK
  split
  · rw [List.length_map]; omega
  · rw [List.length_append, List.length_cons, List.length_nil]; omega
theorem putK_new {kvs : List (κ × V)} {k : κ} (v : V) (h : valV kvs k = none) : putK kvs k v = kvs ++ [(k, v)] := by
  unfold putK
  rw [valV_any, h]
  exact if_neg (by decide)
theorem RelO.isSome_eq {o : Option V} {u : Option Value} (r : RelO o u) : o.isSome = u.isSome := by
  cases o with
  | none => cases u with
    | none => rfl
    | some _ => exact (show False from r).elim
  | some _ => cases u with
    | none => exact (show False from r).elim
    | some _ => rfl
/-- raw tables of the same keys -/
theorem KV.val {kvs : List (κ × V)} {vs : List (κ × Value)} (r : KV kvs vs) (k : κ) : RelO (valV kvs k) (valueAt vs k) := by
  unfold KV at r
  induction r with
  | nil => exact True.intro
  | @cons p q ps qs h t ih =>
    obtain ⟨h1, h2⟩ := h
    by_cases e : p.1 = k
    · have e' : q.1 = k := h1.symm.trans e
      have b : valueAt (q :: qs) k = some q.2 := by simp [valueAt, List.find?_cons, e']
      rw [valV_pos e, b]; exact h2
    · have e' : ¬ q.1 = k := fun z => e (h1.trans z)
      have b : valueAt (q :: qs) k = valueAt qs k := by simp [valueAt, List.find?_cons, e']
      rw [valV_neg e, b]; exact ih
theorem KV.any {kvs : List (κ × V)} {vs : List (κ × Value)} (r : KV kvs vs) (k : κ) : (kvs.any fun kv => decide (kv.1 = k)) = vs.any fun kv => decide (kv.1 = k) := by
  unfold KV at r
  induction r with
  | nil => rfl
  | cons h t ih => rw [List.any_cons, List.any_cons, ih, h.1]
theorem KV.repl {kvs : List (κ × V)} {vs : List (κ × Value)} (r : KV kvs vs) (k : κ) {y : V} {u : Value} (ry : RelV y u) :
    KV (kvs.map fun kv => if kv.1 = k then (kv.1, y) else kv) (vs.map fun kv => if kv.1 = k then (kv.1, u) else kv) := by
  unfold KV at r ⊢
  induction r with
  | nil => exact .nil
  | @cons p q ps qs h t ih =>
    rw [List.map_cons, List.map_cons]
    refine .cons ?_ ih
    obtain ⟨h1, h2⟩ := h
    by_cases e : p.1 = k
    · rw [if_pos e, if_pos (h1.symm.trans e)]; exact ⟨h1, ry⟩
    · rw [if_neg e, if_neg (fun z => e (h1.trans z))]; exact ⟨h1, h2⟩
theorem KV.put {kvs : List (κ × V)} {vs : List (κ × Value)} (r : KV kvs vs) (k : κ) {y : V} {u : Value} (ry : RelV y u) : KV (putK kvs k y) (stored vs k u) := by
  unfold putK stored
  rw [r.any k]
  by_cases e : (vs.any fun kv => decide (kv.1 = k)) = true
  · rw [if_pos e, if_pos e]; exact r.repl k ry
  · rw [if_neg e, if_neg e]; exact Paired.snoc r ⟨rfl, ry⟩
theorem KV.length {kvs : List (κ × V)} {vs : List (κ × Value)} (r : KV kvs vs) : kvs.length = vs.length := Paired.length r
end
theorem kV_is {P : Program} {w : World} {k : Key} {u : Value} (r : RelV (kV k) u) : (mixKind P w).is k u = true := by
  cases k with
  | inl i => obtain ⟨t, e⟩ := (show ∃ t, u = Value.int i t from r); subst e; exact mixKind_int P w i t
  | inr x => obtain ⟨t, e⟩ := (show ∃ t, u = Value.str x t from r); subst e; exact mixKind_str P w x t
theorem items_are {P : Program} {w : World} : ∀ {ks : List Key} {us : List Value}, Vals (ks.map kV) us → ItemsAre (mixKind P w) ks us
  | [], _, r => by rw [List.map_nil] at r; cases r; exact .nil
  | k :: ks, _, r => by
    rw [List.map_cons] at r
    cases r with
    | cons h t => exact .cons (kV_is h) (items_are t)
/-- raw entries of a dict with tuple keys -/
abbrev KT (H : Hp) : List (List Key × V) → List (List Key × Addr × Value) → Prop := Paired fun p q => p.1 = q.1 ∧ H q.2.1 = some (.tup (p.1.map kV)) ∧ RelV p.2 q.2.2
theorem KT.val {H : Hp} {kvs : List (List Key × V)} {xs : List (List Key × Addr × Value)} (r : KT H kvs xs) (k : List Key) : RelO (valV kvs k) ((atKey xs k).map (·.2)) := by
  induction r with
  | nil => exact True.intro
  | @cons p q ps qs h t ih =>
    obtain ⟨h1, _, h2⟩ := h
    by_cases e : p.1 = k
    · have e' : q.1 = k := h1.symm.trans e
      have b : atKey (q :: qs) k = some q.2 := by simp [atKey, List.find?_cons, e']
      rw [valV_pos e, b]; exact h2
    · have e' : ¬ q.1 = k := fun z => e (h1.trans z)
      have b : atKey (q :: qs) k = atKey qs k := by simp [atKey, List.find?_cons, e']
      rw [valV_neg e, b]; exact ih
theorem KT.repl {H : Hp} {kvs : List (List Key × V)} {xs : List (List Key × Addr × Value)} (r : KT H kvs xs) (k : List Key) {y : V} {u : Value} (ry : RelV y u) :
    KT H (kvs.map fun kv => if kv.1 = k then (kv.1, y) else kv) (xs.map (putAt k u)) := by
  induction r with
  | nil => exact .nil
  | @cons p q ps qs h t ih =>
    rw [List.map_cons, List.map_cons]
    refine .cons ?_ ih
    obtain ⟨h1, h2, h3⟩ := h
    unfold putAt
    by_cases e : p.1 = k
    · rw [if_pos e, if_pos (h1.symm.trans e)]; exact ⟨h1, h2, ry⟩
    · rw [if_neg e, if_neg (fun z => e (h1.trans z))]; exact ⟨h1, h2, h3⟩
theorem KT.put {H : Hp} {kvs : List (List Key × V)} {xs : List (List Key × Addr × Value)} (r : KT H kvs xs) (k : List Key) {b : Addr} {y : V} {u : Value} (hb : H b = some (.tup (k.map kV))) (ry : RelV y u) :
    KT H (putK kvs k y) (storedH xs k b u) := by
  have e : (kvs.any fun kv => decide (kv.1 = k)) = (atKey xs k).isSome := by
    rw [valV_any, (r.val k).isSome_eq, Option.isSome_map]
  unfold putK storedH
  rw [e]
  by_cases q : (atKey xs k).isSome = true
  · rw [if_pos q, if_pos q]; exact r.repl k ry
  · rw [if_neg q, if_neg q]; exact Paired.snoc r ⟨rfl, hb, ry⟩
theorem KT.keeps {H H' : Hp} {kvs : List (List Key × V)} {xs : List (List Key × Addr × Value)} (r : KT H kvs xs) (ht : ∀ b ys, H b = some (.tup ys) → H' b = some (.tup ys)) : KT H' kvs xs :=
  Paired.mapP r fun _ _ z => ⟨z.1, ht _ _ z.2.1, z.2.2⟩
section
variable {P : Program} {w : World} {H : Hp} {h : Heap} {a : Addr}
theorem rd_of {u : HO} (ok : HOk P w H h) (e : Rd H a u) : ObjOk P w H h a u := e.ok ok
theorem dk_rd {kvs : List (Key × V)} (ok : HOk P w H h) (e : Rd H a (.dK kvs)) : kvs.length ≤ sizeLine ∧ (a == sysModules) = false ∧ ∃ vs, KV kvs vs ∧ h.DictOf (mixKind P w) a vs :=
  show ObjOk P w H h a (.dK kvs) from rd_of ok e
theorem dk_of {kvs : List (Key × V)} (ok : HOk P w H h) (e : H a = some (.dK kvs)) : kvs.length ≤ sizeLine ∧ (a == sysModules) = false ∧ ∃ vs, KV kvs vs ∧ h.DictOf (mixKind P w) a vs := dk_rd ok (.inl e)
/-- a tracked tuple of ints and texts is a key -/
theorem key_of {ks : List Key} (ok : HOk P w H h) (e : H a = some (.tup (ks.map kV))) : (tupleKind (mixKind P w)).is h ks a := by
  obtain ⟨_, its, r, o, h1, h2, n, h3⟩ := (show ObjOk P w H h a (.tup (ks.map kV)) from ok a _ e)
  exact ⟨o, its.toArray, n, h1, h2, h3, by simpa using items_are r⟩
theorem dt_rd {kvs : List (List Key × V)} (ok : HOk P w H h) (e : Rd H a (.dT kvs)) : kvs.length ≤ sizeLine ∧ (a == sysModules) = false ∧
    ∃ xs, KT H kvs xs ∧ h.DictOfH (tupleKind (mixKind P w)) a xs := by
  obtain ⟨z, y, xs, r, o, es, ep, h1, h2, h3, h4, h5⟩ := (show ObjOk P w H h a (.dT kvs) from rd_of ok e)
  refine ⟨z, y, xs, r, o, es, ep, h1, h2, h3, h4, fun x hx => ?_, h5⟩
  have all : ∀ {l : List (List Key × V)} {m : List (List Key × Addr × Value)}, KT H l m → ∀ x ∈ m, (tupleKind (mixKind P w)).is h x.1 x.2.1 := by
    intro l m q
    induction q with
    | nil => intro x hx; exact nomatch hx
    | @cons p q ps qs hq t ih =>
      intro x hx
      rcases List.mem_cons.mp hx with e | hx
      · subst e
        exact key_of ok (by rw [← hq.1]; exact hq.2.1)
      · exact ih x hx
  exact all r x hx
theorem dt_of {kvs : List (List Key × V)} (ok : HOk P w H h) (e : H a = some (.dT kvs)) : kvs.length ≤ sizeLine ∧ (a == sysModules) = false ∧
    ∃ xs, KT H kvs xs ∧ h.DictOfH (tupleKind (mixKind P w)) a xs := dt_rd ok (.inl e)
end
/-- what the dict at a holds at the key y -/
def DGet (H : Hp) (a : Addr) (y : V) (r : Option V) : Prop :=
  (∃ kvs k, Rd H a (.dK kvs) ∧ y = kV k ∧ r = valV kvs k) ∨ ∃ kvs k b, Rd H a (.dT kvs) ∧ y = .ref b ∧ H b = some (.tup (k.map kV)) ∧ r = valV kvs k
/-- the heap behind a[y] = v -/
def DPut (H : Hp) (a : Addr) (y v : V) (H' : Hp) : Prop :=
  (∃ kvs k, H a = some (.dK kvs) ∧ y = kV k ∧ kvs.length < sizeLine ∧ H' = upd H a (.dK (putK kvs k v))) ∨
  ∃ kvs k b, H a = some (.dT kvs) ∧ y = .ref b ∧ H b = some (.tup (k.map kV)) ∧ kvs.length < sizeLine ∧ H' = upd H a (.dT (putK kvs k v))
theorem DPut.k {H : Hp} {a : Addr} {kvs : List (Key × V)} {k : Key} {v : V} (e : H a = some (.dK kvs)) (hl : kvs.length < sizeLine) : DPut H a (kV k) v (upd H a (.dK (putK kvs k v))) := .inl ⟨kvs, k, e, rfl, hl, rfl⟩
section
variable {X : Cx} {pins : List (Addr × Obj)} {σ : St} {H : Hp} {s : Shared} {a : Addr} {y v : V} {u r : Value} {o : Option V} {A : Around} {E : Value → Shared → Prop}
theorem Inv.big (I : Inv X pins σ H s) : sysModules < s.heap.objs.size := by
  have h : mainGlobals < s.heap.objs.size := (I.mod.glob.keeps I.bk).lt
  exact Nat.lt_trans (by decide) h
/-- d[y], there -/
theorem d_getItem {Q : Value → Shared → Prop} (hu : A.units + 1 < cLine) (I : Inv X pins σ H s) (g : DGet H a y (some v)) (ry : RelV y u) (h : ∀ w' s', Inv X pins σ H s' → RelV v w' → Q w' s') :
    wpAny (model X.prog X.w) A (getItem (.ref a) u) Q E s := by
  rcases g with ⟨kvs, k, e, ey, l⟩ | ⟨kvs, k, b, e, ey, eb, l⟩
  · subst ey
    obtain ⟨z, hd, vs, rel, dd⟩ := dk_rd I.hok e
    obtain ⟨w', hw, rw'⟩ := RelO.some_of (v := v) (o := valueAt vs k) (by rw [l]; exact rel.val k)
    exact wpAny_getItem_of (kV_is ry) dd.mapOf hw (h w' _ (I.tok _) rw')
  · subst ey
    cases (show u = Value.ref b from ry)
    obtain ⟨z, hd, xs, rel, dd⟩ := dt_rd I.hok e
    obtain ⟨w', hw, rw'⟩ := RelO.some_of (v := v) (o := (atKey xs k).map (·.2)) (by rw [l]; exact rel.val k)
    obtain ⟨p, hp, hp2⟩ := Option.map_eq_some_iff.mp hw
    refine wpAny_getItem_heap (tupleKind_room_in1 hu) (key_of I.hok eb) dd hp ?_
    rw [hp2]
    exact h w' _ (I.tok _) rw'
/-- a dict's object is replaced -/
theorem d_write {h' : Heap} {t' : Nat} {ob : HO} (I : Inv X pins σ H s) (mu : Mut (H a)) (hs : Heap.SameBut a s.heap h') (he : ∃ q, h'.get? a = some q) (new : ObjOk X.prog X.w (upd H a ob) h' a ob) :
    Inv X pins σ (upd H a ob) { s with heap := h', toks := t' } :=
  I.write (x := a) (e := a) mu (.inl rfl) (fun b q hb z => (hs.2 b hb).trans z) he new
theorem dk_new {P : Program} {w : World} {H' : Hp} {h' : Heap} {kvs : List (Key × V)} {vs : List (Key × Value)} (z : kvs.length ≤ sizeLine) (hd : (a == sysModules) = false) (rel : KV kvs vs) (dd : h'.DictOf (mixKind P w) a vs) :
    ObjOk P w H' h' a (.dK kvs) := ⟨z, hd, vs, rel, dd⟩
/-- d[y] = v -/
theorem d_setItem {H' : Hp} {Q : Unit → Shared → Prop} (hu : A.units + 1 < cLine) (I : Inv X pins σ H s) (g : DPut H a y v H') (ry : RelV y u) (rv : RelV v r) (h : ∀ s', Inv X pins σ H' s' → Q () s') :
    wpAny (model X.prog X.w) A (setItem (.ref a) u r) Q E s := by
  rcases g with ⟨kvs, k, e, ey, l, eH⟩ | ⟨kvs, k, b, e, ey, eb, l, eH⟩
  · subst ey eH
    obtain ⟨z, hd, vs, rel, dd⟩ := dk_of I.hok e
    have hz : vs.length ≤ sizeLine := by rw [← rel.length]; exact z
    have hl : (putK kvs k v).length ≤ sizeLine := by have := length_putK kvs k v; omega
    refine wpAny_setItem_pairs (hsz := hz) (kV_is ry) dd fun h' dd' hs => h _ ?_
    have he : ∃ q, h'.get? a = some q := let ⟨q, _, _, hq, _⟩ := dd'; ⟨q, hq⟩
    exact d_write I (by rw [e]; exact True.intro) hs he (dk_new hl hd (rel.put k rv) dd')
  · subst ey eH
    cases (show u = Value.ref b from ry)
    obtain ⟨z, hd, xs, rel, dd⟩ := dt_of I.hok e
    have hz : xs.length ≤ sizeLine := by rw [← Paired.length rel]; exact z
    have hl : (putK kvs k v).length ≤ sizeLine := by have := length_putK kvs k v; omega
    refine wpAny_setItem_heap (hsz := hz) (tupleKind_room_in1 hu) (key_of I.hok eb) dd fun h' dd' hs => h _ ?_
    obtain ⟨q, es, ep, hq, h2, h3, h4, _, h5⟩ := dd'
    refine d_write I (by rw [e]; exact True.intro) hs ⟨q, hq⟩ ⟨hl, hd, _, (rel.put k eb rv).keeps fun c ys ec => ?_, q, es, ep, hq, h2, h3, h4, h5⟩
    rw [upd_ne (ne_of ec e (fun z => nomatch z))]
    exact ec
end
section
variable {X : Cx} {pins : List (Addr × Obj)} {σ : St} {H : Hp} {s : Shared} {a : Addr} {kvs : List (Key × V)} {k : Key} {u : Value} {A : Around} {E : Value → Shared → Prop}
/-- len(d) -/
theorem d_len {Q : Value → Shared → Prop} (I : Inv X pins σ H s) (e : Rd H a (.dK kvs)) (h : ∀ t s', Inv X pins σ H s' → Q (.int kvs.length t) s') : wpAny (model X.prog X.w) A (call (.builtin "len") [.ref a]) Q E s := by
  obtain ⟨z, hd, vs, rel, dd⟩ := dk_rd I.hok e
  refine call_len_dict hd dd (by rw [← rel.length]; rw [sizeLine_eq] at z; omega) ?_
  rw [← rel.length]
  exact h _ _ (I.tok _)
end
/-- the element of a subscription, not a slice -/
def NoSl (i : Expr) : Prop := ∀ ov iv, subscripted i false ov iv = operate [ov, iv] (getItem ov iv)
theorem subD_of {prog : Program} {w : World} {A : Around} {E : Value → Shared → Prop} {s : Shared} {env : Env} {value slice : Expr} {pos : Pos} {T id : String} {Q : Value → Shared → Prop}
    (hl : typeLookup (.type T) "__getitem__" = pure (some (.builtin id))) (hs : NoSl slice)
    (h : wpAny (model prog w) A (eval value env) (fun o s₁ => wpAny (model prog w) A (eval slice env) (fun i s₂ => s₂.TypeIs o T ∧ wpAny (model prog w) A (getItem o i) Q E s₂) E s₁) E s) :
    wpAny (model prog w) A (eval (.Subscript value slice pos) env) Q E s := by
  refine Subscript_ (wpAny_mono h (fun o s₁ h₁ => wpAny_mono h₁ (fun i s₂ h₂ => ?_) fun _ _ x => x) fun _ _ x => x)
  obtain ⟨hT, h₂⟩ := h₂
  unfold subscriptTail
  refine wpAny_bind ?_
  rw [getitemInPython_of_ne hT.not_modules]
  refine wpAny_bind (wpAny_specialOf hT hl ?_)
  have fin : wpAny (model prog w) A (subscripted slice false o i) (fun r s₃ => wpAny (model prog w) A (letTemporaryGo value o r >>= fun _ => pure r) Q E s₃) E s₂ := by
    rw [hs o i]
    exact wpAny_operating (wpAny_mono h₂ (fun r s₃ h₃ => wpAny_bind (wpAny_letTemporaryGo (wpAny_pure h₃))) fun _ _ x => x)
  first
    | exact wpAny_pure (wpAny_bind fin)
    | exact wpAny_bind (wpAny_pure (wpAny_bind fin))
    | exact wpAny_bind fin
theorem dict_typeIs {X : Cx} {pins : List (Addr × Obj)} {σ : St} {H : Hp} {s : Shared} {a : Addr} {y : V} {o : Option V} (I : Inv X pins σ H s) (g : DGet H a y o) : s.TypeIs (.ref a) "dict" := by
  rcases g with ⟨kvs, k, e, _, _⟩ | ⟨kvs, k, b, e, _, _, _⟩
  · obtain ⟨_, _, vs, _, dd⟩ := dk_rd I.hok e
    exact dd.typeIs
  · obtain ⟨_, _, xs, _, dd⟩ := dt_rd I.hok e
    exact dd.typeIs
/-- d[y] -/
def tDGet (td ty : TE) : TE := fun σ H Q => td σ H fun x H1 => ty σ H1 fun y H2 => ∃ a v, x = .ref a ∧ DGet H2 a y (some v) ∧ Q v H2
/-- d[y] = v -/
def sDPut (td ty tv : TE) : TS := fun D σ H => tv σ H fun v H1 => td σ H1 fun x H2 => ty σ H2 fun y H3 => ∃ a H4, x = .ref a ∧ DPut H3 a y v H4 ∧ D.nx σ H4
section
variable {X : Cx} {o i e value : Expr} {pos pos' tpos : Pos} {td ty tv : TE}
theorem pe_dget (hu : X.A.units + 1 < cLine) (ho : PE X o td) (hi : PE X i ty) (hs : NoSl i) : PE X (.Subscript o i pos) (tDGet td ty) := by
  intro pins s σ H Q I h
  refine subD_of PySem.F.slot_dict_getitem.lookup hs (thn (ho pins s σ H _ I h) fun u s1 ⟨x, H1, I1, rx, q1⟩ => thn (hi pins s1 σ H1 _ I1 q1) fun iv s2 ⟨y, H2, I2, ry, a, v, ex, g, q2⟩ => ?_)
  subst ex
  obtain rfl : u = Value.ref a := rx
  exact ⟨dict_typeIs I2 g, d_getItem hu I2 g ry fun w' s3 I3 rw' => ⟨v, H2, I3, rw', q2⟩⟩
theorem ps_dput (hu : X.A.units + 1 < cLine) (ho : PE X o td) (hi : PE X i ty) (hv : PE X value tv) (hs : swapsWith value (some (.Subscript o i pos')) pos.line X.env = pure false) :
    PS X (.Assign [.Subscript o i pos'] value pos) (sDPut td ty tv) := by
  intro pins s σ H D I h
  refine wpAny_Assign_Subscript (thn (hv pins s σ H _ I h) fun r s1 ⟨v, H1, I1, rv, q1⟩ => thn (ho pins s1 σ H1 _ I1 q1) fun u s2 ⟨x, H2, I2, rx, q2⟩ => thn (hi pins s2 σ H2 _ I2 q2) fun iv s3 ⟨y, H3, I3, ry, a, H4, ex, g, q3⟩ => ?_) hs
  subst ex
  obtain rfl : u = Value.ref a := rx
  exact d_setItem hu I3 g ry rv fun s4 I4 => ⟨σ, H4, I4, q3⟩
end
theorem dk_empty {P : Program} {w : World} {H : Hp} (h : Heap) (hb : sysModules < h.objs.size) : ObjOk P w H (h.push { cls := .type "dict", data := .dict #[] }) h.objs.size (.dK []) :=
  ⟨Nat.zero_le _, beq_eq_false_iff_ne.mpr (Ne.symm (Nat.ne_of_lt hb)), [], .nil, Heap.DictOf.new h⟩
/-- {}, to be a dict of the kind that is wanted -/
def tDNewK : TE := fun _ H Q => ∀ p, H p = none → Q (.ref p) (upd H p (.dK []))
section
variable {X : Cx} {pos : Pos}
theorem pe_dnewK : PE X (.Dict [] [] pos) tDNewK := fun pins s σ H Q I h =>
  wpAny_Dict_empty ⟨.ref s.heap.objs.size, _, I.laid (a := s.heap.objs.size) (o := .dK []) (t' := s.toks) (fun _ _ q => Heap.get?_push_of_some _ q) (Nat.le_refl _) (dk_empty s.heap I.big), rfl, h _ (I.hok.fresh (Nat.le_refl _))⟩
end
/-- the pairs of a display, from the left -/
def tPairs : List (TE × TE) → St → Hp → (List (V × V) → Hp → Prop) → Prop
  | [], _, H, Q => Q [] H
  | (tk, tv) :: r, σ, H, Q => tk σ H fun x H1 => tv σ H1 fun y H2 => tPairs r σ H2 fun ps H3 => Q ((x, y) :: ps) H3
abbrev VV : List (V × V) → List (Value × Value) → Prop := Paired fun p q => RelV p.1 q.1 ∧ RelV p.2 q.2
def PPs (X : Cx) (pos : Pos) (keys : List (Option Expr)) (values : List Expr) (trs : List (TE × TE)) : Prop :=
  ∀ (pins : List (Addr × Obj)) (s : Shared) (σ : St) (H : Hp) (Q : List (V × V) → Hp → Prop), Inv X pins σ H s → tPairs trs σ H Q →
    wpAny (model X.prog X.w) X.A (evalPairs (pairTrees keys values X.env pos)) (fun vs s' => ∃ ps H', Inv X pins σ H' s' ∧ VV ps vs ∧ Q ps H') X.xe s
theorem pps_nil {X : Cx} {pos : Pos} : PPs X pos [] [] [] := fun pins s σ H Q I h => pairTrees_nil_walk ⟨[], H, I, .nil, h⟩
theorem pps_cons {X : Cx} {pos : Pos} {k v : Expr} {ks : List (Option Expr)} {vs : List Expr} {tk tv : TE} {trs : List (TE × TE)} (hk : PE X k tk) (hv : PE X v tv) (hr : PPs X pos ks vs trs) :
    PPs X pos (some k :: ks) (v :: vs) ((tk, tv) :: trs) := fun pins s σ H Q I h =>
  pairTrees_cons_walk (thn (hk pins s σ H _ I h) fun u s1 ⟨x, H1, I1, rx, q1⟩ => thn (hv pins s1 σ H1 _ I1 q1) fun w2 s2 ⟨y, H2, I2, ry, q2⟩ =>
    thn (hr pins s2 σ H2 _ I2 q2) fun ws s3 ⟨ps, H3, I3, rel, q3⟩ => ⟨(x, y) :: ps, H3, I3, .cons ⟨rx, ry⟩ rel, q3⟩)
def mergeK (kvs more : List (Key × V)) : List (Key × V) := more.foldl (fun acc kv => putK acc kv.1 kv.2) kvs
theorem KV.merge : ∀ {more : List (Key × V)} {rs : List (Key × Value)} {kvs : List (Key × V)} {vs : List (Key × Value)}, KV more rs → KV kvs vs → KV (mergeK kvs more) (merged vs rs) := by
  intro more rs kvs vs r
  unfold KV at r
  induction r generalizing kvs vs with
  | nil => intro q; exact q
  | @cons p q ps qs h t ih =>
    intro r0
    have e : KV (putK kvs p.1 p.2) (stored vs q.1 q.2) := by
      have := r0.put p.1 h.2
      rw [← h.1]; exact this
    exact ih e
theorem length_mergeK : ∀ (more kvs : List (Key × V)), (mergeK kvs more).length ≤ kvs.length + more.length
  | [], kvs => by show kvs.length ≤ kvs.length + 0; omega
  | p :: r, kvs => by
    have h1 := length_mergeK r (putK kvs p.1 p.2)
    have h2 := length_putK kvs p.1 p.2
    show (mergeK (putK kvs p.1 p.2) r).length ≤ _
    rw [List.length_cons]; omega
theorem carries_of {P : Program} {w : World} : ∀ {kvs : List (Key × V)} {ws : List (Value × Value)}, VV (kvs.map fun kv => (kV kv.1, kv.2)) ws → ∃ rs, Carries (mixKind P w) ws rs ∧ KV kvs rs
  | [], _, r => by rw [List.map_nil] at r; cases r; exact ⟨[], True.intro, .nil⟩
  | p :: kvs, _, r => by
    rw [List.map_cons] at r
    cases r with
    | @cons a b as bs h t =>
      obtain ⟨rs, c, q⟩ := carries_of (P := P) (w := w) t
      obtain ⟨b1, b2⟩ := b
      exact ⟨(p.1, b2) :: rs, ⟨kV_is h.1, rfl, c⟩, .cons ⟨rfl, h.2⟩ q⟩
/-- {k: v, ..} with keys ints and texts; the new dict stands empty while the pairs are made -/
def tDisp (trs : List (TE × TE)) : TE := fun σ H Q => ∀ p, H p = none → tPairs trs σ (upd H p (.dK [])) fun ps H2 => H2 p = some (.dK []) ∧ ∃ kvs : List (Key × V), ps = kvs.map (fun kv => (kV kv.1, kv.2)) ∧ kvs.length ≤ 15 ∧ Q (.ref p) (upd H2 p (.dK (mergeK [] kvs)))
theorem pe_disp {X : Cx} {pos : Pos} {keys : List (Option Expr)} {values : List Expr} {trs : List (TE × TE)} (h : PPs X pos keys values trs) (hall : keys.all (·.isSome) = true) (hl : keys.length = values.length) (h0 : keys ≠ [])
    (h15 : keys.length ≤ 15) : PE X (.Dict keys values pos) (tDisp trs) := by
  intro pins s σ H Q I q
  have hn := I.hok.fresh (Nat.le_refl s.heap.objs.size)
  have I1 := I.laid (a := s.heap.objs.size) (o := .dK []) (h' := s.heap.push { cls := .type "dict", data := .dict #[] }) (t' := s.toks) (fun _ _ q => Heap.get?_push_of_some _ q) (Nat.le_refl _) (dk_empty s.heap I.big)
  refine wpAny_Dict_walk (knd := mixKind X.prog X.w) hall hl h0 h15 (thn (h pins _ σ _ _ I1 (q _ hn)) fun ws s2 ⟨ps, H2, I2, rel, e, kvs, ep, lk, q2⟩ => ?_)
  subst ep
  obtain ⟨rs, c, rk⟩ := carries_of (P := X.prog) (w := X.w) rel
  obtain ⟨z, hd, vs0, r0, dd⟩ := dk_of I2.hok e
  cases r0
  refine ⟨rs, c, dd, fun h' dd' hs => ⟨.ref s.heap.objs.size, _, ?_, rfl, q2⟩⟩
  have hz : (mergeK [] kvs).length ≤ sizeLine := by
    have h1 := length_mergeK kvs []
    rw [List.length_nil] at h1
    rw [sizeLine_eq]; omega
  have he : ∃ q, h'.get? s.heap.objs.size = some q := let ⟨q, _, _, hq, _⟩ := dd'; ⟨q, hq⟩
  exact d_write I2 (by rw [e]; exact True.intro) hs he (dk_new hz hd (rk.merge .nil) dd')
/-- a method call o.m(e) of a built-in, with one argument: what must be seen of the text -/
structure M1 (X : Cx) (o : Expr) (m : Str) (apos : Pos) (e : Expr) (cpos : Pos) : Prop where
  base : attributeBase o m X.env (eval o X.env) = eval o X.env
  few : ((backTo cpos (starEach [e] X.env)).all (fun x => !x.1) && (backToKw cpos (keywordEach [] X.env)).all (fun x => x.1.isSome)
    && decide (([e] : List Expr).length + ([] : List Keyword).length + (if ([] : List Keyword).isEmpty then 0 else 1) < 30)) = true
  line : (apos.endLine == cpos.line) = true
  trees : backTo cpos (starEach [e] X.env) = [(false, eval e X.env)]
structure M2 (X : Cx) (o : Expr) (m : Str) (apos : Pos) (e f : Expr) (cpos : Pos) : Prop where
  base : attributeBase o m X.env (eval o X.env) = eval o X.env
  few : ((backTo cpos (starEach [e, f] X.env)).all (fun x => !x.1) && (backToKw cpos (keywordEach [] X.env)).all (fun x => x.1.isSome)
    && decide (([e, f] : List Expr).length + ([] : List Keyword).length + (if ([] : List Keyword).isEmpty then 0 else 1) < 30)) = true
  line : (apos.endLine == cpos.line) = true
  trees : backTo cpos (starEach [e, f] X.env) = [(false, eval e X.env), (false, eval f X.env)]
section
variable {X : Cx} {pins : List (Addr × Obj)} {σ : St} {H : Hp} {s : Shared} {a : Addr} {y d : V} {u r : Value} {o : Option V} {A : Around} {E : Value → Shared → Prop}
end
section
variable {X : Cx} {o e f : Expr} {apos cpos : Pos} {td ty tx : TE}
end
section
variable {X : Cx} {pins : List (Addr × Obj)} {σ : St} {H : Hp} {s : Shared} {a : Addr} {kvs : List (Key × V)} {A : Around} {E : Value → Shared → Prop}
end
section
variable {X : Cx} {pins : List (Addr × Obj)} {σ : St} {H : Hp} {s : Shared} {a : Addr} {y : V} {u : Value} {A : Around} {E : Value → Shared → Prop}
end
end L2
namespace Att
open PySem PySem.W PySem.Calls PyProof.Rows
theorem ints_of_wellAll {P : Params} {h : Heap} : ∀ (ns : List Int) (vs : List Value), WellAll P h vs (ns.map WData.int) → IntsAre vs ns := by
  intro ns
  induction ns with
  | nil =>
    intro vs w
    rw [List.map_nil] at w
    cases w
    exact .nil
  | cons n ns ih =>
    intro vs w
    rw [List.map_cons] at w
    cases w with
    | cons a b =>
      cases a
      exact .cons _ _ (ih _ b)
theorem script_of {l : OpenLaw} {n : Nat} (hn : l.most = some n) {P : Params} {h : Heap} {args : List WData} {vals : List Value}
    (hpre : l.row.toRowW.claim.pre args = true) (hwl : WellAll P h vals args) :
    ∃ a vs ns, vals = [Value.ref a] ∧ args = [WData.list (ns.map WData.int)] ∧ h.get? a = some { cls := .type "list", data := .seq vs.toArray } ∧ IntsAre vs ns ∧ ns.length ≤ n := by
  have hsh : WShape.hasAll [] args [.list .int] = true := (pre_splitW hpre).1
  have hc : l.pre.holds [] { args := args } = true := (pre_splitW hpre).2
  obtain ⟨d, r, rfl, h1, h2⟩ := hasAllW_cons hsh
  obtain rfl := hasAllW_nil h2
  obtain ⟨xs, rfl, h3⟩ := hasW_list h1
  obtain ⟨ns, rfl⟩ := items_int h3
  have hlen : ns.length ≤ n := by
    unfold OpenLaw.pre at hc
    have h4 : (WTm.not (.lt (.lit (.int (n : Int))) (.len (.arg 0)))).holds [] { args := [.list (ns.map .int)] } = true := by
      have h4 := (holds_andW hc).1
      rw [hn] at h4
      exact h4
    have h5 := condW_of h4 (w_not (w_lt w_lit (w_len_list (w_arg rfl))))
    rw [List.length_map] at h5
    refine Nat.le_of_not_lt fun q => ?_
    have q' : (n : Int) < ((ns.length : Nat) : Int) := by omega
    first
      | (rw [decide_eq_true q'] at h5; exact absurd h5 (by decide))
      | (simp at h5; omega)
  cases hwl with
  | cons w1 w2 =>
    cases w2
    cases w1 with
    | list ho hall => exact ⟨_, _, ns, rfl, rfl, ho, ints_of_wellAll ns _ hall, hlen⟩
theorem post_true (l : OpenLaw) (args : List WData) : l.row.toRowW.claim.post args (.bool true) args = true :=
  postW_of (r := l.row.toRowW) (X := (true == true))
    (show WShape.has [] (.bool true) .bool = true by first | rfl | decide | simp [WShape.has, WShape.arms, WShape.armsAll])
    (show (WTm.eq .res (.lit (.bool true))).value [] { args := args, res := some (.bool true), after := args } = some (.bool (true == true)) from w_eq_bool (w_res rfl) w_lit) rfl
/-- the same from a codeAny of the CALL (for a layer whose function contracts speak of calls) -/
theorem attach_call {l : OpenLaw} {n : Nat} {q : Program} {loose : List Str} {XP : (Str → Option Value) → Heap → Prop} {YP : World → Heap → Prop} {d : DefRec}
    (hn : l.most = some n) (hdf : d.params.defaults = [])
    (call : ∀ (w : World) (s₀ s₁ : Shared) (mg mb : Str → Option Value) (fa : Addr) (o : Obj) (pm cd doc : Value) (a : Addr) (vs : List Value) (ns : List Int),
      Ground q loose [] XP w s₀ mg mb s₁.heap → YP w s₁.heap →
      s₁.heap.get? fa = some o → o.data = .func (docDef d.name d.params d.body d.scope pm cd doc) → s₁.heap.CodeRec cd d.name → mg d.name = some (.ref fa) →
      s₁.heap.get? a = some { cls := .type "list", data := .seq vs.toArray } → IntsAre vs ns → ns.length ≤ n → s₁.gens = #[] →
      codeAny (model l.prog w) callerA (.call (.ref fa) ⟨[.ref a], []⟩) (fun r s' => r = .ok (.ret (.bool true)) ∧ OldK s₁.heap s'.heap ∧ s'.os = s₁.os ∧ AllBare s'.gens) s₁) :
    WalkO q loose XP YP l.row.toRowW d [] (fun f vs => PySem.call f vs) := by
  intro w s₀ s₁ mg mb G Y fa o pm cd doc dV kV ho hd hcd hD hmg hg args vals as hpre hlay hrd hwl hlo
  obtain rfl : dV = .none := Dflts.none hD hdf
  obtain rfl : kV = .none := Dflts.noKw hD
  obtain ⟨a, vs, ns, rfl, rfl, hobj, hints, hlen⟩ := script_of hn hpre hwl
  refine enter_call (codeAny_mono (call w s₀ s₁ mg mb fa o pm cd doc a vs ns G Y ho (fd_plain hd) hcd hmg hobj hints hlen hg) fun r s' hq => ?_)
  obtain ⟨rfl, h2, h3, h4⟩ := hq
  exact ⟨.inl ⟨.bool true, .bool true, [], rfl, fun _ => rfl, .bool true, post_true l _, fun _ => ⟨List.Pairwise.nil, fun _ hm => (nomatch hm)⟩⟩, h2, h3, h4⟩
section
variable {prog : Program} {w : World} {A : Around} {E : Value → Shared → Prop} {s : Shared} {K : Frag}
def ledger (h : Heap) (L d : Addr) : List (Addr × Obj) := (List.range h.objs.size).filterMap fun a => if a = L ∨ a = d then none else (h.get? a).map fun o => (a, o)
end
end Att
namespace L2
open PySem PySem.Spec PyProof.Rows
theorem vals_ints : ∀ {vs : List Value} {ns : List Int}, IntsAre vs ns → Vals (ns.map V.int) vs
  | _, _, .nil => .nil
  | _, _, .cons n t h => .cons ⟨t, rfl⟩ (vals_ints h)
/-- nothing is tracked but the script, known to the object (or it is an object of the module) -/
def Only (H : Hp) : Prop := ∀ b, H b = none ∨ ∃ o xs, H b = some (.frz o (.lst xs))
/-- THE HEAD: the law's promise, at the heap behind the top. F, the promise of the law's def, may use that base is part of the heap (so K.In base, base.Ns mainGlobals mg stand in Mod) -/
theorem law_call {P : Program} {w : World} {K : PySem.W.Frag} {mg mb : Str → Option Value} {CX : CXT} {k : Nat} {fa a : Addr} {fd : FuncData} {x : Str} {sp : Sp} {s₁ : Shared} {vs : List Value} {ns : List Int}
    (KX : K.In s₁.heap) (hns : s₁.heap.Ns mainGlobals mg) (hb : s₁.heap.Ns builtinsNs mb) (hbb : ∀ x : Str, x ≠ "__name__" → mb x = bootBuiltins x) (hlim : s₁.heap.NoLimit) (hg : s₁.gens = #[])
    (ha : s₁.heap.get? a = some { cls := .type "list", data := .seq vs.toArray }) (hi : IntsAre vs ns) (hl : ns.length ≤ sizeLine) (hr : Room k callerA)
    (F : ∀ base : Heap, K.In base → base.Ns mainGlobals mg → FnOk P w K mg base CX k fa fd [x] sp) (hbind : ∀ (s : Shared) (u : Value), BindsTo s fd ⟨[u], []⟩ [(x, u)])
    (hsp : ∀ H : Hp, Only H → SqL K H a (ns.map V.int) → sp [.ref a] H (fun v _ => v = .bl true) fun _ _ _ => False)
    (hCX : ∀ H e s', CX [] H s₁ (fun _ _ _ => False) e s' → False) :
    codeAny (model P w) callerA (.call (.ref fa) ⟨[.ref a], []⟩) (fun r s' => r = .ok (.ret (.bool true)) ∧ OldK s₁.heap s'.heap ∧ s'.os = s₁.os ∧ AllBare s'.gens) s₁ := by
  have rv := vals_ints hi
  have lenV := hi.length
  -- from an abstract heap in which nothing but the script may be tracked
  have core : ∀ H : Hp, Only H → SqL K H a (ns.map V.int) → HOk P w H s₁.heap → (∀ b, H b ≠ none → b = a) → (H a ≠ none → K.lookup a = none) →
      codeAny (model P w) callerA (.call (.ref fa) ⟨[.ref a], []⟩) (fun r s' => r = .ok (.ret (.bool true)) ∧ OldK s₁.heap s'.heap ∧ s'.os = s₁.os ∧ AllBare s'.gens) s₁ := by
    intro H hO hS hok hA hK
    have base_of : ∀ {b : Addr} {o : Obj}, s₁.heap.get? b = some o → H b = none → (hidT s₁.heap H).get? b = some o := fun e n => hidT_get e n
    have noA : ∀ {b : Addr} {o : Obj} {es : Array DictEntry} {ep : Nat}, s₁.heap.get? b = some o → o.data = .dict es ep → H b = none := fun {b o es ep} e d => by
      cases q : H b with
      | none => rfl
      | some u =>
        have e' : b = a := hA b (by rw [q]; simp)
        subst e'
        rw [ha] at e; cases e
        have d' : Data.seq vs.toArray _ = Data.dict es ep := d
        cases d'
    have nsK : ∀ {b : Addr} {m : Str → Option Value}, s₁.heap.Ns b m → (hidT s₁.heap H).Ns b m := fun {b m} ⟨o, es, ep, e, d, r⟩ => ⟨o, es, ep, base_of e (noA e d), d, r⟩
    have hKb : K.In (hidT s₁.heap H) := fun b o e => base_of (KX b o e) (by
      cases q : H b with
      | none => rfl
      | some u =>
        have e' : b = a := hA b (by rw [q]; simp)
        subst e'
        rw [hK (by rw [q]; simp)] at e; cases e)
    have hM : Mod K mg (hidT s₁.heap H) := ⟨hKb, nsK hns, ⟨mb, nsK hb, hbb⟩, let ⟨mc, h1, h2⟩ := hlim; ⟨mc, nsK h1, h2⟩⟩
    have e0 : Env0 P w K mg (hidT s₁.heap H) callerA [] s₁ H := ⟨rfl, hM, fun b o e => of_hidT e, Nat.le_of_eq (hidT_size _ _), trivial, fun b hb => absurd (show b ∈ ([] : List Addr) from hb) (by simp), hok, .of_eq hg⟩
    refine codeAny_mono ((F _ hKb (nsK hns)).run callerA [] s₁ H ⟨[.ref a], []⟩ [.ref a] [.ref a] _ _ hr e0 (hbind s₁ (.ref a)) (.cons rfl .nil) (hsp H hO hS)) fun r s' h => ?_
    cases r with
    | error e => exact (hCX H e s' h).elim
    | ok fl =>
      cases fl with
      | next => exact False.elim h
      | brk => exact False.elim h
      | cont => exact False.elim h
      | ret u =>
        obtain ⟨v, H', os, bare, un, hok', r', q⟩ := h
        have q' : v = .bl true := q
        subst q'
        obtain rfl : u = Value.bool true := r'
        refine ⟨rfl, OldK.of_keep fun b o e => ?_, os, bare⟩
        cases q : H b with
        | none => exact un.keep b o e q (by intro z; exact absurd (show b ∈ ([] : List Addr) from z) (by simp)) (by simp)
        | some u =>
          rcases hO b with z | ⟨ob, xs, z⟩
          · rw [q] at z; cases z
          · have z2 := un.frzs b ob _ z
            obtain ⟨e1, _⟩ := hok b _ z
            obtain ⟨e2, _⟩ := hok' b _ z2
            rw [e] at e1; cases e1
            exact e2
  cases hk : K.lookup a with
  | some o =>
    -- the script is one of the module's own objects
    have e := KX a o hk
    rw [ha] at e
    cases e
    refine core (fun _ => none) (fun _ => .inl rfl) (.inr ⟨_, vs.toArray, _, hk, rfl, rfl, rfl, by rw [List.size_toArray, lenV]; exact hl, by simpa using rv⟩) (fun b u z => by have z' : (none : Option HO) = some u := z; cases z') (fun b z => absurd rfl z) fun z => absurd rfl z
  | none =>
    refine core (fun b => if b = a then some (.frz { cls := .type "list", data := .seq vs.toArray } (.lst (ns.map V.int))) else none) (fun b => ?_) (.inl (.inr ⟨{ cls := .type "list", data := .seq vs.toArray }, if_pos rfl⟩)) (fun b u z => ?_) (fun b z => ?_) fun _ => hk
    · by_cases hb : b = a
      · exact .inr ⟨_, _, if_pos hb⟩
      · exact .inl (if_neg hb)
    · by_cases hb : b = a
      · have z' := (if_pos hb).symm.trans z
        cases z'
        subst hb
        exact ⟨ha, by rw [List.length_map]; exact hl, vs, _, rv, ha⟩
      · have z' := (if_neg hb).symm.trans z
        cases z'
    · by_cases hb : b = a
      · exact hb
      · exact absurd (if_neg hb) z
end L2
namespace L2
open PySem PySem.Spec PyProof.Rows
abbrev KOf {K : PySem.W.Frag} {h : Heap} (_ : K.In h) : PySem.W.Frag := K
/-- the goal that k_head leaves (case hc), from the law's promise. F gives the function object fd (K's own) once, then the promise over every base -/
theorem walk_of {l : PySem.W.OpenLaw} {n k : Nat} {q : Program} {loose : List Str} {XP : (Str → Option Value) → Heap → Prop} {YP : World → Heap → Prop} {d : DefRec} {K : Params → PySem.W.Frag} {CX : World → CXT} {sp : World → Sp} {x : Str}
    (hn : l.most = some n) (hn2 : n ≤ sizeLine) (hdf : d.params.defaults = []) (hr : Room k callerA)
    (hY : ∀ (w : World) (h : Heap), YP w h → (K w.params).In h)
    (F : ∀ (w : World) (mg : Str → Option Value) (fa : Addr) (h : Heap), (K w.params).In h → h.Ns mainGlobals mg → mg d.name = some (.ref fa) →
      ∃ fd : FuncData, (∀ (s : Shared) (u : Value), BindsTo s fd ⟨[u], []⟩ [(x, u)]) ∧
        ∀ base : Heap, (K w.params).In base → base.Ns mainGlobals mg → FnOk l.prog w (K w.params) mg base (CX w) k fa fd [x] (sp w))
    (hsp : ∀ (w : World) (H : Hp) (a : Addr) (ns : List Int), ns.length ≤ n → Only H → SqL (K w.params) H a (ns.map V.int) → sp w [.ref a] H (fun v _ => v = .bl true) fun _ _ _ => False)
    (hCX : ∀ (w : World) (H : Hp) (s : Shared) (e : Value) (s' : Shared), CX w [] H s (fun _ _ _ => False) e s' → False) :
    PySem.W.WalkO q loose XP YP l.row.toRowW d [] (fun f vs => PySem.call f vs) := by
  refine Att.attach_call hn hdf fun w s₀ s₁ mg mb fa o pm cd doc a vs ns G Y ho hd hcd hmg hobj hints hlen hg => ?_
  have KX := hY w _ Y
  obtain ⟨fd, hb, hF⟩ := F w mg fa _ KX G.T.g hmg
  exact law_call KX G.T.g G.T.b G.T.builtins G.T.nolimit hg hobj hints (Nat.le_trans hlen hn2) hr hF hb (fun H hO hS => hsp w H a ns hlen hO hS) fun H e s' => hCX w H s₁ e s'
end L2
/- THE LAST THEOREM (shape; LID, My.* are yours):
   My.Adr: a structure of the addresses that your layer names (classes, functions); My.Txt K t: a structure (Prop) of the equations over K;
   My.txt_mk : {K} {implicit addresses ..} (e1 : nsIn K mainGlobals "law" = some (some (.ref f))) (e2 : K.lookup f = some ⟨oc, od, .func (fnOf "law" "law" params body scope dV kV doc pm an cdv ct), sl⟩) (e3 : codeIn K cdv "law" = true) .. : ∃ t, My.Txt K t
set_option maxRecDepth 100000 in
set_option maxHeartbeats 0 in
theorem PySem.Challenge.cw_LID_holds : PySem.Challenge.rw_LID.Holds := by
  w_on; o_law; k_head; (case hw => w_witness2)
  k_fill
  refine L2.walk_of (l := PySem.Challenge.rw_LID) (n := 63) (k := 40) (x := "script") (CX := fun w => ..) (sp := fun _ => My.sp_law) rfl (by decide) rfl ⟨rfl, by decide, by decide⟩ (fun w h Y => PySem.W.kIn_of Y) ?F ?S ?C
  case F =>
    intro w mg fa h KX G hmg
    have T : ∃ t, My.Txt (L2.KOf KX) t := by
      dsimp only [L2.KOf]                          -- K must stand as «<heap const> w.params» for k_is
      refine' My.txt_mk ?e1 ?e2 ?e3 ..
      (case e1 => PySem.W.k_is)                    -- in the order: a name -> its address -> its object -> its parts
      (case e2 => PySem.W.k_is)
      ..
    obtain ⟨t, T⟩ := T
    have e0 := hmg.symm.trans (PySem.W.mg_of KX G T.law)
    cases e0                                       -- fa is the law's own address
    exact ⟨_, fun s u => .of_eq rfl, fun base kb nb => My.law_fn T kb nb⟩     -- if «.of_eq rfl» comes too early: refine' ⟨_, ?b, fun base kb nb => My.law_fn T kb nb⟩; exact fun s u => .of_eq rfl
  case S => exact fun w H a ns hl hO hS => ..
  case C => exact ..
(the tactic k_is has no namespace: write k_is) -/
namespace L2
open PySem PySem.Spec PyProof.Rows
def defArgs (s : Stmt) : Arguments := match s with
  | .FunctionDef _ a _ _ _ _ _ _ _ _ => a
  | _ => { posonlyargs := [], args := [], vararg := none, kwonlyargs := [], kw_defaults := [], kwarg := none, defaults := [] }
def defBody (s : Stmt) : List Stmt := match s with
  | .FunctionDef _ _ b _ _ _ _ _ _ _ => b
  | _ => []
def defScope (s : Stmt) : Scope := match s with
  | .FunctionDef _ _ _ _ _ _ sc _ _ _ => sc
  | _ => { kind := .function, names := [], isGenerator := false, isCoroutine := false }
abbrev CX0 : CXT := fun _ _ _ _ _ _ => False
abbrev E0 : XK := fun _ _ _ => False
theorem pass0 {X : Cx} : Passes CX0 X E0 := fun _ _ _ _ _ _ _ h => h.elim
structure Fun (K : PySem.W.Frag) (x qual : Str) (st : Stmt) (f : Addr) (fd : FuncData) : Prop where
  ex : ∃ (oc : Value) (od : Option Addr) (kV doc pm : Value) (an : Option Addr) (cdv ct : Value) (osl : Array (Option Value)),
    fd = PySem.W.fnOf x qual (defArgs st) (defBody st) (defScope st) .none kV doc pm an cdv ct ∧ K.lookup f = some ⟨oc, od, .func fd, osl⟩ ∧ PySem.W.codeIn K cdv qual = true
  kp : PySem.W.keepIn K (.ref f) = true
section
variable {P : Program} {w : World} {K : PySem.W.Frag} {mg : Str → Option Value} {base : Heap}
/-- THE RULE for a def: its body as a term of rules, and the reading of that term -/
theorem Fun.ok {x qual : Str} {st : Stmt} {f : Addr} {fd : FuncData} {N ps : List Str} {k : Nat} {sp : Sp} (F : Fun K x qual st f fd) (S : FnScope N ps (defScope st)) (len : ∀ vs H Q E, sp vs H Q E → vs.length = ps.length)
    (hbody : ∀ (cdv : Value) (A : Around) (outer : List Env) (s : Shared) (H : Hp) (vs : List V) (Q : VK) (E : XK), Room k (A.deeper (envOfC qual (defScope st) s.heap.objs.size f cdv)) → sp vs H Q E →
      ∃ t, PSs (cxOf CX0 P w K mg base N qual (defScope st) f cdv A outer s H E).nox (defBody st) t ∧ t { nx := fun _ H' => Q .non H', rt := Q } (start N vs) H) : FnOk P w K mg base CX0 (k + 1) f fd ps sp := by
  obtain ⟨oc, od, kV, doc, pm, an, cdv, ct, osl, rfl, lk, hcd⟩ := F.ex
  refine fn_of lk hcd S len fun A outer s H vs Q E hr hsp => ?_
  obtain ⟨t, h, q⟩ := hbody cdv A outer s H vs Q E hr hsp
  exact ⟨t, h.nox, q⟩
/-- how its arguments bind (no defaults): h is «fun _ _ _ _ _ _ us hl => match us, hl with | [_, _], _ => rfl», one _ a parameter -/
theorem Fun.binds {x qual : Str} {st : Stmt} {f : Addr} {fd : FuncData} {ps : List Str} (F : Fun K x qual st f fd)
    (h : ∀ (kV doc pm : Value) (an : Option Addr) (cdv ct : Value) (us : List Value), us.length = ps.length → bindArgs (PySem.W.fnOf x qual (defArgs st) (defBody st) (defScope st) .none kV doc pm an cdv ct) ⟨us, []⟩ = pure (ps.zip us)) : Binds K fd ps [] := by
  obtain ⟨oc, od, kV, doc, pm, an, cdv, ct, osl, rfl, lk, hcd⟩ := F.ex
  exact .all (h kV doc pm an cdv ct)
theorem fun_mk {x qual : Str} {st : Stmt} {f : Addr} {oc : Value} {od an : Option Addr} {osl : Array (Option Value)} {kV doc pm cdv ct : Value} (l : K.lookup f = some ⟨oc, od, .func (PySem.W.fnOf x qual (defArgs st) (defBody st) (defScope st) .none kV doc pm an cdv ct), osl⟩)
    (c : PySem.W.codeIn K cdv qual = true) (k : PySem.W.keepIn K (.ref f) = true) : Fun K x qual st f (PySem.W.fnOf x qual (defArgs st) (defBody st) (defScope st) .none kV doc pm an cdv ct) := ⟨⟨oc, od, kV, doc, pm, an, cdv, ct, osl, rfl, l, c⟩, k⟩
end
theorem hu_of {A : Around} {k : Nat} (hr : Room k A) : A.units + 1 < cLine := Nat.lt_of_le_of_lt (Nat.add_le_add_left (by decide : 1 ≤ 64) _) hr.units
section
variable {X : Cx}
theorem pv (i : Nat) {x : Str} {pos : Pos} (hN : X.N[i]? = some x := by rfl) (hv : Vis X.env.scope x := by first | exact Or.inl rfl | exact Or.inr (Or.inl rfl) | exact Or.inr (Or.inr rfl)) (hd : (x == ("__debug__" : Str)) = false := by decide)
    (hcd : (x == ("__classdict__" : Str)) = false := by decide) : PE X (.Name x pos) (tVar i) := pe_var hN hv hd hcd
end
theorem iteF {A B : Prop} (h : B) : if false = true then A else B := by
  rw [if_neg Bool.false_ne_true]
  exact h
theorem iteT {A B : Prop} (h : A) : if true = true then A else B := by
  rw [if_pos rfl]
  exact h
/-- all that was tracked is as it was -/
def Same (H H' : Hp) : Prop := ∀ b o, H b = some o → H' b = some o
theorem Same.refl (H : Hp) : Same H H := fun _ _ h => h
theorem Same.trans {H H1 H2 : Hp} (a : Same H H1) (b : Same H1 H2) : Same H H2 := fun c o h => b c o (a c o h)
theorem Same.seq {K : PySem.W.Frag} {H H' : Hp} {a : Addr} {xs : List V} (e : Same H H') (h : SqL K H a xs) : SqL K H' a xs := by
  rcases h with (h | ⟨o, h⟩) | h
  · exact .inl (.inl (e _ _ h))
  · exact .inl (.inr ⟨o, e _ _ h⟩)
  · exact .inr h
section
variable {X : Cx}
/-- len of a dict -/
theorem call_lenD : CallR X (.builtin "len") (fun xs H Q => ∃ a kvs, xs = [V.ref a] ∧ H a = some (.dK kvs) ∧ Q (.int kvs.length) H) := by
  intro pins s σ H xs us Q I r h
  obtain ⟨a, kvs, rfl, ha, q⟩ := h
  obtain ⟨u, rfl, ru⟩ := vals1 r
  cases ru
  exact d_len I (.inl ha) fun t s' I' => ⟨.int kvs.length, H, I', ⟨t, rfl⟩, q⟩
end
section
variable {κ : Type} [DecidableEq κ]
theorem valV_in {kvs : List (κ × V)} {k : κ} {v : V} (h : valV kvs k = some v) : k ∈ kvs.map (·.1) := by
  have q : (kvs.any fun kv => decide (kv.1 = k)) = true := by
    rw [valV_any, h]
    all_goals rfl
  obtain ⟨p, hp, e⟩ := List.any_eq_true.mp q
  exact List.mem_map.mpr ⟨p, hp, of_decide_eq_true e⟩
theorem nd_snoc : ∀ {l : List κ} {k : κ}, l.Nodup → ¬ k ∈ l → (l ++ [k]).Nodup
  | [], k, _, _ => by simp
  | a :: r, k, h, hk => by
    obtain ⟨h1, h2⟩ := List.nodup_cons.mp h
    show (a :: (r ++ [k])).Nodup
    refine List.nodup_cons.mpr ⟨fun m => ?_, nd_snoc h2 fun m => hk (List.mem_cons.mpr (Or.inr m))⟩
    rcases List.mem_append.mp m with q | q
    · exact h1 q
    · exact hk (List.mem_cons.mpr (Or.inl (List.mem_singleton.mp q).symm))
end
end L2
namespace L2
open PySem PySem.Spec PyProof.Rows
abbrev ts (x : Str) : List Nat := x.cps.toList
abbrev tx (l : List Nat) : Str := ⟨l.toArray⟩
theorem ts_tx (l : List Nat) : ts (tx l) = l := rfl
theorem tx_ts (x : Str) : tx (ts x) = x := by cases x; simp [tx, ts]
theorem ts_len (x : Str) : x.length = (ts x).length := by simp [Str.length, ts]
theorem tx_len (l : List Nat) : (tx l).length = l.length := by simp [Str.length, tx]
theorem str_ext {x y : Str} (h : ts x = ts y) : x = y := by rw [← tx_ts x, ← tx_ts y, h]
theorem app_tx (a b : List Nat) : tx a ++ tx b = tx (a ++ b) := by
  apply str_ext
  show (a.toArray ++ b.toArray).toList = a ++ b
  simp
theorem foldl_app (xs : Array Nat) : ∀ (k : Nat) (acc : Array Nat), ((List.replicate k xs).foldl (· ++ ·) acc).toList = acc.toList ++ (List.replicate k xs.toList).flatten
  | 0, acc => by simp
  | k + 1, acc => by
    rw [List.replicate_succ, List.foldl_cons, foldl_app xs k (acc ++ xs)]
    simp [List.replicate_succ]
theorem mul_tx (x : Str) (n : Int) : Txt.mul x n = tx (List.replicate n.toNat (ts x)).flatten := by
  apply str_ext
  rw [ts_tx]
  unfold Txt.mul
  by_cases h1 : n < 1
  · rw [if_pos h1]
    have e : n.toNat = 0 := by omega
    rw [e]; rfl
  · rw [if_neg h1]
    by_cases h2 : (n == 1 || x.length == 0) = true
    · rw [if_pos h2]
      rcases (Bool.or_eq_true _ _).mp h2 with h3 | h3
      · have e : n = 1 := by simpa using h3
        subst e; simp
      · have e : x.length = 0 := by simpa using h3
        rw [ts_len] at e
        have e2 : ts x = [] := List.eq_nil_of_length_eq_zero e
        show ts x = _
        rw [e2]; simp
    · rw [if_neg h2]
      show ((List.replicate n.toNat x.cps).foldl (· ++ ·) #[]).toList = _
      rw [foldl_app]; simp
section
variable {X : Cx}
def rMulS : R2 := fun x y H Q => ∃ z n, x = .str z ∧ y = .int n ∧ z.length ≤ 1000 ∧ -1000 ≤ n ∧ n ≤ 1000 ∧ Q (.str (tx (List.replicate n.toNat (ts z)).flatten)) H
theorem op_mul_str : OpR X (binaryOp .Mult) rMulS := by
  intro pins s σ H x y v u Q I rx ry h
  obtain ⟨z, n, rfl, rfl, hz, h0, h1, q⟩ := h
  obtain ⟨t, rfl⟩ := rx
  obtain ⟨t', rfl⟩ := ry
  refine SB.mul ⟨by rw [decide_eq_false (by omega), decide_eq_false (by omega)]; rfl, fun a _ b => ?_, fun a _ => ?_⟩ fun t' k => ⟨.str (Txt.mul z n), H, I.tok _, ⟨_, rfl⟩, by rw [mul_tx]; exact q⟩
  · have h2 : (9223372036854775 : Int) ≤ (2 ^ 63 - 1 : Int) / n := Int.le_ediv_of_mul_le (by omega) (by omega)
    omega
  · unfold PySem.Builtin.Str.tooLong
    have e : z.length * n.toNat ≤ 1000 * 1000 := Nat.mul_le_mul hz (by omega)
    exact decide_eq_false (by rw [sizeLine_eq]; omega)
theorem strsAre_of {ys : List Str} : ∀ {us : List Value}, Vals (ys.map V.str) us → StrsAre us ys := by
  induction ys with
  | nil => intro us r; rw [List.map_nil] at r; cases r; exact .nil
  | cons n ns ih =>
    intro us r
    rw [List.map_cons] at r
    cases r with
    | cons r1 r2 =>
      obtain ⟨t, e⟩ := r1
      subst e
      exact .cons n t (ih r2)
theorem glue_foldl (g : Str) : ∀ (ps : List Str) (acc : Array Nat), (ps.foldl (fun a p => a ++ g.cps ++ p.cps) acc).toList = acc.toList ++ (ps.map fun p => ts g ++ ts p).flatten
  | [], acc => by simp
  | p :: ps, acc => by
    rw [List.foldl_cons, glue_foldl g ps]
    simp
theorem join_nil (ys : List Str) : Txt.join (tx []) ys = tx (ys.map ts).flatten := by
  apply str_ext
  show ((ys.drop 1).foldl (fun acc p => acc ++ (tx []).cps ++ p.cps) (ys.headD Str.empty).cps).toList = _
  rw [glue_foldl]
  cases ys with
  | nil => rfl
  | cons y r =>
    show ts y ++ (List.map (fun p => ts (tx []) ++ ts p) r).flatten = ts y ++ (List.map ts r).flatten
    simp only [ts_tx, List.nil_append]
def rJoin (K : PySem.W.Frag) : V → List V → Hp → VK → Prop := fun x vs H Q => ∃ (p : Addr) (ys : List Str), x = .str (tx []) ∧ vs = [.ref p] ∧ SqL K H p (ys.map V.str) ∧ ((ys.map ts).flatten).length ≤ 100000 ∧ Q (.str (tx (ys.map ts).flatten)) H
theorem sum_len (ys : List Str) : (ys.map (·.length)).sum = ((ys.map ts).flatten).length := by
  induction ys with
  | nil => rfl
  | cons y r ih => rw [List.map_cons, List.sum_cons, ih, List.map_cons, List.flatten_cons, List.length_append, ts_len]
theorem mt_join : MtR X "str.join" (rJoin X.K) := by
  intro pins s σ H x vs v us Q I rx rv h
  obtain ⟨p, ys, rfl, rfl, hq, hz, q⟩ := h
  obtain ⟨t, rfl⟩ := rx
  obtain ⟨u, rfl, ru⟩ := rv.one
  cases ru
  obtain ⟨its, r, pl, _⟩ := I.list hq
  refine join_list (ys := ys) pl.isList (by simpa using strsAre_of r) ?_ fun t' k => ⟨.str (Txt.join (tx []) ys), H, I.tok _, ⟨_, rfl⟩, by rw [join_nil]; exact q⟩
  rw [sum_len, show (tx []).length = 0 from rfl, Nat.mul_zero]
  omega
def rInC (neg : Bool) : R2 := fun x y H Q => ∃ c j, x = .str (tx [c]) ∧ y = .str j ∧ Q (.bl (if neg then !decide (c ∈ ts j) else decide (c ∈ ts j))) H
theorem op_in_c : OpR X (compareOp .In) (rInC false) := by
  intro pins s σ H x y v u Q I rx ry h
  obtain ⟨c, j, rfl, rfl, q⟩ := h
  refine op_in_str pins s σ H _ _ v u Q I rx ry ⟨_, _, rfl, rfl, ?_⟩
  have e := StrLaws.found_one j c
  rw [show (tx [c] : Str) = ⟨#[c]⟩ from rfl, e]
  exact q
theorem op_notin_c : OpR X (compareOp .NotIn) (rInC true) := by
  intro pins s σ H x y v u Q I rx ry h
  obtain ⟨c, j, rfl, rfl, q⟩ := h
  refine op_notin_str pins s σ H _ _ v u Q I rx ry ⟨_, _, rfl, rfl, ?_⟩
  have e := StrLaws.found_one j c
  rw [show (tx [c] : Str) = ⟨#[c]⟩ from rfl, e]
  exact q
def Its (x : Str) : It := ⟨fun i _ => i < (ts x).length, fun i H y H' => H' = H ∧ ∃ c, (ts x)[i]? = some c ∧ y = .str (tx [c]), fun i _ => (ts x).length ≤ i⟩
theorem turn_str {P : Program} {w : World} {K : PySem.W.Frag} {tg : Expr} (x : Str) (t : Tok) (it : Addr) (ty : String) (hty : ty = "str_ascii_iterator" ∨ ty = "str_iterator") : Turn P w K tg (Its x) [it] it (fun i h => h.IsStrIter it ty x t i) where
  mem := by simp
  obj := fun i h st b hb => by
    have e : b = it := by simpa using hb
    subst e
    obtain ⟨o, e, c, d⟩ := st
    exact ⟨o, e, fun v z => by rw [d] at z; cases z⟩
  keep := fun i h h' st k => by
    obtain ⟨o, e, c, d⟩ := st
    exact ⟨o, k it (by simp) o e, c, d⟩
  item := by
    intro X hP hw hK hc i pins s σ H E I hf st hg
    subst hP hw hK
    obtain ⟨f0, f1, f2, f3, f4, f5⟩ := hf it (by simp)
    have hi : i < (ts x).length := hg
    have hx : x.cps[i]? = some (ts x)[i] := by
      rw [← Array.getElem?_toList]; simp [hi]
    have fin : ∀ h', h'.IsStrIter it ty x t (i + 1) → Heap.SameBut it s.heap h' → ∃ u, some (Value.str ⟨#[(ts x)[i]]⟩ s.toks) = some u ∧
        wpAny (model X.prog X.w) X.A (letOwnedTupleGo tg (.ref it) u) (fun _ s2 => ∃ x' H', Inv X pins σ H' s2 ∧ RelV x' u ∧ (Its x).yld i H x' H' ∧ s2.heap.IsStrIter it ty x t (i + 1) ∧ ∀ b ∈ [it], H' b = none) E { s with heap := h', toks := s.toks + 1 } := fun h' st' sb => by
      have I1 : Inv X pins σ H { s with heap := h', toks := s.toks + 1 } := I.turned (t' := s.toks + 1) (fun b o hb e => (sb.2 b hb).trans e) f0 f1 f3 f4 f5
      obtain ⟨o, e, c, d⟩ := id st'
      refine ⟨_, rfl, go_of (s := { s with heap := h', toks := s.toks + 1 }) e c d ?_ ⟨.str (tx [(ts x)[i]]), H, I1, ⟨_, rfl⟩, ⟨rfl, _, by simp [hi], rfl⟩, st', fun b hb => (hf b hb).1⟩⟩
      rcases hty with z | z <;> (rw [z]; decide)
    rcases hty with z | z
    · subst z; exact wpAny_pyNext_ascii_item st hx fun h' st' sb => fin h' st' sb
    · subst z; exact wpAny_pyNext_wide_item st hx fun h' st' sb => fin h' st' sb
  done := by
    intro X hP hw hK hc i pins s σ H E I hf st hg
    subst hP hw hK
    obtain ⟨f0, f1, f2, f3, f4, f5⟩ := hf it (by simp)
    have hi : (ts x).length ≤ i := hg
    have hx : x.cps[i]? = none := by
      rw [← Array.getElem?_toList]; exact List.getElem?_eq_none hi
    rcases hty with z | z
    · subst z; exact wpAny_pyNext_ascii_end (I.ok.hd hc) st hx fun h' eb => ⟨rfl, I.turned (t' := s.toks) (fun b o hb e => eb b o hb e) f0 f1 f3 f4 f5⟩
    · subst z; exact wpAny_pyNext_wide_end (I.ok.hd hc) st hx fun h' eb => ⟨rfl, I.turned (t' := s.toks) (fun b o hb e => eb b o hb e) f0 f1 f3 f4 f5⟩
  self := fun _ _ _ _ _ st h => by
    rcases hty with z | z
    · subst z; exact wpAny_pyIter_striter_ascii st h
    · subst z; exact wpAny_pyIter_striter_wide st h
def iStr (tl : TE) : TI := fun σ H R => tl σ H fun x H1 => ∃ z, x = .str z ∧ R (Its z) H1
theorem pi_str {tg l : Expr} {tl : TE} (hl : PE X l tl) : PI X tg l (iStr tl) := by
  intro pins s σ H R I h
  refine thn (hl pins s σ H _ I h) fun v s1 ⟨x, H1, I1, r1, q1⟩ => ?_
  obtain ⟨z, rfl, q⟩ := q1
  obtain ⟨t, rfl⟩ := r1
  have fin : ∀ ty, (ty = "str_ascii_iterator" ∨ ty = "str_iterator") → PIE X pins σ tg R (.ref s1.heap.objs.size) { s1 with heap := s1.heap.push { cls := .type ty, data := .fields #[.str z t, .int 0 0] } } := fun ty hty => by
    refine ⟨s1.heap.objs.size, [s1.heap.objs.size], _, _, H1, rfl, I1.kept (t' := s1.toks) fun b o e => Heap.get?_push_of_some _ e, turn_str z t _ ty hty, ⟨_, Heap.get?_push_size _ rfl, rfl, rfl⟩, fun b hb => ?_, q⟩
    have e : b = s1.heap.objs.size := by simpa using hb
    subst e
    exact I1.fpOk (Nat.le_refl _) (I1.hok.fresh (Nat.le_refl _))
  cases ha : z.cps.all (· < 128) with
  | true => exact wpAny_pyIter_ascii ha (fin _ (.inl rfl))
  | false => exact wpAny_pyIter_wide ha (fin _ (.inr rfl))
theorem boolsAre_of {bs : List Bool} : ∀ {us : List Value}, Vals (bs.map V.bl) us → PyProof.Rows.LSm.BoolsAre us bs := by
  induction bs with
  | nil => intro us r; rw [List.map_nil] at r; cases r; exact .nil
  | cons n ns ih =>
    intro us r
    rw [List.map_cons] at r
    cases r with
    | cons r1 r2 =>
      cases (show _ = Value.bool n from r1)
      exact .cons n (ih r2)
theorem call_all (hc : X.calm = true) : CallR X (.builtin "all") (fun xs H Q => ∃ (p : Addr) (bs : List Bool), xs = [.ref p] ∧ SqL X.K H p (bs.map V.bl) ∧ Q (.bl (bs.all id)) H) := by
  intro pins s σ H xs us Q I r h
  obtain ⟨p, bs, rfl, hq, q⟩ := h
  obtain ⟨u, rfl, rx⟩ := vals1 r
  cases rx
  obtain ⟨its, rv, pl, hz⟩ := I.list hq
  have hl := pl.isList
  have hb := boolsAre_of rv
  have hlt : p < s.heap.objs.size := by obtain ⟨_, e, _⟩ := hl; exact Heap.lt_size e
  refine call_all_walk (wpAny_pyIter_list hl ?_)
  refine ⟨s.heap.objs.size, [s.heap.objs.size, p], [s.heap.objs.size], its.toArray.size, _, _, fun i => (bs[i]?).getD true, rfl, Walks.list (A := X.A.in1) (I.ok.hd hc) _ p (Nat.ne_of_lt hlt) its.toArray,
    ⟨⟨_, Heap.get?_push_size _ rfl, rfl, rfl⟩, hl.push _⟩, fun i v s' Q' E' hP hQ => ?_, fun h' tk hk => ?_⟩
  · obtain ⟨b, e, rfl⟩ := hb.get i v (by simpa using hP)
    simp only [e, Option.getD_some] at hQ
    exact wpAny_truthy_bool hQ
  · have e : ((List.range its.toArray.size).all fun i => (bs[i]?).getD true) = bs.all id := by
      rw [List.size_toArray, hb.length]; exact PyProof.Rows.LSm.range_all bs
    rw [e]
    exact ⟨.bl _, H, I.kept (PyProof.Rows.LSm.kept_iter hk), rfl, q⟩
theorem call_sum (hc : X.calm = true) : CallR X (.builtin "sum") (fun xs H Q => ∃ (p : Addr) (ns : List Int), xs = [.ref p] ∧ SqL X.K H p (ns.map V.int) ∧ Q (.int ns.sum) H) := by
  intro pins s σ H xs us Q I r h
  obtain ⟨p, ns, rfl, hq, q⟩ := h
  obtain ⟨u, rfl, rx⟩ := vals1 r
  cases rx
  obtain ⟨its, rv, pl, hz⟩ := I.list hq
  have hi := intsAre_of rv
  obtain ⟨xs, hx⟩ := hi.allInts.items
  have hl' : s.heap.IsList p (intItems xs) := hx ▸ pl.isList
  refine sum_intListG (I.ok.hd hc) hl' fun h' tk t' hk => ?_
  have e1 : ns = xs.toList.map (·.1) := by
    rw [← nums_intItems, ← hx]
    exact (show numsOf its.toArray.toList = ns from hi.numsOf).symm
  have e2 : preSum (numAt xs) xs.size = ns.sum := by
    rw [preSum_eq, List.take_of_length_le (by simp), e1]
  rw [e2]
  exact ⟨.int _, H, I.kept hk, ⟨_, rfl⟩, q⟩
def eqLs : List V → List V → Bool
  | [], [] => true
  | x :: xs, y :: ys => eqV x y && eqLs xs ys
  | _, _ => false
theorem eqLs_range : ∀ (xs ys : List V), xs.length = ys.length → (List.range xs.length).all (fun j => match xs[j]?, ys[j]? with | some a, some b => eqV a b | _, _ => true) = eqLs xs ys
  | [], [], _ => rfl
  | x :: xs, y :: ys, h => by
    have ih := eqLs_range xs ys (by simpa using h)
    rw [List.length_cons, List.range_succ_eq_map, List.all_cons, List.all_map]
    show (eqV x y && _) = (eqV x y && eqLs xs ys)
    rw [← ih]
    congr 1
theorem eqLs_len : ∀ {xs ys : List V}, xs.length ≠ ys.length → eqLs xs ys = false
  | [], [], h => absurd rfl h
  | [], _ :: _, _ => rfl
  | _ :: _, [], _ => rfl
  | x :: xs, y :: ys, h => by
    have ih := eqLs_len (xs := xs) (ys := ys) (by simpa using h)
    show (eqV x y && eqLs xs ys) = false
    rw [ih, Bool.and_false]
def rEqL (K : PySem.W.Frag) (neg : Bool) : R2 := fun x y H Q => ∃ a b xs ys, x = .ref a ∧ y = .ref b ∧ SqL K H a xs ∧ SqL K H b ys ∧ xs.all flatV = true ∧ ys.all flatV = true ∧ Q (.bl (if neg then !eqLs xs ys else eqLs xs ys)) H
theorem Vals.some_at {xs : List V} {us : List Value} (r : Vals xs us) {j : Nat} (h : j < us.length) : ∃ x, xs[j]? = some x ∧ RelV x us[j] := by
  have hl := r.length
  obtain ⟨x, e⟩ : ∃ x, xs[j]? = some x := ⟨xs[j], by simp [hl, h]⟩
  obtain ⟨u, hu, ru⟩ := r.get e
  have e2 : us[j]? = some us[j] := by simp [h]
  rw [e2] at hu
  cases hu
  exact ⟨x, e, ru⟩
theorem lists_he {A : Around} {s : Shared} {xs ys : List V} {us ws : List Value} (r : Vals xs us) (q : Vals ys ws) (fx : xs.all flatV = true) (fy : ys.all flatV = true) :
    ∀ j (h1 : j < us.toArray.size) (h2 : j < ws.toArray.size), SeqAt.EqAt A s us.toArray[j] ws.toArray[j] ((fun j => match xs[j]?, ys[j]? with | some a, some b => eqV a b | _, _ => true) j) := fun j h1 h2 => by
  obtain ⟨x, e1, r1⟩ := r.some_at (j := j) (by simpa using h1)
  obtain ⟨y, e2, r2⟩ := q.some_at (j := j) (by simpa using h2)
  have f1 : flatV x = true := List.all_eq_true.mp fx x (List.mem_of_getElem? e1)
  have f2 : flatV y = true := List.all_eq_true.mp fy y (List.mem_of_getElem? e2)
  have z := eqAt_V (A := A) (s := s) r1 r2 f1 f2
  simp only [e1, e2]
  simpa using z
theorem op_eq_l (hu : X.A.units < cLine) : OpR X (compareOp .Eq) (rEqL X.K false) := by
  intro pins s σ H x y v u Q I rx ry h
  obtain ⟨a, b, xs, ys, rfl, rfl, ha, hb, fx, fy, q⟩ := h
  cases rx
  cases ry
  obtain ⟨its, r1, pl1, _⟩ := I.list ha
  obtain ⟨its2, r2, pl2, _⟩ := I.list hb
  have l1 := r1.length
  have l2 := r2.length
  by_cases e : xs.length = ys.length
  · refine SeqAt.eq_listAt pl1.isList pl2.isList (by simp only [List.size_toArray]; omega) hu (lists_he r1 r2 fx fy) ⟨.bl _, H, I, rfl, ?_⟩
    rw [List.size_toArray, ← l1, eqLs_range xs ys e]
    exact q
  · refine SeqAt.eq_list_lengthsAt pl1.isList pl2.isList (by simp only [List.size_toArray]; simpa [← l1, ← l2] using e) hu ⟨.bl _, H, I, rfl, ?_⟩
    have z := eqLs_len e
    simpa [z] using q
theorem op_ne_l (hu : X.A.units < cLine) : OpR X (compareOp .NotEq) (rEqL X.K true) := by
  intro pins s σ H x y v u Q I rx ry h
  obtain ⟨a, b, xs, ys, rfl, rfl, ha, hb, fx, fy, q⟩ := h
  cases rx
  cases ry
  obtain ⟨its, r1, pl1, _⟩ := I.list ha
  obtain ⟨its2, r2, pl2, _⟩ := I.list hb
  have l1 := r1.length
  have l2 := r2.length
  by_cases e : xs.length = ys.length
  · refine SeqAt.RcNeAt.lists pl1.isList pl2.isList (by simp only [List.size_toArray]; omega) hu (lists_he r1 r2 fx fy) X.prog X.w X.xe _ ⟨.bl _, H, I, rfl, ?_⟩
    rw [List.size_toArray, ← l1, eqLs_range xs ys e]
    exact q
  · refine SeqAt.RcNeAt.lists_lengths pl1.isList pl2.isList (by simp only [List.size_toArray]; simpa [← l1, ← l2] using e) hu X.prog X.w X.xe _ ⟨.bl _, H, I, rfl, ?_⟩
    have z := eqLs_len e
    simpa [z] using q
def tyS (H : Hp) : V → Option String
  | .non => some "NoneType"
  | .bl _ => some "bool"
  | .int _ => some "int"
  | .str _ => some "str"
  | .ref a => match H a with
    | some (.lst _) => some "list"
    | some (.tup _) => some "tuple"
    | some (.dK _) => some "dict"
    | _ => none
  | _ => none
def isSub (t T : String) : Bool := t == T || (t == "bool" && T == "int")
theorem tyS_of {K : PySem.W.Frag} {H : Hp} {x : V} {t : String} (h : tyS H x = some t) : TyOf K H x (.type t) := by
  cases x with
  | non => cases h; exact .non
  | bl b => cases h; exact .bl b
  | int i => cases h; exact .int i
  | str z => cases h; exact .str z
  | ref a =>
    have h' : (match H a with | some (.lst _) => some "list" | some (.tup _) => some "tuple" | some (.dK _) => some "dict" | _ => none) = some t := h
    cases e : H a with
    | none => rw [e] at h'; cases h'
    | some o =>
      rw [e] at h'
      cases o with
      | lst xs => cases h'; exact .lst e
      | tup xs => cases h'; exact .tup e
      | dK kvs => cases h'; exact .dK e
      | _ => cases h'
  | byt b => cases h
  | flt b => cases h
  | ty n => cases h
def tyL : List String := ["NoneType", "bool", "int", "str", "list", "tuple", "dict"]
def kitB (t T : String) : Option Bool := if (Value.type t == Value.type T) = true then some true else if PySem.W.kitMeta T = true then (fastBuiltinMro t).map (·.contains (.type T)) else none
theorem kitB_ok : (tyL.all fun t => tyL.all fun T => kitB t T == some (isSub t T)) = true := by decide +kernel
theorem kit_bi {K : PySem.W.Frag} {t T : String} (h1 : t ∈ tyL) (h2 : T ∈ tyL) : PySem.W.kitOne K (.type t) (.type T) = some (isSub t T) := by
  have a := List.all_eq_true.mp (List.all_eq_true.mp kitB_ok t h1) T h2
  have b : kitB t T = some (isSub t T) := by simpa using a
  exact b
theorem tyS_mem {H : Hp} {x : V} {t : String} (h : tyS H x = some t) : t ∈ tyL := by
  cases x <;> first | (cases h; simp [tyL]; done) | (cases h; done) | skip
  rename_i a
  have h' : (match H a with | some (.lst _) => some "list" | some (.tup _) => some "tuple" | some (.dK _) => some "dict" | _ => none) = some t := h
  split at h' <;> first | (cases h'; simp [tyL]; done) | (cases h'; done)
theorem kitx_ty {pins : List (Addr × Obj)} {σ : St} {H : Hp} {s : Shared} {x : V} {u : Value} {t : String} (I : Inv X pins σ H s) (rx : RelV x u) (h : tyS H x = some t) :
    ∃ φ : Heap → Prop, PySem.W.KitX X.K u (.type t) φ ∧ φ s.heap ∧ u ≠ .builtin "__main__.__loader__#opaque" := by
  cases tyS_of (K := X.K) h with
  | non => cases (show u = Value.none from rx); exact ⟨_, PySem.W.kitx_none, True.intro, fun z => nomatch z⟩
  | bl y => cases (show u = Value.bool y from rx); exact ⟨_, PySem.W.kitx_bool, True.intro, fun z => nomatch z⟩
  | int i => obtain ⟨t, q⟩ := (show ∃ t, u = Value.int i t from rx); cases q; exact ⟨_, PySem.W.kitx_int, True.intro, fun z => nomatch z⟩
  | str y => obtain ⟨t, q⟩ := (show ∃ t, u = Value.str y t from rx); cases q; exact ⟨_, PySem.W.kitx_str, True.intro, fun z => nomatch z⟩
  | flt y => obtain ⟨t, q⟩ := (show ∃ t, u = Value.float y t from rx); cases q; exact ⟨_, PySem.W.kitx_float, True.intro, fun z => nomatch z⟩
  | @lst a xs ea =>
    cases (show u = Value.ref a from rx)
    obtain ⟨_, _, n, _, h1⟩ := (show ObjOk X.prog X.w H s.heap a (.lst xs) from I.hok a _ ea)
    exact ⟨_, PySem.W.kitx_list, ⟨_, h1, rfl⟩, fun z => nomatch z⟩
  | @frz a ob xs ea =>
    cases (show u = Value.ref a from rx)
    obtain ⟨_, _, _, n, _, h1⟩ := (show ObjOk X.prog X.w H s.heap a (.frz ob (.lst xs)) from I.hok a _ ea)
    exact ⟨_, PySem.W.kitx_list, ⟨_, h1, rfl⟩, fun z => nomatch z⟩
  | @tup a xs ea =>
    cases (show u = Value.ref a from rx)
    obtain ⟨_, _, _, p⟩ := (show ObjOk X.prog X.w H s.heap a (.tup xs) from I.hok a _ ea)
    obtain ⟨o, h1, h2, _⟩ := p
    exact ⟨_, PySem.W.kitx_tuple, ⟨o, h1, h2⟩, fun z => nomatch z⟩
  | @dK a kvs ea =>
    cases (show u = Value.ref a from rx)
    obtain ⟨_, _, vs, _, p⟩ := (show ObjOk X.prog X.w H s.heap a (.dK kvs) from I.hok a _ ea)
    obtain ⟨o, es, ep, h1, h2, _⟩ := p
    exact ⟨_, PySem.W.kitx_dict, ⟨o, h1, h2.1⟩, fun z => nomatch z⟩
  | @dT a kvs ea =>
    cases (show u = Value.ref a from rx)
    obtain ⟨_, _, xs, _, o, es, ep, h1, h2, _⟩ := (show ObjOk X.prog X.w H s.heap a (.dT kvs) from I.hok a _ ea)
    exact ⟨_, PySem.W.kitx_dict, ⟨o, h1, h2.1⟩, fun z => nomatch z⟩
theorem call_isi2 {T U : String} (hT : T ∈ tyL) (hU : U ∈ tyL) : CallR X (.builtin "isinstance") (fun xs H Q => ∃ x t p, xs = [x, .ref p] ∧ H p = some (.tup [.ty T, .ty U]) ∧ tyS H x = some t ∧ Q (.bl (isSub t T || isSub t U)) H) := by
  intro pins s σ H xs us Q I r h
  obtain ⟨x, t, p, rfl, hp, ht, q⟩ := h
  obtain ⟨u, w', rfl, ru, rw'⟩ := vals2 r
  cases (show w' = Value.ref p from rw')
  obtain ⟨φ, Z, hφ, hne⟩ := kitx_ty I ru ht
  obtain ⟨_, its, rv, pl⟩ := (show ObjOk X.prog X.w H s.heap p (.tup [.ty T, .ty U]) from I.hok p _ hp)
  obtain ⟨v1, v2, e, r1, r2⟩ := vals2 rv
  subst e
  cases (show v1 = Value.type T from r1)
  cases (show v2 = Value.type U from r2)
  obtain ⟨o, ho, hc, n, hd⟩ := pl
  obtain ⟨oc, od, odt, osl⟩ := o
  cases (show oc = Value.type "tuple" from hc)
  cases (show odt = Data.seq _ n from hd)
  refine PySem.W.kia_tup Z I.kIn hφ ho (b := isSub t T || isSub t U) ?_ hne fun tk => ⟨.bl _, H, I.tok _, rfl, q⟩
  have k1 := kit_bi (K := X.K) (tyS_mem ht) hT
  have k2 := kit_bi (K := X.K) (tyS_mem ht) hU
  simp only [PySem.W.kitAny, k1, k2]
  cases isSub t T <;> cases isSub t U <;> rfl
theorem call_isi {T : String} (hT : T ∈ tyL) : CallR X (.builtin "isinstance") (fun xs H Q => ∃ x t, xs = [x, .ty T] ∧ tyS H x = some t ∧ Q (.bl (isSub t T)) H) := by
  intro pins s σ H xs us Q I r h
  obtain ⟨x, t, rfl, ht, q⟩ := h
  obtain ⟨u, w', rfl, ru, rw'⟩ := vals2 r
  cases (show w' = Value.type T from rw')
  exact isinst_ok I ru (tyS_of ht) (kit_bi (tyS_mem ht) hT) fun tk => ⟨.bl _, H, I.tok _, rfl, q⟩
end
theorem bt_len : bootBuiltins "len" = some (.builtin "len") := by decide +kernel
theorem bt_isinstance : bootBuiltins "isinstance" = some (.builtin "isinstance") := by decide +kernel
theorem bt_all : bootBuiltins "all" = some (.builtin "all") := by decide +kernel
theorem bt_sum : bootBuiltins "sum" = some (.builtin "sum") := by decide +kernel
theorem bt_abs : bootBuiltins "abs" = some (.builtin "abs") := by decide +kernel
theorem bt_ord : bootBuiltins "ord" = some (.builtin "ord") := by decide +kernel
theorem bt_max : bootBuiltins "max" = some (.builtin "max") := by decide +kernel
theorem bt_int : bootBuiltins "int" = some (.type "int") := by decide +kernel
theorem bt_str : bootBuiltins "str" = some (.type "str") := by decide +kernel
theorem bt_bool : bootBuiltins "bool" = some (.type "bool") := by decide +kernel
theorem bt_list : bootBuiltins "list" = some (.type "list") := by decide +kernel
theorem bt_dict : bootBuiltins "dict" = some (.type "dict") := by decide +kernel
theorem bt_tuple : bootBuiltins "tuple" = some (.type "tuple") := by decide +kernel
/-- which names of the text are Python's own -/
structure Bl (mg : Str → Option Value) : Prop where
  len : mg "len" = none
  range : mg "range" = none
  isinstance : mg "isinstance" = none
  all : mg "all" = none
  sum : mg "sum" = none
  int : mg "int" = none
  str : mg "str" = none
  bool : mg "bool" = none
  list : mg "list" = none
  dict : mg "dict" = none
  tuple : mg "tuple" = none
structure Dn (P : Program) (w : World) (K : PySem.W.Frag) (mg : Str → Option Value) (base : Heap) (k : Nat) (x : Str) (ps : List Str) (sp : Sp) : Prop where
  ex : ∃ (f : Addr) (fd : FuncData), FnOk P w K mg base CX0 k f fd ps sp ∧ Binds K fd ps [] ∧ PySem.W.keepIn K (.ref f) = true ∧ mg x = some (.ref f)
section
variable {X : Cx} {k j : Nat} {x : Str} {ps : List Str} {sp : Sp} {e : Expr} {es : List Expr} {t : TA} {p pos : Pos}
theorem pe_cd (D : Dn X.prog X.w X.K X.mg X.base k x ps sp) (hr : Room j X.A) (hj : k ≤ j) (hg : Gl X x) (ha : PA X (e :: es) t) (hdb : (x == ("__debug__" : Str)) = false := by decide)
    (he : starEach (e :: es) X.env = (false, eval e X.env) :: starEach es X.env := by rfl) (hpl : (backTo pos (starEach es X.env)).any (·.1) = false := by rfl) : PE X (.Call (.Name x p) (e :: es) [] pos) (tCall sp [] E0 t) := by
  obtain ⟨f, fd, h1, h2, h3, h4⟩ := D.ex
  exact pe_call h1 (hr.mono hj) hg h4 h3 h2 .nil pass0 ha hdb he hpl
theorem pe_cd0 (D : Dn X.prog X.w X.K X.mg X.base k x ps sp) (hr : Room j X.A) (hj : k ≤ j) (hg : Gl X x) (hdb : (x == ("__debug__" : Str)) = false := by decide) : PE X (.Call (.Name x p) [] [] pos) (tCall sp [] E0 tNil) := by
  obtain ⟨f, fd, h1, h2, h3, h4⟩ := D.ex
  exact pe_call0 h1 (hr.mono hj) hg h4 h3 h2 .nil pass0 hdb
end
end L2
namespace L2
open PySem PySem.Spec PyProof.Rows
theorem forIn_fold {α β : Type} {l : List α} {f : α → β → Sem (ForInStep β)} (g : β → α → β) (h : ∀ x ∈ l, ∀ c, f x c = pure (.yield (g c x))) : ∀ b : β, forIn l b f = pure (l.foldl g b) := by
  induction l with
  | nil => intro b; rfl
  | cons a r ih =>
    intro b
    rw [List.forIn_cons, h a List.mem_cons_self]
    show forIn r (g b a) f = _
    rw [ih (fun x hx => h x (List.mem_cons_of_mem _ hx)) (g b a)]
    rfl
def cloStep (env : Env) (cs : List (Str × Addr)) (x : Str × NameKind) : List (Str × Addr) :=
  if (x.2 == NameKind.free) = true then (match env.cells.lookup x.1 with | some a => (x.1, a) :: cs | none => cs) else cs
def clo (env : Env) (names : List (Str × NameKind)) : List (Str × Addr) := names.foldl (cloStep env) []
theorem closureFor_clo {scope : Scope} {env : Env} (h : ∀ x ∈ scope.names, x.2 = .free → ∃ c, env.cells.lookup x.1 = some c) : closureFor scope env = pure (clo env scope.names) := by
  simp only [closureFor]
  rw [forIn_fold (cloStep env) (fun x hx c => by
    obtain ⟨n, k⟩ := x
    by_cases hk : k = .free
    · subst hk
      obtain ⟨a, e⟩ := h _ hx rfl
      have e' : env.cells.lookup n = some a := e
      simp [cloStep, cellOf, e']
    · have e : (k == NameKind.free) = false := by simpa using hk
      simp [cloStep, e])]
  rfl
theorem clo_mem {env : Env} : ∀ (names : List (Str × NameKind)) (cs : List (Str × Addr)), (∀ p ∈ cs, env.cells.lookup p.1 = some p.2) → ∀ p ∈ names.foldl (cloStep env) cs, env.cells.lookup p.1 = some p.2
  | [], _, h => h
  | x :: r, cs, h => by
    refine clo_mem r (cloStep env cs x) fun p hp => ?_
    unfold cloStep at hp
    split at hp
    · split at hp
      · rename_i a e
        rcases List.mem_cons.mp hp with z | z
        · rw [z]; exact e
        · exact h p z
      · exact h p hp
    · exact h p hp
theorem clo_keep {env : Env} {p : Str × Addr} : ∀ (names : List (Str × NameKind)) (cs : List (Str × Addr)), p ∈ cs → p ∈ names.foldl (cloStep env) cs
  | [], _, h => h
  | x :: r, cs, h => by
    refine clo_keep r (cloStep env cs x) ?_
    unfold cloStep
    split
    · split
      · exact List.mem_cons_of_mem _ h
      · exact h
    · exact h
theorem clo_has {env : Env} {n : Str} {c : Addr} (e : env.cells.lookup n = some c) : ∀ (names : List (Str × NameKind)) (cs : List (Str × Addr)), (n, NameKind.free) ∈ names → (n, c) ∈ names.foldl (cloStep env) cs
  | [], _, h => nomatch h
  | x :: r, cs, h => by
    rcases List.mem_cons.mp h with z | z
    · subst z
      refine clo_keep r _ ?_
      unfold cloStep
      rw [if_pos (by rfl)]
      show (n, c) ∈ (match env.cells.lookup n with | some a => (n, a) :: cs | none => cs)
      rw [e]
      exact List.mem_cons_self
    · exact clo_has e r _ z
theorem lookup_some_of_mem {α : Type} {n : Str} {c : α} : ∀ {l : List (Str × α)}, (n, c) ∈ l → ∃ c', l.lookup n = some c'
  | [], h => nomatch h
  | (m, d) :: r, h => by
    by_cases e : n = m
    · subst e; exact ⟨d, by simp [List.lookup_cons]⟩
    · rcases List.mem_cons.mp h with z | z
      · cases z; exact absurd rfl e
      · obtain ⟨c', q⟩ := lookup_some_of_mem z
        have e2 : (n == m) = false := by simpa using e
        exact ⟨c', by rw [List.lookup_cons, e2]; exact q⟩
theorem clo_of {env : Env} {names : List (Str × NameKind)} {n : Str} {c : Addr} (h : (clo env names).lookup n = some c) : env.cells.lookup n = some c :=
  clo_mem names [] (fun _ z => nomatch z) (n, c) (PySem.mem_of_lookup h)
theorem clo_lookup {env : Env} {names : List (Str × NameKind)} {n : Str} {c : Addr} (e : env.cells.lookup n = some c) (h : (n, NameKind.free) ∈ names) : (clo env names).lookup n = some c := by
  obtain ⟨c', q⟩ := lookup_some_of_mem (clo_has e names [] h)
  have q' : (clo env names).lookup n = some c' := q
  have z := clo_of q'
  rw [e] at z
  rw [q', ← z]
/-- the outer names that the block sees: their slots -/
inductive FreeOk (X : Cx) (scope : Scope) : List (Str × Nat) → Prop where
  | nil : FreeOk X scope []
  | cons {x : Str} {i : Nat} {r : List (Str × Nat)} (h1 : X.N[i]? = some x) (h2 : X.env.kindOf x = some .cell) (h3 : scope.names.lookup x = some .free) (h : FreeOk X scope r) : FreeOk X scope ((x, i) :: r)
theorem FreeOk.mem {X : Cx} {scope : Scope} : ∀ {F : List (Str × Nat)}, FreeOk X scope F → ∀ p ∈ F, X.N[p.2]? = some p.1 ∧ X.env.kindOf p.1 = some .cell ∧ scope.names.lookup p.1 = some .free
  | _, .nil, _, h => nomatch h
  | _, .cons h1 h2 h3 h, p, hp => by
    rcases List.mem_cons.mp hp with z | z
    · subst z; exact ⟨h1, h2, h3⟩
    · exact h.mem p z
structure CompSc (X : Cx) (scope : Scope) (own : List Str) (F : List (Str × Nat)) : Prop where
  kind : scope.kind = .function
  nocell : (scope.names.all fun y => !(y.2 == NameKind.cell)) = true
  loc : (scope.names.all fun y => !(y.2 == NameKind.local) || (scope.names.lookup y.1 == some NameKind.local)) = true
  fr : (scope.names.all fun y => !(y.2 == NameKind.free) || (X.env.scope.names.lookup y.1 == some NameKind.cell)) = true
  free : FreeOk X scope F
def compN (own : List Str) (F : List (Str × Nat)) : List Str := own ++ F.map (·.1)
def compσ (own : List Str) (F : List (Str × Nat)) (σ : St) : St := own.map (fun _ => Option.none) ++ F.map (fun p => (σ[p.2]?).join)
def compCx (X : Cx) (own : List Str) (F : List (Str × Nat)) (scope : Scope) (C : Addr) (s₃ : Shared) (H₃ : Hp) (ex : List Addr) : Cx where
  prog := X.prog
  w := X.w
  K := X.K
  mg := X.mg
  base := X.base
  A := X.A
  N := compN own F
  s₀ := s₃
  H₀ := H₃
  env := compEnvC scope (clo X.env scope.names) C X.env
  outer := X.stack
  stack := X.stack
  ex := ex
  fn := fun _ => false
  calm := X.calm
  pn := []
  xe := fun _ _ => False
theorem CompSc.nc {X : Cx} {scope : Scope} {own : List Str} {F : List (Str × Nat)} (S : CompSc X scope own F) : ∀ y ∈ scope.names, y.2 ≠ .cell := fun y hy e => by
  have q := List.all_eq_true.mp S.nocell y hy
  rw [e] at q
  exact absurd q (by decide)
theorem CompSc.lc {X : Cx} {scope : Scope} {own : List Str} {F : List (Str × Nat)} (S : CompSc X scope own F) : ∀ y ∈ scope.names, y.2 = .local → scope.names.lookup y.1 = some .local := fun y hy e => by
  have q := List.all_eq_true.mp S.loc y hy
  rw [e] at q
  simpa using q
theorem CompSc.fc {X : Cx} {scope : Scope} {own : List Str} {F : List (Str × Nat)} (S : CompSc X scope own F) : ∀ y ∈ scope.names, y.2 = .free → X.env.kindOf y.1 = some .cell := fun y hy e => by
  have q := List.all_eq_true.mp S.fr y hy
  rw [e] at q
  have q' : X.env.scope.names.lookup y.1 = some NameKind.cell := by simpa using q
  exact q'
/-- a name of the relabelled scope that is a cell or free was free -/
theorem relabel_free {scope : Scope} {env : Env} (hc : ∀ y ∈ scope.names, y.2 ≠ .cell) {x : Str} (h : (relabel scope env).names.lookup x = some .cell ∨ (relabel scope env).names.lookup x = some .free) : (x, NameKind.free) ∈ scope.names := by
  have go : ∀ k, (relabel scope env).names.lookup x = some k → k = .cell ∨ k = .free → (x, NameKind.free) ∈ scope.names := fun k e hk => by
    have m := PySem.mem_of_lookup e
    unfold relabel at m
    obtain ⟨⟨n, k0⟩, hm, e2⟩ := List.mem_map.mp m
    by_cases hf : k0 = .free
    · subst hf
      dsimp only at e2
      split at e2 <;> (cases e2; exact hm)
    · have e3 : (k0 == NameKind.free) = false := by simpa using hf
      simp only [e3, Bool.false_and, Bool.false_eq_true, if_false] at e2
      cases e2
      rcases hk with z | z
      · exact absurd z (hc _ hm)
      · exact absurd z hf
  rcases h with h | h
  · exact go _ h (.inl rfl)
  · exact go _ h (.inr rfl)
theorem lookup_relabel_free {env : Env} (hf : env.scope.kind = .function) : ∀ {names : List (Str × NameKind)} {x : Str}, names.lookup x = some .free → env.kindOf x = some .cell →
    (names.map fun (n, k) => if (k == NameKind.free && env.scope.kind == .function && env.kindOf n == some .cell) then (n, NameKind.cell) else (n, k)).lookup x = some .cell
  | [], _, h, _ => by simp at h
  | (n, k) :: r, x, h, hx => by
    have ih := @lookup_relabel_free env hf r x
    rw [List.map_cons]
    by_cases e : x = n
    · subst e
      have hk : k = .free := by simpa [List.lookup_cons] using h
      subst hk
      have c : (NameKind.free == NameKind.free && env.scope.kind == .function && env.kindOf x == some .cell) = true := by rw [hf, hx]; rfl
      show List.lookup x ((if (NameKind.free == NameKind.free && env.scope.kind == .function && env.kindOf x == some .cell) = true then (x, NameKind.cell) else (x, NameKind.free)) :: _) = _
      rw [if_pos c]
      simp [List.lookup_cons]
    · have e2 : (x == n) = false := by simpa using e
      have h' : r.lookup x = some .free := by rw [List.lookup_cons, e2] at h; exact h
      have q := ih h' hx
      dsimp only
      split
      · rw [List.lookup_cons, e2]; exact q
      · rw [List.lookup_cons, e2]; exact q
section
variable {X : Cx} {pins : List (Addr × Obj)} {σ : St} {H : Hp} {s : Shared}
theorem Inv.freeCells {scope : Scope} {own : List Str} {F : List (Str × Nat)} (I : Inv X pins σ H s) (S : CompSc X scope own F) : ∀ x ∈ scope.names, x.2 = .free → ∃ c, X.env.cells.lookup x.1 = some c := fun x hx e =>
  I.ok.has x.1 (.inl (S.fc x hx e))
theorem Inv.notStk (I : Inv X pins σ H s) {b : Addr} (h1 : b ≠ X.env.locals) (h2 : b ∉ X.fs) : b ∉ frs X.stack := fun z => (List.mem_cons.mp (I.stkSub b z)).elim h1 h2
/-- the block begins -/
theorem comp_start {scope : Scope} {own : List Str} {F : List (Str × Nat)} {fp : List Addr} {h1 : Heap} {tk : Nat} (I : Inv X pins σ H s) (S : CompSc X scope own F) (hf : ∀ b ∈ fp, FpOk X pins H b) (hlt : ∀ b ∈ fp, b < s.heap.objs.size) {s3 : Shared}
    (e3 : s3 = { s with heap := s.heap.push { cls := .type "list", data := .seq ([] : List Value).toArray } })
    (hns : h1.Ns s3.heap.objs.size (fun _ => none)) (hk : ∀ b o, s3.heap.get? b = some o → h1.get? b = some o) :
    Inv (compCx X own F scope s3.heap.objs.size s3 H (s.heap.objs.size :: fp)) [] (compσ own F σ) H { s3 with heap := h1, toks := tk } := by
  have sz3 : s3.heap.objs.size = s.heap.objs.size + 1 := by rw [e3]; exact Heap.size_push ..
  have k3 : ∀ b o, s.heap.get? b = some o → s3.heap.get? b = some o := fun b o e => by rw [e3]; exact Heap.get?_push_of_some _ e
  have I3 : Inv X pins σ H s3 := by rw [e3]; exact I.kept (t' := s.toks) fun b o e => Heap.get?_push_of_some _ e
  have lkup : ∀ x c, (clo X.env scope.names).lookup x = some c → X.env.cells.lookup x = some c := fun x c e => clo_of e
  have base_lt : ∀ b o, X.base.get? b = some o → b < X.s₀.heap.objs.size := fun b o e => Nat.lt_of_lt_of_le (Heap.lt_size e) I.ok.bsz
  have kf : X.env.scope.kind = .function := I.ok.kind
  refine ⟨⟨I.ok.mod, S.kind, I.ok.glob, I.ok.blt, Nat.le_refl _, fun x y c h1 h2 => I.ok.inj x y c (lkup x c h1) (lkup y c h2), fun x hx => ?_, fun x c hx _ => (nomatch hx), I.ok.hd, I.ok.frames, .inl rfl, fun b hb => ?_, fun b o e => ?_, ?_, fun b o e hb => ?_, fun b hb => ?_, I3.stack, fun b hb => I.stkFree b hb⟩,
    rfl, I3.bare, Un.kept hk, ⟨_, hns, fun i x v e1 e2 e3' => ?_⟩, fun x c e => ?_, ?_, fun x c e => I.freeC x c (lkup x c e), fun p hp => absurd (show p ∈ ([] : List (Addr × Obj)) from hp) (by simp), I3.hok.kept hk, ?_⟩
  · have hm := relabel_free S.nc hx
    obtain ⟨c, e⟩ := I.freeCells S _ hm rfl
    exact ⟨c, clo_lookup e hm⟩
  · rcases List.mem_cons.mp hb with z | z
    · subst z
      refine ⟨fun q => ?_, fun x c e q => ?_⟩
      · have q' : s.heap.objs.size = s3.heap.objs.size := q
        omega
      · obtain ⟨v, u⟩ := I.cell x c (lkup x c e)
        exact absurd u.lt (by rw [q]; exact Nat.lt_irrefl _)
    · refine ⟨fun q => ?_, fun x c e => (hf b z).2.2.2.2.1 x c (lkup x c e)⟩
      exact Nat.ne_of_lt (Nat.lt_of_lt_of_le (hlt b z) (show s.heap.objs.size ≤ s3.heap.objs.size by omega)) q
  · obtain ⟨a1, a2⟩ := I.bs b o e
    exact ⟨k3 b o a1, a2⟩
  · exact Nat.le_trans (Nat.le_trans I.ok.bsz I.sz) (by show s.heap.objs.size ≤ s3.heap.objs.size; omega)
  · have l1 := base_lt b o e
    rcases List.mem_cons.mp hb with z | z
    · exact absurd (Nat.lt_of_lt_of_le l1 I.sz) (by rw [z]; exact Nat.lt_irrefl _)
    · rcases (hf b z).2.2.2.1 with q | q
      · exact I.ok.noex b o e q
      · exact absurd l1 (Nat.not_lt.mpr q)
  · rcases List.mem_cons.mp hb with z | z
    · subst z
      exact I.notStk (Nat.ne_of_gt I.lt) (I.nofs (Nat.le_refl _))
    · exact I.notStk (hf b z).2.1 (hf b z).2.2.1
  · -- a name that is seen
    have hi : own.length ≤ i := by
      by_cases z : i < own.length
      · rw [compσ, List.getElem?_append_left (by simpa using z), List.getElem?_map] at e2
        cases q : own[i]? with
        | none => rw [q] at e2; cases e2
        | some y => rw [q] at e2; cases e2
      · omega
    rw [compσ, List.getElem?_append_right (by simpa using hi), List.getElem?_map] at e2
    have e1' : (own ++ F.map (·.1))[i]? = some x := e1
    rw [List.getElem?_append_right hi, List.getElem?_map] at e1'
    simp only [List.length_map] at e2
    cases q : F[i - own.length]? with
    | none => rw [q] at e2; cases e2
    | some p =>
      rw [q] at e1' e2
      simp only [Option.map_some, Option.some.injEq] at e1' e2
      obtain ⟨f1, f2, f3⟩ := S.free.mem p (List.mem_of_getElem? q)
      subst e1'
      obtain ⟨m, hn, hl⟩ := I.loc
      have e4 : σ[p.2]? = some (some v) := by
        cases r : σ[p.2]? with
        | none => rw [r] at e2; cases e2
        | some o => rw [r] at e2; exact congrArg some e2
      obtain ⟨u, ru, l⟩ := hl p.2 p.1 v f1 e4 (.inr (.inl f2))
      refine ⟨u, ru, .inr ⟨.inl (lookup_relabel_free kf f3 f2), ?_⟩⟩
      rcases l with ⟨l, _⟩ | ⟨_, c, ec, z⟩
      · rw [f2] at l; cases l
      · refine ⟨c, clo_lookup ec (PySem.mem_of_lookup f3), ?_⟩
        obtain ⟨oc, ho, hd⟩ := z
        exact ⟨oc, hk _ _ (k3 _ _ ho), hd⟩
  · obtain ⟨v, oc, ho, hd⟩ := I.cell x c (lkup x c e)
    exact ⟨v, oc, hk _ _ (k3 _ _ ho), hd⟩
  · exact I.hok.fresh (by show s.heap.objs.size ≤ s3.heap.objs.size; omega)
  · show (compσ own F σ).length = (compN own F).length
    simp [compσ, compN]
/-- the block is through: the list is told -/
theorem comp_back {scope : Scope} {own : List Str} {F : List (Str × Nat)} {fp : List Addr} {s3 s4 : Shared} {σ' : St} {H' : Hp} {ys : List V} {its : List Value} {n : Nat} (I : Inv X pins σ H s) (hf : ∀ b ∈ fp, FpOk X pins H b)
    (e3 : s3 = { s with heap := s.heap.push { cls := .type "list", data := .seq ([] : List Value).toArray } })
    (J : Inv (compCx X own F scope s3.heap.objs.size s3 H (s.heap.objs.size :: fp)) [] σ' H' s4) (hz : ys.length ≤ sizeLine) (hv : Vals ys its)
    (ha : s4.heap.get? s.heap.objs.size = some { cls := .type "list", data := .seq its.toArray n }) (hn : H' s.heap.objs.size = none) : Inv X pins σ (upd H' s.heap.objs.size (.lst ys)) s4 := by
  have sz3 : s3.heap.objs.size = s.heap.objs.size + 1 := by rw [e3]; exact Heap.size_push ..
  have k3 : ∀ b o, s.heap.get? b = some o → s3.heap.get? b = some o := fun b o e => by rw [e3]; exact Heap.get?_push_of_some _ e
  have U : Un (frs X.stack) (s.heap.objs.size :: fp) H H' s3.heap s4.heap := J.base
  have ne : ∀ b o, s.heap.get? b = some o → b ≠ s.heap.objs.size := fun b o e => Nat.ne_of_lt (Heap.lt_size e)
  have nx : ∀ b o, s.heap.get? b = some o → b ∉ fp → b ∉ s.heap.objs.size :: fp := fun b o e h z => (List.mem_cons.mp z).elim (ne b o e) h
  have os4 : s4.os = s.os := by
    have q : s4.os = s3.os := J.os
    rw [q, e3]
  refine I.call' (ch := fp) os4 ⟨fun b o e z hb hx => U.keep b o (k3 b o e) z hb (nx b o e hx), fun b o e z hb hx => U.slot b o (k3 b o e) z hb (nx b o e hx), fun b o e z hx => ?_, fun b o e hx => U.there b o (k3 b o e) (nx b o e hx), fun b xs e => ?_, fun b o u e => ?_, fun b ps e => ?_⟩ (fun b u e => ?_) J.bare fun b hb => ?_
  · rw [upd_ne (ne b o e)]
    exact U.free b o (k3 b o e) z (nx b o e hx)
  · have q := U.tups b xs e
    rw [upd_ne (ne_of_none q hn)]; exact q
  · have q := U.frzs b o u e
    rw [upd_ne (ne_of_none q hn)]; exact q
  · obtain ⟨more, q⟩ := U.tbls b ps e
    exact ⟨more, by rw [upd_ne (ne_of_none q hn)]; exact q⟩
  · by_cases hb : b = s.heap.objs.size
    · subst hb
      rw [upd_same] at e
      cases e
      exact ⟨hz, its, n, hv, ha⟩
    · rw [upd_ne hb] at e
      exact (J.hok b u e).stay (fun _ _ _ q => q) (fun c q => by rw [upd_ne (ne_of_none q hn)]; exact q) fun c xs q => by rw [upd_ne (ne_of_none q hn)]; exact q
  · obtain ⟨_, f1, _, f3, f4, f5⟩ := hf b hb
    exact ⟨f3, f1, f4, f5⟩
/-- the block's own names are let go -/
theorem comp_letgo {H' : Hp} {s4 : Shared} {C : Addr} {h' : Heap} {σ4 : St} (I : Inv X pins σ H s) (hC : s.heap.objs.size ≤ C) (I4 : Inv X pins σ4 H' s4) (hn : H' C = none) (hs : Heap.SameBut C s4.heap h') : Inv X pins σ4 H' { s4 with heap := h' } := by
  have q := I4.turned (it := C) (t' := s4.toks) (h' := h') (fun b o hb e => (hs.2 b hb).trans e) hn (Nat.ne_of_gt (Nat.lt_of_lt_of_le I.lt hC)) (.inr (Nat.le_trans I.sz hC)) (fun x c e z => ?_) (fun p hp z => ?_)
  · exact q
  · obtain ⟨v, u⟩ := I.cell x c e
    exact absurd (Nat.lt_of_lt_of_le u.lt (by rw [z]; exact hC)) (Nat.lt_irrefl _)
  · exact absurd (Nat.lt_of_lt_of_le (Heap.lt_size (I.pin p hp).1) (by rw [z]; exact hC)) (Nat.lt_irrefl _)
end
def PTs (X : Cx) (ifs : List Expr) (t : TT) : Prop :=
  ∀ (pins : List (Addr × Obj)) (s : Shared) (σ : St) (H : Hp) (Q : Bool → Hp → Prop), Inv X pins σ H s → t σ H Q →
    wpAny (model X.prog X.w) X.A (forIn ifs true fun c r => if r = true then do let ok ← isTrue c X.env (eval c X.env); pure (ForInStep.yield ok) else pure (ForInStep.yield r)) (TP X pins σ Q) X.xe s
def tTrue : TT := fun _ H Q => Q true H
theorem pts_nil {X : Cx} : PTs X [] tTrue := fun _ _ _ H _ I h => wpAny_tests_nil ⟨H, I, h⟩
theorem pts_one {X : Cx} {c : Expr} {t : TT} (h : PT X c t) : PTs X [c] t := fun pins s σ H Q I q => wpAny_tests_one (h pins s σ H Q I q)
theorem compLoop_go {prog : Program} {w : World} {A : Around} {R : Result → Shared → Prop} {s : Shared} {elt target iter : Expr} {ifs : List Expr} {scope : Scope} {pos : Pos} {it acc : Value} {env : Env} (I : Nat → Shared → Prop)
    (turn : ∀ n s, I n s → wpAny (model prog w) A (pyNext it) (fun r s₁ => match r with
      | none => R (.ok .next) s₁
      | some v => wpAny (model prog w) A (letOwnedTupleGo target it v) (fun _ s₂ => wpAny (model prog w) A (assign target env v) (fun _ s₃ =>
          wpAny (model prog w) A (forIn ifs true fun c r => if r = true then do let ok ← isTrue c env (eval c env); pure (ForInStep.yield ok) else pure (ForInStep.yield r)) (fun ok s₄ =>
            if ok = true then wpAny (model prog w) A (eval elt env) (fun x s₅ =>
              wpAny (model prog w) A (call (.builtin "list.append") [acc, x]) (fun _ s₆ => ∃ m, m < n ∧ I m s₆) (fun _ _ => False) s₅) (fun _ _ => False) s₄
            else ∃ m, m < n ∧ I m s₄) (fun _ _ => False) s₃) (fun _ _ => False) s₂) (fun _ _ => False) s₁) (fun _ _ => False) s)
    (n : Nat) (h : I n s) : codeAny (model prog w) A (.compLoop (.ListComp elt [⟨target, iter, ifs, 0⟩] scope pos) 0 it acc env) R s := by
  refine codeAny_loop rfl I (fun n s hI => ?_) n h
  show wpAny _ A ((compTurn (.ListComp elt [⟨target, iter, ifs, 0⟩] scope pos) 0 it acc env).onRaise (fun x => do noteFrame x env; theTreesLotGoes x)) _ _ s
  refine wpAny_noted ?_
  rw [compTurn_list]
  refine wpAny_bind (wpAny_standAt (wpAny_bind (wpAny_mono (turn n s hI) (fun r s₁ h₁ => ?_) fun _ _ f => f.elim)))
  cases r with
  | none => exact wpAny_pure h₁
  | some v =>
    refine wpAny_bind (wpAny_mono h₁ (fun _ s₂ h₂ => wpAny_bind (wpAny_mono h₂ (fun _ s₃ h₃ => wpAny_bind (wpAny_mono h₃ (fun ok s₄ h₄ => ?_) fun _ _ f => f.elim)) fun _ _ f => f.elim)) fun _ _ f => f.elim)
    cases ok with
    | false => exact wpAny_pure ⟨rfl, h₄⟩
    | true => exact wpAny_bind (wpAny_bind (wpAny_mono h₄ (fun x s₅ h₅ => wpAny_bind (wpAny_mono h₅ (fun _ s₆ h₆ => wpAny_pure (wpAny_pure ⟨rfl, h₆⟩)) fun _ _ f => f.elim)) fun _ _ f => f.elim))
/-- the slots of σ' stand in σ too -/
def Weak (σ σ' : St) : Prop := σ'.length = σ.length ∧ ∀ (i : Nat) v, σ'[i]? = some (some v) → σ[i]? = some (some v)
theorem weak_set {σ : St} {i : Nat} {v : Option V} (h : σ[i]? = some none) : Weak (σ.set i v) σ := by
  refine ⟨by simp, fun j u e => ?_⟩
  by_cases hj : i = j
  · subst hj; rw [h] at e; cases e
  · rw [List.getElem?_set_ne hj]; exact e
/-- [elt for tg in iter if ..]: W is the word between two turns: the turn, a measure, what was told so far, the heap -/
def CompBody (own : List Str) (F : List (Str × Nat)) (g : TG) (tt : TT) (te : TE) (σ : St) (Q : VK) (J : It) (H1 : Hp) : Prop := ∃ W : Nat → Nat → List V → Hp → Prop, (∃ m, W 0 m [] H1) ∧ ∀ i m ys H', W i m ys H' → ys.length ≤ i →
  (J.stop i H' ∧ i ≤ sizeLine ∧ ∀ p, H' p = none → Q (.ref p) (upd H' p (.lst ys))) ∨
  (J.go i H' ∧ i < sizeLine ∧ ∃ N : List V → Hp → Prop, (∀ ys' H'', N ys' H'' → ∃ m', m' < m ∧ W (i + 1) m' ys' H'') ∧
    ∀ x H2, J.yld i H' x H2 → g x (compσ own F σ) H2 fun σ3 H3 => Weak σ3 (compσ own F σ) ∧ tt σ3 H3 fun b H4 => if b = true then te σ3 H4 fun y H5 => N (ys ++ [y]) H5 else N ys H4)
def tComp (own : List Str) (F : List (Str × Nat)) (wi : TI) (g : TG) (tt : TT) (te : TE) : TE := fun σ H Q => wi σ H fun J H1 => CompBody own F g tt te σ Q J H1
section
variable {X : Cx} {scope : Scope} {own : List Str} {F : List (Str × Nat)} {elt tg iter : Expr} {ifs : List Expr} {pos : Pos} {wi : TI} {g : TG} {tt : TT} {te : TE}
/-- a new empty list is laid -/
abbrev pushed (s : Shared) : Shared := { s with heap := s.heap.push { cls := .type "list", data := .seq ([] : List Value).toArray } }
/-- the block's run, up to its end -/
theorem comp_run {pins : List (Addr × Obj)} {σ : St} {H : Hp} {s : Shared} {Q : VK} {RR : Addr → Result → Shared → Prop} {it : Addr} {fp : List Addr} {tn : Nat → Heap → Prop} {J : It} (S : CompSc X scope own F) (hc : X.calm = true)
    (hg : ∀ C s₃ H₃ ex, PG (compCx X own F scope C s₃ H₃ ex) tg g) (ht : ∀ C s₃ H₃ ex, PTs (compCx X own F scope C s₃ H₃ ex) ifs tt) (he : ∀ C s₃ H₃ ex, PE (compCx X own F scope C s₃ H₃ ex) elt te)
    (I : Inv X pins σ H s) (T : Turn X.prog X.w X.K tg J fp it tn) (st : tn 0 s.heap) (hf : ∀ b ∈ fp, FpOk X pins H b)
    (h : CompBody own F g tt te σ Q J H)
    (hR : ∀ C s4 H4, s.heap.objs.size ≤ C → C ≠ s.heap.objs.size → Inv X pins σ H4 s4 → Q (.ref s.heap.objs.size) H4 → H4 C = none → (∃ m, s4.heap.Ns C m) → RR C (.ok .next) s4) :
    wpAny (model X.prog X.w) X.A (newList []) (fun acc s₃ => wpAny (model X.prog X.w) X.A (newFunctionEnv scope X.env.globals (clo X.env scope.names) [] X.env.qual none .none (some X.env)) (fun cenv s₄ =>
      codeAny (model X.prog X.w) X.A (.compStart (.ListComp elt [⟨tg, iter, ifs, 0⟩] scope pos) 0 (.ref it) acc { cenv with scope := relabel scope X.env }) (fun r s' => acc = .ref s.heap.objs.size ∧ RR cenv.locals r s') s₄) X.xe s₃) X.xe s := by
  obtain ⟨W, ⟨m0, w0⟩, turn⟩ := h
  have hlt : ∀ b ∈ fp, b < s.heap.objs.size := fun b hb => by
    obtain ⟨o, e, _⟩ := T.obj _ _ st b hb
    exact Heap.lt_size e
  refine wpAny_newObj_type (wpAny_newFunctionEnv S.nc (by intro y hy; simp at hy) (fun h₁ hns₁ hsb₁ => ?_) S.kind)
  dsimp only at hns₁ hsb₁ ⊢
  have e3' : pushed s = { s with heap := s.heap.push { cls := .type "list", data := .seq ([] : List Value).toArray } } := rfl
  have sz3 : (pushed s).heap.objs.size = s.heap.objs.size + 1 := Heap.size_push ..
  have k3 : ∀ b o, (pushed s).heap.get? b = some o → h₁.get? b = some o := fun b o e => hsb₁.extBut b o (Nat.ne_of_lt (Heap.lt_size e)) (Heap.get?_push_of_some _ e)
  have k2 : ∀ b o, s.heap.get? b = some o → (pushed s).heap.get? b = some o := fun b o e => Heap.get?_push_of_some _ e
  have hns : h₁.Ns (pushed s).heap.objs.size (fun _ => none) := by simpa using hns₁
  have I0 : Inv (compCx X own F scope (pushed s).heap.objs.size (pushed s) H (s.heap.objs.size :: fp)) [] (compσ own F σ) H { pushed s with heap := h₁, toks := (pushed s).toks + ([] : List (Str × Value)).length } := comp_start I S hf hlt e3' hns k3
  have acc0 : h₁.get? s.heap.objs.size = some { cls := .type "list", data := .seq ([] : List Value).toArray 0 } := k3 _ _ (Heap.get?_push_size _ rfl)
  have ht0 : tn 0 h₁ := T.keep _ _ _ st fun b _ o e => k3 b o (k2 b o e)
  have loop : codeAny (model X.prog X.w) X.A (.compLoop (.ListComp elt [⟨tg, iter, ifs, 0⟩] scope pos) 0 (.ref it) (.ref s.heap.objs.size) (compEnvC scope (clo X.env scope.names) (pushed s).heap.objs.size X.env)) (RR (pushed s).heap.objs.size) { pushed s with heap := h₁, toks := (pushed s).toks + ([] : List (Str × Value)).length } := by
    refine compLoop_go (fun n s' => ∃ i ys H' its k, Inv (compCx X own F scope (pushed s).heap.objs.size (pushed s) H (s.heap.objs.size :: fp)) [] (compσ own F σ) H' s' ∧ tn i s'.heap ∧ (∀ b ∈ fp, H' b = none) ∧ H' s.heap.objs.size = none ∧
      Vals ys its ∧ s'.heap.get? s.heap.objs.size = some { cls := .type "list", data := .seq its.toArray k } ∧ ys.length ≤ i ∧ W i n ys H') ?_ m0 ⟨0, [], H, [], 0, I0, ht0, fun b hb => (hf b hb).1, I.hok.fresh (Nat.le_refl _), .nil, acc0, Nat.le_refl _, w0⟩
    rintro n s5 ⟨i, ys, H5, its, k, I5, t5, fr5, ha5, v5, o5, l5, w5⟩
    have pn5 : Inv (compCx X own F scope (pushed s).heap.objs.size (pushed s) H (s.heap.objs.size :: fp)) [(s.heap.objs.size, { cls := .type "list", data := .seq its.toArray k })] (compσ own F σ) H5 s5 := I5.pins_of fun p hp => by
      have z : p = (s.heap.objs.size, { cls := .type "list", data := .seq its.toArray k }) := by simpa using hp
      subst z
      obtain ⟨x1, x2⟩ := I0.ok.exf s.heap.objs.size List.mem_cons_self
      exact ⟨o5, ha5, x1, I0.ok.exfs _ List.mem_cons_self, fun v z => by cases z⟩
    have fp5 : ∀ {H' : Hp}, (∀ b ∈ fp, H' b = none) → ∀ b ∈ fp, FpOk (compCx X own F scope (pushed s).heap.objs.size (pushed s) H (s.heap.objs.size :: fp)) [(s.heap.objs.size, { cls := .type "list", data := .seq its.toArray k })] H' b := fun {H'} hn b hb => by
      obtain ⟨x1, x2⟩ := I0.ok.exf b (List.mem_cons_of_mem _ hb)
      refine ⟨hn b hb, x1, I0.ok.exfs b (List.mem_cons_of_mem _ hb), .inl (List.mem_cons_of_mem _ hb), x2, fun p hp => ?_⟩
      have z : p = (s.heap.objs.size, { cls := .type "list", data := .seq its.toArray k }) := by
        have hp' : p ∈ ([] : List (Addr × Obj)) ++ [(s.heap.objs.size, { cls := .type "list", data := .seq its.toArray k })] := hp
        simpa using hp'
      subst z
      exact Nat.ne_of_gt (hlt b hb)
    rcases turn i n ys H5 w5 l5 with ⟨stop, hz, q⟩ | ⟨go, hz, N, hN, step⟩
    · refine thn (T.done (compCx X own F scope (pushed s).heap.objs.size (pushed s) H (s.heap.objs.size :: fp)) rfl rfl rfl hc i _ s5 _ H5 (fun _ _ => False) pn5 (fp5 fr5) t5 stop) fun r s6 ⟨hr, I6⟩ => ?_
      subst hr
      obtain ⟨a6, b6, _⟩ := I6.pin (s.heap.objs.size, { cls := .type "list", data := .seq its.toArray k }) (List.mem_append_right _ (List.mem_singleton.mpr rfl))
      have J6 := I6.pins_of (pins' := []) (fun p hp => nomatch hp)
      have I7 := comp_back I hf e3' J6 (Nat.le_trans l5 hz) v5 a6 b6
      have hC : H5 (pushed s).heap.objs.size = none := J6.free
      refine hR _ s6 _ (show s.heap.objs.size ≤ (pushed s).heap.objs.size by omega) (fun z => by have z' : (pushed s).heap.objs.size = s.heap.objs.size := z; omega) I7 (q _ b6) (by rw [upd_ne (fun z => by have z' : (pushed s).heap.objs.size = s.heap.objs.size := z; omega)]; exact hC) ?_
      obtain ⟨m, hn, _⟩ := J6.loc
      exact ⟨m, hn⟩
    · refine thn (T.item (compCx X own F scope (pushed s).heap.objs.size (pushed s) H (s.heap.objs.size :: fp)) rfl rfl rfl hc i _ s5 _ H5 (fun _ _ => False) pn5 (fp5 fr5) t5 go) fun r s6 ⟨u, hr, h6⟩ => ?_
      subst hr
      refine thn h6 fun _ s7 ⟨x, H7, I7, r7, y7, t7, fr7⟩ => ?_
      have J7 := I7.pinned (fp5 fr7) (T.obj _ _ t7)
      refine thn (hg _ _ _ _ _ s7 _ H7 x u _ J7 r7 (step x H7 y7)) fun _ s8 ⟨σ8, H8, I8, wk, q8⟩ => ?_
      refine thn (ht _ _ _ _ _ s8 σ8 H8 _ I8 q8) fun ok s9 ⟨H9, I9, q9⟩ => ?_
      have keep : ∀ {σ' : St} {H' : Hp} {s' : Shared}, Inv (compCx X own F scope (pushed s).heap.objs.size (pushed s) H (s.heap.objs.size :: fp)) ([(s.heap.objs.size, { cls := .type "list", data := .seq its.toArray k })] ++ pinsAt fp s7.heap) σ' H' s' →
          tn (i + 1) s'.heap ∧ (∀ b ∈ fp, H' b = none) ∧ H' s.heap.objs.size = none ∧ s'.heap.get? s.heap.objs.size = some { cls := .type "list", data := .seq its.toArray k } := fun {σ' H' s'} J => by
        have pa := J.pin (s.heap.objs.size, { cls := .type "list", data := .seq its.toArray k }) (List.mem_append_right _ (List.mem_append_left _ (List.mem_singleton.mpr rfl)))
        refine ⟨T.keep _ _ _ t7 fun b hb o e => (J.pin (b, o) (List.mem_append_right _ (List.mem_append_right _ (mem_pinsAt hb e)))).1, fun b hb => ?_, pa.2.1, pa.1⟩
        obtain ⟨o, e, d⟩ := T.obj _ _ t7 b hb
        exact (J.pin (b, o) (List.mem_append_right _ (List.mem_append_right _ (mem_pinsAt hb e)))).2.1
      cases ok with
      | false =>
        rw [if_neg Bool.false_ne_true] at q9 ⊢
        obtain ⟨m', hm, w9⟩ := hN _ _ q9
        obtain ⟨a1, a2, a3, a4⟩ := keep I9
        exact ⟨m', hm, i + 1, ys, H9, its, k, (I9.pins_of (pins' := []) (fun p hp => nomatch hp)).weak wk.1 wk.2, a1, a2, a3, v5, a4, Nat.le_succ_of_le l5, w9⟩
      | true =>
        rw [if_pos rfl] at q9 ⊢
        refine thn (he _ _ _ _ _ s9 σ8 H9 _ I9 q9) fun u' s10 ⟨y, H10, I10, r10, q10⟩ => ?_
        obtain ⟨m', hm, w10⟩ := hN _ _ q10
        obtain ⟨a1, a2, a3, a4⟩ := keep I10
        have hl := v5.length
        refine call_meets PySem.F.slot_list_append ⟨_, a4, rfl⟩ PySem.F.entry_list_append (PySem.F.args_list_append_2 _ _) (PySem.list_append s.heap.objs.size its.toArray k u' (by rw [List.size_toArray]; omega)) ⟨a4, ?_⟩
        have q := PySem.IsL.update a4 (fun xs : Array Value => xs.push u')
        have eq : its.toArray.push u' = (its ++ [u']).toArray := by simp
        rw [eq] at q
        obtain ⟨x1, x2⟩ := I0.ok.exf s.heap.objs.size List.mem_cons_self
        have I11 := (I10.pins_of (pins' := []) (fun p hp => nomatch hp)).turned (it := s.heap.objs.size) (t' := s10.toks) (h' := s10.heap.update s.heap.objs.size (Obj.mapSeq (fun xs : Array Value => xs.push u'))) (fun b o hb e => (Heap.get?_update_other s10.heap _ (Ne.symm hb)).trans e) a3 x1 (.inl List.mem_cons_self) x2 (fun p hp => absurd (show p ∈ ([] : List (Addr × Obj)) from hp) (by simp))
        refine ⟨m', hm, i + 1, ys ++ [y], H10, its ++ [u'], _, I11.weak wk.1 wk.2, ?_, a2, a3, v5.append (.cons r10 .nil), q, by rw [List.length_append, List.length_singleton]; omega, w10⟩
        exact T.keep _ _ _ a1 fun b hb o e => (Heap.get?_update_other s10.heap _ (Nat.ne_of_gt (hlt b hb))).trans e
  have loop' := codeAny_mono loop (R' := fun r s' => Value.ref s.heap.objs.size = .ref s.heap.objs.size ∧ RR (pushed s).heap.objs.size r s') fun r s' z => ⟨rfl, z⟩
  exact codeAny_compStart_list loop' (T.self X.A 0 _ _ _ ht0 loop')
theorem pe_comp (S : CompSc X scope own F) (hc : X.calm = true) (hi : PI X tg iter wi)
    (hg : ∀ C s₃ H₃ ex, PG (compCx X own F scope C s₃ H₃ ex) tg g) (ht : ∀ C s₃ H₃ ex, PTs (compCx X own F scope C s₃ H₃ ex) ifs tt) (he : ∀ C s₃ H₃ ex, PE (compCx X own F scope C s₃ H₃ ex) elt te)
    (hs : ∀ x, foldedSetIterable iter X.env x = pure x := by intro _; rfl) : PE X (.ListComp elt [⟨tg, iter, ifs, 0⟩] scope pos) (tComp own F wi g tt te) := by
  intro pins s σ H Q I h
  rw [eval_ListComp]
  refine wpAny_comprehension_free (use := none) rfl hs (closureFor_clo (I.freeCells S)) S.kind S.lc ?_
  refine thn (hi pins s σ H _ I h) fun v s1 h1 => thn h1 fun itv s2 ⟨it, fp, tn, J, H2, e, I2, T, st2, f2, q2⟩ => ?_
  subst e
  refine thn (comp_run (Q := Q) (RR := fun C r s' => compPost (model X.prog X.w) X.A X.xe none (EP X pins σ Q) (.ref s2.heap.objs.size) C r s') S hc hg ht he I2 T st2 f2 q2 fun C s4 H4 c1 c2 I4 q4 n4 hm => ?_) fun acc s3 h3 => thn h3 fun cenv s4 h4 => codeAny_mono h4 fun r s' ⟨ea, hr⟩ => ?_
  · obtain ⟨m, hn⟩ := hm
    exact ⟨m, hn, fun h' hs' => ⟨.ref s2.heap.objs.size, H4, comp_letgo I2 c1 I4 n4 hs', rfl, q4⟩⟩
  · rw [ea]; exact hr
/-- x = [..], where the store comes ahead of the letting go -/
theorem ps_comp {i : Nat} {x : Str} {pos' spos : Pos} (hN : X.N.Nodup) (hi' : X.N[i]? = some x) (hx : Loc X.env.scope x) (S : CompSc X scope own F) (hc : X.calm = true) (hi : PI X tg iter wi)
    (hg : ∀ C s₃ H₃ ex, PG (compCx X own F scope C s₃ H₃ ex) tg g) (ht : ∀ C s₃ H₃ ex, PTs (compCx X own F scope C s₃ H₃ ex) ifs tt) (he : ∀ C s₃ H₃ ex, PE (compCx X own F scope C s₃ H₃ ex) elt te)
    (hsw : swapsWith (.ListComp elt [⟨tg, iter, ifs, 0⟩] scope pos) (some (.Name x pos')) spos.line X.env = pure true := by rfl)
    (hs : ∀ x, foldedSetIterable iter X.env x = pure x := by intro _; rfl) (hf : X.fn x = true ∨ X.env.scope.names.lookup x = some .local := by first | exact .inl rfl | exact .inr rfl | assumption) :
    PS X (.Assign [.Name x pos'] (.ListComp elt [⟨tg, iter, ifs, 0⟩] scope pos) spos) (tAsg (tComp own F wi g tt te) (gName i)) := by
  intro pins s σ H D I h
  rw [exec_Assign_Name_used x pos' _ _ hsw]
  refine wpAny_bind (wpAny_standAt (wpAny_bind ?_))
  refine wpAny_bind ?_
  refine wpAny_mono (Q := fun _ s' => SP X pins D .next s') ?_ (fun _ s' q => wpAny_pure (wpAny_pure q)) fun _ _ z => z
  refine wpAny_comprehension_free (use := some (assign (.Name x pos') X.env)) rfl hs (closureFor_clo (I.freeCells S)) S.kind S.lc ?_
  refine thn (hi pins s σ H _ I h) fun v s1 h1 => thn h1 fun itv s2 ⟨it, fp, tn, J, H2, e, I2, T, st2, f2, q2⟩ => ?_
  subst e
  refine thn (comp_run (Q := fun x H1 => gName i x σ H1 D.nx) (RR := fun C r s' => compPost (model X.prog X.w) X.A X.xe (some (assign (.Name x pos') X.env)) (fun _ s' => SP X pins D .next s') (.ref s2.heap.objs.size) C r s') S hc hg ht he I2 T st2 f2 q2 fun C s4 H4 c1 c2 I4 q4 n4 hm => ?_) fun acc s3 h3 => thn h3 fun cenv s4 h4 => codeAny_mono h4 fun r s' ⟨ea, hr⟩ => ?_
  · obtain ⟨m, hn⟩ := hm
    refine wpAny_assign_Name (store_ok2 I4 hN hi' hx (v := .ref s2.heap.objs.size) rfl (fun s5 I5 ⟨a, sb, ha⟩ => ?_) hf)
    have aC : a ≠ C := by
      rcases ha with z | z
      · rw [z]; exact Nat.ne_of_lt (Nat.lt_of_lt_of_le I2.lt c1)
      · obtain ⟨v, u⟩ := I2.cell _ _ z
        exact Nat.ne_of_lt (Nat.lt_of_lt_of_le u.lt c1)
    exact ⟨m, hn.sameBut sb (Ne.symm aC), fun h' hs' => ⟨_, H4, comp_letgo I2 c1 I5 n4 hs', q4⟩⟩
  · rw [ea]; exact hr
end
end L2
namespace L2
open PySem PySem.Spec PyProof.Rows
inductive T where
  | non | bl (b : Bool) | int (i : Int) | str (x : List Nat) | lst (ts : List T) | dic (ks : List (List Nat)) (ts : List T) | tup (ts : List T)
mutual
/-- the value stands for the tree -/
def Rep (H : Hp) : V → T → Prop
  | v, .non => v = .non
  | v, .bl b => v = .bl b
  | v, .int i => v = .int i
  | v, .str x => v = .str (tx x)
  | v, .lst ts => ∃ a vs, v = .ref a ∧ H a = some (.lst vs) ∧ Reps H vs ts
  | v, .dic ks ts => ∃ a ps, v = .ref a ∧ H a = some (.dK ps) ∧ ps.map (·.1) = ks.map (fun k => (Sum.inr (tx k) : Key)) ∧ Reps H (ps.map (·.2)) ts
  | v, .tup ts => ∃ a vs, v = .ref a ∧ H a = some (.tup vs) ∧ Reps H vs ts
def Reps (H : Hp) : List V → List T → Prop
  | vs, [] => vs = []
  | vs, t :: ts => ∃ v r, vs = v :: r ∧ Rep H v t ∧ Reps H r ts
end
mutual
theorem Rep.same {H H' : Hp} (e : Same H H') : ∀ (v : V) (t : T), Rep H v t → Rep H' v t
  | _, .non, h => h
  | _, .bl _, h => h
  | _, .int _, h => h
  | _, .str _, h => h
  | _, .lst ts, ⟨a, vs, h1, h2, h3⟩ => ⟨a, vs, h1, e _ _ h2, Reps.same e vs ts h3⟩
  | _, .dic ks ts, ⟨a, ps, h1, h2, h3, h4⟩ => ⟨a, ps, h1, e _ _ h2, h3, Reps.same e _ ts h4⟩
  | _, .tup ts, ⟨a, vs, h1, h2, h3⟩ => ⟨a, vs, h1, e _ _ h2, Reps.same e vs ts h3⟩
theorem Reps.same {H H' : Hp} (e : Same H H') : ∀ (vs : List V) (ts : List T), Reps H vs ts → Reps H' vs ts
  | _, [], h => h
  | _, t :: ts, ⟨v, r, h1, h2, h3⟩ => ⟨v, r, h1, Rep.same e v t h2, Reps.same e r ts h3⟩
end
theorem Reps.snoc {H : Hp} {v : V} {t : T} (h : Rep H v t) : ∀ {vs : List V} {ts : List T}, Reps H vs ts → Reps H (vs ++ [v]) (ts ++ [t])
  | _, [], e => by
    have e' : _ = [] := e
    subst e'
    exact ⟨v, [], rfl, h, rfl⟩
  | _, t' :: ts, ⟨v', r, h1, h2, h3⟩ => by
    subst h1
    exact ⟨v', r ++ [v], rfl, h2, Reps.snoc h h3⟩
theorem Reps.length {H : Hp} : ∀ {vs : List V} {ts : List T}, Reps H vs ts → vs.length = ts.length
  | _, [], e => by
    have e' : _ = [] := e
    subst e'; rfl
  | _, t' :: ts, ⟨v', r, h1, h2, h3⟩ => by
    subst h1
    simp [Reps.length h3]
theorem Reps.get {H : Hp} : ∀ {vs : List V} {ts : List T} {i : Nat} {v : V}, Reps H vs ts → vs[i]? = some v → ∃ t, ts[i]? = some t ∧ Rep H v t
  | _, [], i, v, e, h => by
    have e' : _ = [] := e
    subst e'; simp at h
  | _, t' :: ts, 0, v, ⟨v', r, h1, h2, h3⟩, h => by
    subst h1
    simp at h; subst h
    exact ⟨t', rfl, h2⟩
  | _, t' :: ts, i + 1, v, ⟨v', r, h1, h2, h3⟩, h => by
    subst h1
    obtain ⟨t, e, q⟩ := Reps.get (i := i) (v := v) h3 (by simpa using h)
    exact ⟨t, by simpa using e, q⟩
def tyT : T → String
  | .non => "NoneType"
  | .bl _ => "bool"
  | .int _ => "int"
  | .str _ => "str"
  | .lst _ => "list"
  | .dic _ _ => "dict"
  | .tup _ => "tuple"
theorem Rep.ty {H : Hp} {v : V} : ∀ {t : T}, Rep H v t → tyS H v = some (tyT t)
  | .non, h => by cases (show v = .non from h); rfl
  | .bl b, h => by cases (show v = .bl b from h); rfl
  | .int i, h => by cases (show v = .int i from h); rfl
  | .str x, h => by cases (show v = .str (tx x) from h); rfl
  | .lst ts, h => by obtain ⟨a, vs, e, h2, _⟩ := h; subst e; show (match H a with | some (.lst _) => some "list" | some (.tup _) => some "tuple" | some (.dK _) => some "dict" | _ => none) = _; rw [h2]; rfl
  | .dic ks ts, h => by obtain ⟨a, vs, e, h2, _⟩ := h; subst e; show (match H a with | some (.lst _) => some "list" | some (.tup _) => some "tuple" | some (.dK _) => some "dict" | _ => none) = _; rw [h2]; rfl
  | .tup ts, h => by obtain ⟨a, vs, e, h2, _⟩ := h; subst e; show (match H a with | some (.lst _) => some "list" | some (.tup _) => some "tuple" | some (.dK _) => some "dict" | _ => none) = _; rw [h2]; rfl
def letL : List Nat := (List.range 26).map (· + 97)
def figL : List Nat := (List.range 10).map (· + 48)
/-- the signs of texts: from the blank to ~ but the percent sign -/
def sgnL : List Nat := ((List.range 95).map (· + 32)).filter (· != 37)
def okName (w : List Nat) : Bool := decide (1 ≤ w.length) && decide (w.length ≤ 12) && (match w with | [] => false | c :: _ => decide (c ∈ letL)) && w.all (fun c => decide (c ∈ letL ++ figL))
def okText (w : List Nat) : Bool := decide (w.length ≤ 30) && w.all (fun c => decide (c ∈ sgnL))
mutual
def Nice : Nat → T → Prop
  | _, .non => True
  | _, .bl _ => True
  | _, .int i => -(10 ^ 12) ≤ i ∧ i ≤ 10 ^ 12
  | _, .str x => okText x = true
  | d, .lst ts => 1 ≤ d ∧ ts.length ≤ 4 ∧ NiceL (d - 1) ts
  | d, .dic ks ts => 1 ≤ d ∧ ts.length ≤ 4 ∧ ks.length = ts.length ∧ ks.Nodup ∧ (∀ k ∈ ks, okName k = true) ∧ NiceL (d - 1) ts
  | _, .tup _ => False
def NiceL : Nat → List T → Prop
  | _, [] => True
  | d, t :: ts => Nice d t ∧ NiceL d ts
end
theorem NiceL.snoc {d : Nat} {t : T} (h : Nice d t) : ∀ {ts : List T}, NiceL d ts → NiceL d (ts ++ [t])
  | [], _ => ⟨h, trivial⟩
  | _ :: ts, ⟨a, b⟩ => ⟨a, NiceL.snoc h b⟩
end L2
namespace L2
open PySem PySem.Spec PyProof.Rows
theorem same_new {H : Hp} {p : Addr} (h : H p = none) (o : HO) : Same H (upd H p o) := fun b u q => by rw [upd_ne (ne_of_none q h)]; exact q
section
variable {K : PySem.W.Frag} {H : Hp} {Q : VK} {a b : Addr} {xs ys : List V}
theorem rEqL_i {neg : Bool} (h1 : SqL K H a xs) (h2 : SqL K H b ys) (f1 : xs.all flatV = true) (f2 : ys.all flatV = true) (q : Q (.bl (if neg then !eqLs xs ys else eqLs xs ys)) H) : rEqL K neg (.ref a) (.ref b) H Q :=
  ⟨a, b, xs, ys, rfl, rfl, h1, h2, f1, f2, q⟩
theorem rIxL_i {i : Int} {v : V} (h1 : SqL K H a xs) (h2 : atI xs i = some v) (q : Q v H) : rIxL K (.ref a) (.int i) H Q := ⟨a, xs, i, v, rfl, rfl, h1, h2, q⟩
theorem rIxT_i {i : Int} {v : V} (h1 : SqT K H a xs) (h2 : atI xs i = some v) (q : Q v H) : rIxT K (.ref a) (.int i) H Q := ⟨a, xs, i, v, rfl, rfl, h1, h2, q⟩
theorem rIxS_i {z : Str} {i : Int} {c : Nat} (h1 : z.length ≤ sizeLine) (h2 : atI (ts z) i = some c) (q : Q (.str (tx [c])) H) : rIxS (.str z) (.int i) H Q := ⟨z, i, c, rfl, rfl, h1, h2, q⟩
end
/-- an item at a place that is not written -/
theorem atI_of {α : Type} {xs : List α} {i : Int} (h0 : 0 ≤ i) (h1 : i < xs.length) : ∃ v, atI xs i = some v ∧ v ∈ xs := by
  obtain ⟨j, rfl⟩ := Int.eq_ofNat_of_zero_le h0
  have hj : j < xs.length := by omega
  exact ⟨xs[j], atI_nat (by simp [hj]), List.getElem_mem hj⟩
theorem atI_getD {α : Type} {xs : List α} {i : Int} {d : α} (h0 : 0 ≤ i) (h1 : i < xs.length) : atI xs i = some (xs.getD i.toNat d) := by
  obtain ⟨j, rfl⟩ := Int.eq_ofNat_of_zero_le h0
  have hj : j < xs.length := by omega
  refine atI_nat ?_
  simp [List.getD, hj]
/-- a comprehension over one name: Pv holds between two turns -/
theorem comp_by {x : Str} {F : List (Str × Nat)} {J : It} {n : Nat} {tt : TT} {te : TE} {σ : St} {Q : VK} {H1 : Hp} (Pv : Nat → List V → Hp → Prop) (hn : n ≤ sizeLine) (h0 : Pv 0 [] H1) (hgo : ∀ i ys H, i < n → Pv i ys H → J.go i H)
    (hst : ∀ ys H, Pv n ys H → J.stop n H)
    (hs : ∀ i ys H y H2, i < n → ys.length ≤ i → Pv i ys H → J.yld i H y H2 → tt (some y :: F.map (fun p => (σ[p.2]?).join)) H2 fun b H3 => if b = true then te (some y :: F.map (fun p => (σ[p.2]?).join)) H3 fun z H4 => Pv (i + 1) (ys ++ [z]) H4 else Pv (i + 1) ys H3)
    (hd : ∀ ys H, ys.length ≤ n → Pv n ys H → ∀ p, H p = none → Q (.ref p) (upd H p (.lst ys))) : CompBody [x] F (gName 0) tt te σ Q J H1 := by
  refine ⟨fun i m ys H => m = n - i ∧ i ≤ n ∧ Pv i ys H, ⟨n, by simp, Nat.zero_le _, h0⟩, ?_⟩
  rintro i m ys H ⟨rfl, hi, p⟩ hl
  by_cases hlt : i < n
  · refine .inr ⟨hgo i ys H hlt p, by omega, Pv (i + 1), fun ys' H'' q => ⟨n - (i + 1), by omega, rfl, hlt, q⟩, fun y H2 hy => ?_⟩
    exact ⟨weak_set (i := 0) rfl, hs i ys H y H2 hlt hl p hy⟩
  · have e : i = n := by omega
    subst e
    exact .inl ⟨hst ys H p, hn, hd ys H hl p⟩
/-- .. over a range, without a test -/
theorem comp_rng {x : Str} {F : List (Str × Nat)} {lo : Int} {n : Nat} {te : TE} {σ : St} {Q : VK} {H1 : Hp} (Pv : Nat → List V → Hp → Prop) (hn : n ≤ sizeLine) (h0 : Pv 0 [] H1)
    (hs : ∀ (i : Nat) ys H, i < n → ys.length ≤ i → Pv i ys H → te (some (.int (lo + i)) :: F.map (fun p => (σ[p.2]?).join)) H fun z H4 => Pv (i + 1) (ys ++ [z]) H4)
    (hd : ∀ ys H, ys.length ≤ n → Pv n ys H → ∀ p, H p = none → Q (.ref p) (upd H p (.lst ys))) : CompBody [x] F (gName 0) tTrue te σ Q (Itr lo n) H1 :=
  comp_by Pv hn h0 (fun i _ _ h _ => h) (fun _ _ _ => Nat.le_refl _) (fun i ys H y H2 h1 h2 h3 h4 => by
    obtain ⟨rfl, rfl⟩ := h4
    exact hs i ys _ h1 h2 h3) hd
/-- .. over a text -/
theorem comp_str {x : Str} {F : List (Str × Nat)} {w : Str} {tt : TT} {te : TE} {σ : St} {Q : VK} {H1 : Hp} (Pv : Nat → List V → Hp → Prop) (hn : (ts w).length ≤ sizeLine) (h0 : Pv 0 [] H1)
    (hs : ∀ i c ys H, (ts w)[i]? = some c → ys.length ≤ i → Pv i ys H → tt (some (.str (tx [c])) :: F.map (fun p => (σ[p.2]?).join)) H fun b H3 => if b = true then te (some (.str (tx [c])) :: F.map (fun p => (σ[p.2]?).join)) H3 fun z H4 => Pv (i + 1) (ys ++ [z]) H4 else Pv (i + 1) ys H3)
    (hd : ∀ ys H, ys.length ≤ (ts w).length → Pv (ts w).length ys H → ∀ p, H p = none → Q (.ref p) (upd H p (.lst ys))) : CompBody [x] F (gName 0) tt te σ Q (Its w) H1 :=
  comp_by Pv hn h0 (fun i _ _ h _ => h) (fun _ _ _ => Nat.le_refl _) (fun i ys H y H2 h1 h2 h3 h4 => by
    obtain ⟨rfl, c, hc, rfl⟩ := h4
    exact hs i c ys _ hc h2 h3) hd
end L2
namespace L2
open PySem PySem.Spec PyProof.Rows
section
variable {X : Cx} {x : Str} {pos : Pos}
theorem pe_gs {z : Str} (hg : Gl X x) (h : ∃ t, X.mg x = some (.str z t)) (hd : (x == ("__debug__" : Str)) = false := by decide) : PE X (.Name x pos) (tC (.str z)) := by
  obtain ⟨t, h⟩ := h
  exact pe_glob hg h ⟨t, rfl⟩ hd
theorem pe_gi {z : Int} (hg : Gl X x) (h : ∃ t, X.mg x = some (.int z t)) (hd : (x == ("__debug__" : Str)) = false := by decide) : PE X (.Name x pos) (tC (.int z)) := by
  obtain ⟨t, h⟩ := h
  exact pe_glob hg h ⟨t, rfl⟩ hd
end
end L2
namespace L2
open PySem PySem.Spec PyProof.Rows
theorem cxOf_K {CX : CXT} {P : Program} {w : World} {K : PySem.W.Frag} {mg : Str → Option Value} {base : Heap} {N : List Str} {qual : Str} {scope : Scope} {f : Addr} {cd : Value} {A : Around} {outer : List Env} {s : Shared} {H : Hp} {E : XK} : (cxOf CX P w K mg base N qual scope f cd A outer s H E).K = K := rfl
theorem nox_K {X : Cx} : X.nox.K = X.K := rfl
theorem compCx_K {X : Cx} {own : List Str} {F : List (Str × Nat)} {scope : Scope} {C : Addr} {s₃ : Shared} {H₃ : Hp} {ex : List Addr} : (compCx X own F scope C s₃ H₃ ex).K = X.K := rfl
theorem flat_ints (ns : List Int) : (ns.map V.int).all flatV = true := by
  rw [List.all_map]; exact List.all_eq_true.mpr fun _ _ => rfl
theorem flat_strs (ns : List Str) : (ns.map V.str).all flatV = true := by
  rw [List.all_map]; exact List.all_eq_true.mpr fun _ _ => rfl
theorem eqLs_nil (xs : List V) : eqLs xs [] = xs.isEmpty := by cases xs <;> rfl
end L2
namespace L2
theorem natAbs10 : Int.natAbs 10 = 10 := rfl
end L2
namespace L2
open PySem PySem.Spec PyProof.Rows
def ForB (g : TG) (tb : TS) (D : Ends) (σ : St) (J : It) (H1 : Hp) : Prop := ∃ W : Nat → Nat → St → Hp → Prop, (∃ m, W 0 m σ H1) ∧ ∀ i m σ H, W i m σ H →
  (J.stop i H ∧ D.nx σ H) ∨ (J.go i H ∧ ∃ N : St → Hp → Prop, (∀ σ' H', N σ' H' → ∃ m', m' < m ∧ W (i + 1) m' σ' H') ∧ ∀ x H', J.yld i H x H' → g x σ H' fun σ2 H2 => tb { D with nx := N, ct := N, bk := D.nx } σ2 H2)
theorem tFor_eq (wi : TI) (g : TG) (tb : TS) (D : Ends) (σ : St) (H : Hp) : tFor wi g tb D σ H = wi σ H fun J H1 => ForB g tb D σ J H1 := rfl
theorem forB_rng {lo : Int} {n : Nat} {g : TG} {tb : TS} {D : Ends} {σ : St} {H : Hp} (Pv : Nat → St → Hp → Prop) (h0 : Pv 0 σ H)
    (hs : ∀ i σ H, i < n → Pv i σ H → g (.int (lo + i)) σ H fun σ2 H2 => tb { D with nx := Pv (i + 1), ct := Pv (i + 1), bk := D.nx } σ2 H2) (hd : ∀ σ H, Pv n σ H → D.nx σ H) : ForB g tb D σ (Itr lo n) H := for_range Pv h0 hs hd
theorem forB_list {K : PySem.W.Frag} {a : Addr} {xs : List V} {g : TG} {tb : TS} {D : Ends} {σ : St} {H : Hp} (Pv : Nat → St → Hp → Prop) (h0 : Pv 0 σ H) (hl : ∀ i σ H, i ≤ xs.length → Pv i σ H → SqL K H a xs)
    (hs : ∀ i x σ H, xs[i]? = some x → Pv i σ H → g x σ H fun σ2 H2 => tb { D with nx := Pv (i + 1), ct := Pv (i + 1), bk := D.nx } σ2 H2) (hd : ∀ σ H, Pv xs.length σ H → D.nx σ H) : ForB g tb D σ (Itl K a) H := for_list Pv h0 hl hs hd
section
variable {X : Cx}
theorem call_intB : CallR X (.type "int") (fun xs H Q => ∃ k, xs = [.bl k] ∧ Q (.int (if k then 1 else 0)) H) := fun pins s σ H xs us Q I r h => call_int1 pins s σ H xs us Q I r (.inr h)
theorem call_len_l : CallR X (.builtin "len") (fun xs H Q => ∃ p, xs = [.ref p] ∧ ∃ ys, SqL X.K H p ys ∧ Q (.int ys.length) H) := fun pins s σ H xs us Q I r ⟨p, e, ys, h, q⟩ => call_len_seq pins s σ H xs us Q I r ⟨p, ys, e, .inl h, q⟩
end
abbrev nK (k : List Nat) : Key := Sum.inr (tx k)
theorem nK_inj {a b : List Nat} (h : nK a = nK b) : a = b := by
  have e : tx a = tx b := Sum.inr.inj h
  rw [← ts_tx a, e, ts_tx]
theorem Reps.repl {H : Hp} {k : Key} {v : V} {t : T} (hv : Rep H v t) : ∀ {ps : List (Key × V)} {ts : List T}, Reps H (ps.map (·.2)) ts → ∃ ts', Reps H ((ps.map fun kv => if kv.1 = k then (kv.1, v) else kv).map (·.2)) ts' ∧ ts'.length = ts.length ∧ ∀ u ∈ ts', u ∈ ts ∨ u = t
  | [], ts, h => ⟨ts, h, rfl, fun u hu => .inl hu⟩
  | p :: ps, [], h => by
    have h' : (p :: ps).map (·.2) = [] := h
    cases h'
  | p :: ps, u :: ts, ⟨v', r, e, h1, h2⟩ => by
    have e' : p.2 :: ps.map (·.2) = v' :: r := e
    injection e' with e1 e2
    subst e1 e2
    obtain ⟨ts', r', l', m'⟩ := Reps.repl hv h2
    by_cases hk : p.1 = k
    · refine ⟨t :: ts', ⟨v, _, ?_, hv, r'⟩, by simp [l'], fun z hz => ?_⟩
      · rw [List.map_cons, if_pos hk, List.map_cons]
      · rcases List.mem_cons.mp hz with q | q
        · exact .inr q
        · exact (m' z q).imp (List.mem_cons_of_mem _) id
    · refine ⟨u :: ts', ⟨p.2, _, ?_, h1, r'⟩, by simp [l'], fun z hz => ?_⟩
      · rw [List.map_cons, if_neg hk, List.map_cons]
      · rcases List.mem_cons.mp hz with q | q
        · exact .inl (by rw [q]; exact List.mem_cons_self)
        · exact (m' z q).imp (List.mem_cons_of_mem _) id
theorem put_rep {H : Hp} {ps : List (Key × V)} {ks : List (List Nat)} {ts : List T} {n : List Nat} {v : V} {t : T} (hk : ps.map (·.1) = ks.map nK) (hR : Reps H (ps.map (·.2)) ts) (nd : ks.Nodup) (hv : Rep H v t) :
    ∃ (ks' : List (List Nat)) (ts' : List T), (putK ps (nK n) v).map (·.1) = ks'.map nK ∧ Reps H ((putK ps (nK n) v).map (·.2)) ts' ∧ ks'.Nodup ∧ (∀ k ∈ ks', k ∈ ks ∨ k = n) ∧ (∀ u ∈ ts', u ∈ ts ∨ u = t) ∧ ks'.length ≤ ks.length + 1 := by
  unfold putK
  by_cases h : (ps.any fun kv => decide (kv.1 = nK n)) = true
  · rw [if_pos h]
    obtain ⟨ts', r', l', m'⟩ := Reps.repl (k := nK n) hv hR
    refine ⟨ks, ts', ?_, r', nd, fun k hk => .inl hk, m', Nat.le_succ _⟩
    rw [← hk, List.map_map]
    apply List.map_congr_left
    intro p _
    show (if p.1 = nK n then (p.1, v) else p).1 = p.1
    split <;> rfl
  · rw [if_neg h]
    refine ⟨ks ++ [n], ts ++ [t], by rw [List.map_append, hk, List.map_append]; rfl, by rw [List.map_append]; exact Reps.snoc hv hR, ?_, fun k hk => ?_, fun u hu => ?_, by simp⟩
    · refine nd_snoc nd fun hm => h (List.any_eq_true.mpr ?_)
      have hm' : nK n ∈ ps.map (·.1) := by rw [hk]; exact List.mem_map.mpr ⟨n, hm, rfl⟩
      obtain ⟨p, hp, e⟩ := List.mem_map.mp hm'
      exact ⟨p, hp, decide_eq_true e⟩
    · rcases List.mem_append.mp hk with q | q
      · exact .inl q
      · exact .inr (List.mem_singleton.mp q)
    · rcases List.mem_append.mp hu with q | q
      · exact .inl q
      · exact .inr (List.mem_singleton.mp q)
theorem NiceL_iff {d : Nat} : ∀ {ts : List T}, NiceL d ts ↔ ∀ t ∈ ts, Nice d t
  | [] => ⟨fun _ _ h => (nomatch h), fun _ => trivial⟩
  | u :: ts => by
    show (Nice d u ∧ NiceL d ts) ↔ _
    rw [NiceL_iff (ts := ts)]
    exact ⟨fun h t ht => (List.mem_cons.mp ht).elim (fun e => e ▸ h.1) (h.2 t), fun h => ⟨h u List.mem_cons_self, fun t ht => h t (List.mem_cons_of_mem _ ht)⟩⟩
end L2
namespace L2
open PySem PySem.Spec PyProof.Rows
theorem ts_l36 : ts (Str.ofString "abcdefghijklmnopqrstuvwxyz0123456789") = letL ++ figL := by decide +kernel
theorem ts_l26 : ts (Str.ofString "abcdefghijklmnopqrstuvwxyz") = letL := by decide +kernel
theorem ts_f10 : ts (Str.ofString "0123456789") = figL := by decide +kernel
theorem ts_a : ts (Str.ofString "a") = [97] := by decide +kernel
theorem ts_q : ts (Str.ofString "'") = [39] := by decide +kernel
theorem of_nil : Str.ofString "" = tx [] := by decide +kernel
theorem rep_one (c k : Nat) : (List.replicate k [c]).flatten = List.replicate k c := by
  induction k with
  | zero => rfl
  | succ k ih => rw [List.replicate_succ, List.flatten_cons, ih, List.replicate_succ]; rfl
theorem okName_of {w : List Nat} (h1 : w.length ≤ 12) (h3 : ∃ c r, w = c :: r ∧ c ∈ letL) (h4 : ∀ c ∈ w, c ∈ letL ++ figL) : okName w = true := by
  obtain ⟨c, r, rfl, hc⟩ := h3
  unfold okName
  simp only [Bool.and_eq_true, decide_eq_true_eq, List.all_eq_true]
  exact ⟨⟨⟨by simp, h1⟩, hc⟩, h4⟩
theorem okText_of {w : List Nat} (h1 : w.length ≤ 30) (h4 : ∀ c ∈ w, c ∈ sgnL) : okText w = true := by
  unfold okText
  simp only [Bool.and_eq_true, decide_eq_true_eq, List.all_eq_true]
  exact ⟨h1, h4⟩
theorem at_l36 {i : Int} (h0 : 0 ≤ i) (h1 : i < 36) : ∃ c, atI (letL ++ figL) i = some c ∧ c ∈ letL ++ figL := atI_of h0 (by show i < ((36 : Nat) : Int); omega)
theorem at_l26 {i : Int} (h0 : 0 ≤ i) (h1 : i < 26) : ∃ c, atI (letL ++ figL) i = some c ∧ c ∈ letL := by
  obtain ⟨j, rfl⟩ := Int.eq_ofNat_of_zero_le h0
  have hj : j < 26 := by omega
  have hj' : j < letL.length := hj
  refine ⟨letL[j], atI_nat (by rw [List.getElem?_append_left hj']; simp [hj']), List.getElem_mem hj'⟩
theorem a_letL : 97 ∈ letL := by decide
theorem letL_sub {c : Nat} (h : c ∈ letL) : c ∈ letL ++ figL := List.mem_append_left _ h
end L2
namespace L2
theorem all_filter {α : Type} (p : α → Bool) : ∀ l : List α, l.all p = (l.filter fun c => !p c).isEmpty
  | [] => rfl
  | a :: r => by
    rw [List.all_cons, List.filter_cons, all_filter p r]
    cases p a <;> simp
end L2
namespace L2
open PySem PySem.Spec PyProof.Rows
theorem ts_sgn : Str.ofString " !\"#$&'()*+,-./0123456789:;<=>?@ABCDEFGHIJKLMNOPQRSTUVWXYZ[\\]^_`" ++ Str.ofString "abcdefghijklmnopqrstuvwxyz{|}~" = tx sgnL := by decide +kernel
theorem q_sgnL : 39 ∈ sgnL := by decide
theorem at_sgn {i : Int} (h0 : 0 ≤ i) (h1 : i < 94) : ∃ c, atI sgnL i = some c ∧ c ∈ sgnL := atI_of h0 (by show i < ((94 : Nat) : Int); omega)
theorem flat_one (cs : List Nat) : ((cs.map fun c => tx [c]).map ts).flatten = cs := by
  induction cs with
  | nil => rfl
  | cons d r ih => simp only [List.map_cons, List.flatten_cons, ih, ts_tx]; rfl
end L2
namespace L2
open PySem PySem.Spec PyProof.Rows
theorem HOk.sim {P : Program} {w : World} {H H' : Hp} {h : Heap} (ok : HOk P w H h) (ho : ∀ b a, H b = some (.own a) → H' b = some (.own a)) (ht : ∀ b xs, H b = some (.tup xs) → H' b = some (.tup xs))
    (hs : ∀ b u, H' b = some u → H b = some u ∨ (∃ o, H b = some (.frz o u)) ∨ ∃ o u', u = .frz o u' ∧ H b = some u' ∧ h.get? b = some o) : HOk P w H' h := fun b u e => by
  rcases hs b u e with q | ⟨o, q⟩ | ⟨o, u', rfl, q, g⟩
  · exact (ok b u q).stay (fun _ _ _ z => z) (fun c z => ho c b z) fun c xs z => ht c xs z
  · obtain ⟨_, z⟩ := (show ObjOk P w H h b (.frz o u) from ok b _ q)
    exact z.stay (fun _ _ _ z => z) (fun c z => ho c b z) fun c xs z => ht c xs z
  · exact ⟨g, (ok b u' q).stay (fun _ _ _ z => z) (fun c z => ho c b z) fun c xs z => ht c xs z⟩
section
variable {X : Cx} {pins : List (Addr × Obj)} {σ σ' : St} {H H' : Hp} {s s' : Shared}
theorem Inv.sim (I : Inv X pins σ H s) (hn : ∀ b, H b = none → H' b = none) (ho : ∀ b a, H b = some (.own a) → H' b = some (.own a)) (ht : ∀ b xs, H b = some (.tup xs) → H' b = some (.tup xs))
    (hb : ∀ b ps, H b = some (.tbl ps) → H' b = some (.tbl ps)) (hf : ∀ b o u, X.H₀ b = some (.frz o u) → H' b = some (.frz o u))
    (hs : ∀ b u, H' b = some u → H b = some u ∨ (∃ o, H b = some (.frz o u)) ∨ ∃ o u', u = .frz o u' ∧ H b = some u' ∧ s.heap.get? b = some o) : Inv X pins σ H' s :=
  ⟨I.ok, I.os, I.bare, ⟨I.base.keep, I.base.slot, fun b o e n hx => hn b (I.base.free b o e n hx), I.base.there, fun b xs e => ht b xs (I.base.tups b xs e), hf, fun b ps e => by
    obtain ⟨m, q⟩ := I.base.tbls b ps e
    exact ⟨m, hb b _ q⟩⟩, I.loc, I.cell, hn _ I.free, fun x c e => hn _ (I.freeC x c e), fun p hp => by
    obtain ⟨a, b, c, d, e⟩ := I.pin p hp
    exact ⟨a, hn _ b, c, d, e⟩, I.hok.sim ho ht hs, I.len⟩
theorem Inv.freeze {d : Addr} {kvs : List (Key × V)} {o : Obj} (I : Inv X pins σ H s) (h : H d = some (.dK kvs)) (hg : s.heap.get? d = some o) : Inv X pins σ (upd H d (.frz o (.dK kvs))) s := by
  have ne : ∀ b u, H b = u → u ≠ some (.dK kvs) → b ≠ d := fun b u e n z => by subst z; exact n (e.symm.trans h)
  refine I.sim (fun b e => by rw [upd_ne (ne b _ e (by intro z; cases z))]; exact e) (fun b a e => by rw [upd_ne (ne b _ e (by intro z; cases z))]; exact e) (fun b a e => by rw [upd_ne (ne b _ e (by intro z; cases z))]; exact e)
    (fun b a e => by rw [upd_ne (ne b _ e (by intro z; cases z))]; exact e) (fun b o' u e => ?_) fun b u e => ?_
  · have e' := I.base.frzs b o' u e
    rw [upd_ne (ne b _ e' (by intro z; cases z))]; exact e'
  · by_cases hb : b = d
    · subst hb
      rw [upd_same] at e; cases e
      exact .inr (.inr ⟨o, _, rfl, h, hg⟩)
    · rw [upd_ne hb] at e; exact .inl e
/-- what was known to its object for a walk is freed again -/
def thaw (H H' : Hp) : Hp := fun b => match H b with
  | some (.frz _ _) => H' b
  | _ => match H' b with
    | some (.frz _ u) => some u
    | y => y
theorem thaw_frz {b : Addr} {o : Obj} {u : HO} (h : H b = some (.frz o u)) : thaw H H' b = H' b := by unfold thaw; rw [h]
theorem thaw_none {b : Addr} (h : H' b = none) : thaw H H' b = none := by unfold thaw; rw [h]; split <;> rfl
theorem thaw_of {b : Addr} {u : HO} (h : H' b = some u) (n : ∀ o v, u ≠ .frz o v) : thaw H H' b = some u := by
  unfold thaw; rw [h]
  split
  · rfl
  · cases u <;> first | rfl | exact absurd rfl (n _ _)
theorem thaw_at {b : Addr} {o : Obj} {u : HO} (h : H' b = some (.frz o u)) (n : ∀ o v, H b ≠ some (.frz o v)) : thaw H H' b = some u := by
  unfold thaw; rw [h]
  cases e : H b with
  | none => rfl
  | some v => cases v <;> first | rfl | exact absurd e (n _ _)
theorem thaw_inv {b : Addr} {u : HO} (h : thaw H H' b = some u) : H' b = some u ∨ ∃ o, H' b = some (.frz o u) := by
  unfold thaw at h
  split at h
  · exact .inl h
  · split at h
    · rename_i o v e
      cases h
      exact .inr ⟨_, e⟩
    · exact .inl h
theorem Inv.thaw (I : Inv X pins σ H s) (J : Inv X pins σ' H' s') : Inv X pins σ' (thaw H H') s' :=
  J.sim (fun b e => thaw_none e) (fun b a e => thaw_of e (by intro o v z; cases z)) (fun b a e => thaw_of e (by intro o v z; cases z)) (fun b a e => thaw_of e (by intro o v z; cases z))
    (fun b o u e => by rw [thaw_frz (I.base.frzs b o u e)]; exact J.base.frzs b o u e) fun b u e => (thaw_inv e).imp id .inl
/-- from H on, thawed: nothing that was tracked has changed -/
theorem thaw_same {H H' : Hp} (h : ∀ b u, H b = some u → H' b = some u ∨ ((∃ o, H' b = some (.frz o u)) ∧ ∀ o v, u ≠ .frz o v)) : Same H (L2.thaw H H') := fun b u e => by
  rcases h b u e with q | ⟨⟨o, q⟩, n⟩
  · cases u with
    | frz o v => rw [thaw_frz e]; exact q
    | _ => exact thaw_of q (by intro o v z; cases z)
  · refine thaw_at q fun o' v z => ?_
    rw [e] at z; cases z; exact n _ _ rfl
def tThaw (t : TE) : TE := fun σ H Q => t σ H fun v H' => Q v (thaw H H')
theorem pe_thaw {e : Expr} {t : TE} (h : PE X e t) : PE X e (tThaw t) := by
  intro pins s σ H Q I q
  refine thn (h pins s σ H _ I q) fun u s1 ⟨v, H1, I1, r, q1⟩ => ⟨v, _, I.thaw I1, r, q1⟩
end
theorem KV.get {κ : Type} : ∀ {kvs : List (κ × V)} {vs : List (κ × Value)} {i : Nat} {kv : κ × V}, KV kvs vs → kvs[i]? = some kv → ∃ q, vs[i]? = some q ∧ kv.1 = q.1 ∧ RelV kv.2 q.2
  | _, _, _, _, .nil, e => by simp at e
  | _, _, 0, _, .cons r _, e => by simp at e; subst e; exact ⟨_, rfl, r⟩
  | _, _, i + 1, x, .cons _ t, e => by
    obtain ⟨u, h1, h2⟩ := KV.get (i := i) (kv := x) t (by simpa using e)
    exact ⟨u, by simpa using h1, h2⟩
theorem rel_key {P : Program} {w : World} {k : Key} {u : Value} (h : (mixKind P w).is k u = true) : RelV (kV k) u := by
  rcases keyIs_shape (show keyIs k u = true from h) with ⟨i, t, rfl, rfl⟩ | ⟨x, t, rfl, rfl⟩
  · exact ⟨t, rfl⟩
  · exact ⟨t, rfl⟩
theorem dictAt_of {P : Program} {w : World} {H : Hp} {h : Heap} {d : Addr} {o : Obj} {kvs : List (Key × V)} {es : Array DictEntry} {ep : Nat} (ok : HOk P w H h) (e : H d = some (.frz o (.dK kvs))) (he : o.data = .dict es ep) :
    ∃ vs, KV kvs vs ∧ h.DictAt (mixKind P w) d vs ep ∧ (d == sysModules) = false ∧ kvs.length ≤ sizeLine := by
  obtain ⟨g, z, hd, vs, rel, o', es', ep', ho, c, hdat, r⟩ := (show ObjOk P w H h d (.frz o (.dK kvs)) from ok d _ e)
  rw [g] at ho; cases ho
  rw [he] at hdat; cases hdat
  exact ⟨vs, rel, ⟨o, es, g, c, he, r⟩, hd, z⟩
/-- the keys of the dict at d, which stays the very object -/
def Itd (d : Addr) (o : Obj) (kvs : List (Key × V)) : It :=
  ⟨fun i H => i < kvs.length ∧ H d = some (.frz o (.dK kvs)), fun i H y H' => H' = H ∧ ∃ kv, kvs[i]? = some kv ∧ y = kV kv.1, fun i H => kvs.length ≤ i ∧ H d = some (.frz o (.dK kvs))⟩
theorem turn_dict {P : Program} {w : World} {K : PySem.W.Frag} {tg : Expr} (d it : Addr) (o : Obj) (kvs : List (Key × V)) : Turn P w K tg (Itd d o kvs) [it] it (fun i h => ∃ es ep, o.data = .dict es ep ∧ h.IsKeyIter it d i kvs.length ep) where
  mem := by simp
  obj := fun i h st b hb => by
    obtain ⟨es, ep, _, ob, e, c, dd⟩ := st
    have e' : b = it := by simpa using hb
    subst e'
    exact ⟨ob, e, fun v z => by rw [dd] at z; cases z⟩
  keep := fun i h h' st k => by
    obtain ⟨es, ep, a, st⟩ := st
    exact ⟨es, ep, a, st.at fun ob e => k it (by simp) ob e⟩
  item := by
    intro X hP hw hK hc i pins s σ H E I hf st hg
    subst hP hw hK
    obtain ⟨es, ep, hes, st⟩ := st
    obtain ⟨hi, hg⟩ := hg
    obtain ⟨vs, rel, hm, _, _⟩ := dictAt_of I.hok hg hes
    obtain ⟨f0, f1, f2, f3, f4, f5⟩ := hf it (by simp)
    have hl := rel.length
    obtain ⟨kv, hkv⟩ : ∃ kv, kvs[i]? = some kv := ⟨kvs[i], by simp [hi]⟩
    obtain ⟨q, hq, hq1, hq2⟩ := KV.get rel hkv
    rw [hl] at st
    refine wpAny_pyNext_dict_item (k := q.1) (v := q.2) st hm hq fun key h' hk st' sb => ?_
    have I1 : Inv X pins σ H { s with heap := h' } := I.turned (t' := s.toks) (fun b o hb e => (sb.2 b hb).trans e) f0 f1 f3 f4 f5
    obtain ⟨ob, e, c, dd⟩ := id st'
    exact ⟨key, rfl, go_of (s := { s with heap := h' }) e c dd (by decide) ⟨kV kv.1, H, I1, by rw [hq1]; exact rel_key hk, ⟨rfl, kv, hkv, rfl⟩, ⟨es, ep, hes, by rw [hl]; exact st'⟩, fun b hb => (hf b hb).1⟩⟩
  done := by
    intro X hP hw hK hc i pins s σ H E I hf st hg
    subst hP hw hK
    obtain ⟨es, ep, hes, st⟩ := st
    obtain ⟨hi, hg⟩ := hg
    obtain ⟨vs, rel, hm, _, _⟩ := dictAt_of I.hok hg hes
    obtain ⟨f0, f1, f2, f3, f4, f5⟩ := hf it (by simp)
    have hl := rel.length
    rw [hl] at st
    exact wpAny_pyNext_dict_end (I.ok.hd hc) st hm (by simp; omega) fun h' eb => ⟨rfl, I.turned (t' := s.toks) (fun b o hb e => eb b o hb e) f0 f1 f3 f4 f5⟩
  self := fun _ _ _ _ _ st h => by
    obtain ⟨es, ep, _, st⟩ := st
    exact wpAny_pyIter_keyiter st h
def iDict (tl : TE) : TI := fun σ H R => tl σ H fun x H1 => ∃ d kvs, x = .ref d ∧ ((H1 d = some (.dK kvs) ∧ ∀ o, R (Itd d o kvs) (upd H1 d (.frz o (.dK kvs)))) ∨ ∃ o, H1 d = some (.frz o (.dK kvs)) ∧ R (Itd d o kvs) H1)
section
variable {X : Cx}
theorem pi_dict {tg l : Expr} {tl : TE} (hl : PE X l tl) : PI X tg l (iDict tl) := by
  intro pins s σ H R I h
  refine thn (hl pins s σ H _ I h) fun v s1 ⟨x, H1, I1, r1, q1⟩ => ?_
  obtain ⟨d, kvs, rfl, q⟩ := q1
  cases r1
  have fin : ∀ o H2, Inv X pins σ H2 s1 → H2 d = some (.frz o (.dK kvs)) → R (Itd d o kvs) H2 → wpAny (model X.prog X.w) X.A (pyIter (.ref d)) (PIE X pins σ tg R) X.xe s1 := fun o H2 I2 e q => by
    obtain ⟨g, z, hd, vs, rel, o', es, ep, ho, c, hdat, r⟩ := (show ObjOk X.prog X.w H2 s1.heap d (.frz o (.dK kvs)) from I2.hok d _ e)
    rw [g] at ho; cases ho
    have hm : s1.heap.DictAt (mixKind X.prog X.w) d vs ep := ⟨o, es, g, c, hdat, r⟩
    refine wpAny_pyIter_dict hd hm ?_
    refine ⟨s1.heap.objs.size, [s1.heap.objs.size], _, _, H2, rfl, I2.kept (t' := s1.toks) fun b o e => Heap.get?_push_of_some _ e, turn_dict d _ o kvs, ⟨es, ep, hdat, _, Heap.get?_push_size _ rfl, rfl, by rw [rel.length]; rfl⟩, fun b hb => ?_, q⟩
    have e : b = s1.heap.objs.size := by simpa using hb
    subst e
    exact I2.fpOk (Nat.le_refl _) (I2.hok.fresh (Nat.le_refl _))
  rcases q with ⟨e, q⟩ | ⟨o, e, q⟩
  · obtain ⟨z, hd, vs, rel, o, es, ep, ho, _⟩ := (show ObjOk X.prog X.w H1 s1.heap d (.dK kvs) from I1.hok d _ e)
    exact fin o _ (I1.freeze e ho) upd_same (q o)
  · exact fin o _ I1 e q
end
theorem comp_dict {x : Str} {F : List (Str × Nat)} {d : Addr} {o : Obj} {kvs : List (Key × V)} {tt : TT} {te : TE} {σ : St} {Q : VK} {H1 : Hp} (Pv : Nat → List V → Hp → Prop) (hn : kvs.length ≤ sizeLine) (h0 : Pv 0 [] H1) (hz : ∀ i ys H, Pv i ys H → H d = some (.frz o (.dK kvs)))
    (hs : ∀ i kv ys H, kvs[i]? = some kv → ys.length ≤ i → Pv i ys H → tt (some (kV kv.1) :: F.map (fun p => (σ[p.2]?).join)) H fun b H3 => if b = true then te (some (kV kv.1) :: F.map (fun p => (σ[p.2]?).join)) H3 fun z H4 => Pv (i + 1) (ys ++ [z]) H4 else Pv (i + 1) ys H3)
    (hd : ∀ ys H, ys.length ≤ kvs.length → Pv kvs.length ys H → ∀ p, H p = none → Q (.ref p) (upd H p (.lst ys))) : CompBody [x] F (gName 0) tt te σ Q (Itd d o kvs) H1 :=
  comp_by Pv hn h0 (fun i ys H h p => ⟨h, hz i ys H p⟩) (fun ys H p => ⟨Nat.le_refl _, hz _ ys H p⟩) (fun i ys H y H2 h1 h2 h3 h4 => by
    obtain ⟨rfl, kv, hkv, rfl⟩ := h4
    exact hs i kv ys _ hkv h2 h3) hd
/-- .. over a list -/
theorem comp_list {K : PySem.W.Frag} {x : Str} {F : List (Str × Nat)} {a : Addr} {xs : List V} {tt : TT} {te : TE} {σ : St} {Q : VK} {H1 : Hp} (Pv : Nat → List V → Hp → Prop) (hn : xs.length ≤ sizeLine) (h0 : Pv 0 [] H1) (hz : ∀ i ys H, i ≤ xs.length → Pv i ys H → SqL K H a xs)
    (hs : ∀ i v ys H, xs[i]? = some v → ys.length ≤ i → Pv i ys H → tt (some v :: F.map (fun p => (σ[p.2]?).join)) H fun b H3 => if b = true then te (some v :: F.map (fun p => (σ[p.2]?).join)) H3 fun z H4 => Pv (i + 1) (ys ++ [z]) H4 else Pv (i + 1) ys H3)
    (hd : ∀ ys H, ys.length ≤ xs.length → Pv xs.length ys H → ∀ p, H p = none → Q (.ref p) (upd H p (.lst ys))) : CompBody [x] F (gName 0) tt te σ Q (Itl K a) H1 :=
  comp_by Pv hn h0 (fun i ys H h p => ⟨xs, xs[i], hz i ys H (Nat.le_of_lt h) p, by simp [h]⟩) (fun ys H p => ⟨xs, hz _ ys H (Nat.le_refl _) p, Nat.le_refl _⟩) (fun i ys H y H2 h1 h2 h3 h4 => by
    obtain ⟨rfl, hy⟩ := h4
    exact hs i y ys _ (hy xs (hz i ys _ (Nat.le_of_lt h1) h3)) h2 h3) hd
def valsO (p d : Addr) : HO := .ext fun h => h.IsValuesView p d
section
variable {X : Cx}
theorem kv_vals {κ : Type} : ∀ {kvs : List (κ × V)} {vs : List (κ × Value)}, KV kvs vs → Vals (kvs.map (·.2)) (vs.map (·.2))
  | _, _, .nil => .nil
  | _, _, .cons r t => .cons r.2 (kv_vals t)
def rVals : V → List V → Hp → VK → Prop := fun x vs H Q => ∃ d kvs, x = .ref d ∧ vs = [] ∧ Rd H d (.dK kvs) ∧ ∀ p, H p = none → Q (.ref p) (upd H p (valsO p d))
theorem mt_values : MtR X "dict.values" rVals := by
  intro pins s σ H x vs v us Q I rx rv h
  obtain ⟨d, kvs, rfl, rfl, hq, q⟩ := h
  cases rx
  cases rv
  obtain ⟨z, hd, ws, rel, dd⟩ := dk_rd I.hok hq
  refine call_meetsIn PySem.F.slot_dict_values dd.typeIs PySem.F.entry_dict_values (PySem.F.args_dict_values_1 _) (meets_dict_values (mixKind X.prog X.w) d hd) ⟨⟨ws, dd⟩, ?_⟩
  refine ⟨.ref s.heap.objs.size, _, I.laid (t' := s.toks) (fun b o e => Heap.get?_push_of_some _ e) (Nat.le_refl _) (o := valsO s.heap.objs.size d) ?_, rfl, q _ (I.hok.fresh (Nat.le_refl _))⟩
  exact ⟨⟨_, Heap.get?_push_size _ rfl, rfl, rfl⟩, ⟨_, Heap.get?_push_size _ rfl⟩, fun h1 h2 ⟨o, e, r⟩ k => ⟨o, k o e, r⟩⟩
theorem call_list_v (hc : X.calm = true) : CallR X (.type "list") (fun xs H Q => ∃ p d kvs, xs = [.ref p] ∧ H p = some (valsO p d) ∧ Rd H d (.dK kvs) ∧ ∀ l, H l = none → Q (.ref l) (upd H l (.lst (kvs.map (·.2))))) := by
  intro pins s σ H xs us Q I r h
  obtain ⟨p, d, kvs, rfl, hp, hq, q⟩ := h
  obtain ⟨u, rfl, rx⟩ := vals1 r
  cases rx
  obtain ⟨z, hd, vs, rel, dd⟩ := dk_rd I.hok hq
  obtain ⟨hv, _⟩ := (show ObjOk X.prog X.w H s.heap p (valsO p d) from I.hok p _ hp)
  obtain ⟨ep, hat⟩ := dd.dictAt
  have hl := rel.length
  refine PySem.W.kdl_call (PySem.W.kdl_values (knd := mixKind X.prog X.w) (kvs := vs) (ep := ep)) (I.ok.hd hc) ⟨hv, hat⟩ (by omega) fun h' tk acc c' hk hg hi => ?_
  refine ⟨.ref s.heap.objs.size, _, I.laid (t' := tk) hk (Nat.le_refl _) (o := .lst (kvs.map (·.2))) ?_, rfl, q _ (I.hok.fresh (Nat.le_refl _))⟩
  have e : acc.toList = vs.map (·.2) := PySem.W.kdl_vals_eq acc.toList (by rw [Array.length_toList]; exact hi.1) (fun j v e => hi.2 j v (by rw [← Array.getElem?_toList]; exact e))
  exact ⟨by rw [List.length_map]; exact z, acc.toList, c', by rw [e]; exact kv_vals rel, by simpa using hg⟩
end
end L2
namespace L2
open PySem PySem.Spec PyProof.Rows
theorem pr_keys_miss : typeLookup (.type "list") "keys" = pure none := am_miss_of_fast (by decide +kernel)
theorem pr_entry_loop : entryFor table "dict.update.loop" = some Builtin.«dict.update.loop» := entryFor_of_tree (by kernel_rfl)
theorem pr_plain_loop : plainId "dict.update.loop" = true := by decide +kernel
section
variable {prog : Program} {w : World} {A : Around} {E : Value → Shared → Prop}
theorem pr_noKeys {s : Shared} {a : Addr} {xs : Array Value} {k : Nat} {name : Str} {Q : Option Value → Shared → Prop}
    (hx : s.heap.get? a = some { cls := .type "list", dict := none, data := .seq xs k, slots := #[] }) (hmiss : typeLookup (.type "list") name = pure none) (hname : (["__module__", "__name__", "__qualname__", "__doc__", "__annotations__"] : List Str).contains name = false) (hA : A.handled = none)
    (h : ∀ h' tk, (∀ b o, s.heap.get? b = some o → h'.get? b = some o) → Q none { s with heap := h', toks := tk }) (hsz : name.length + 100 ≤ sizeLine := by size_fits) :
    wpAny (model prog w) A (getAttr? (.ref a) name) Q E s := by
  obtain ⟨hp, g, d, tk, os⟩ := s
  have hT : ∀ tk', (⟨hp, g, d, tk', os⟩ : Shared).TypeIs (.ref a) "list" := fun _ => ⟨_, hx, rfl⟩
  have f1 := sub_AttributeError
  have f3 := F.slot_list_getattribute.lookup
  have f4 := F.slot_list_getattribute.bind (.ref a)
  have f5 := am_list_getattr_none
  unfold getAttr? getAttrBy? getAttrBy
  repeat (any_goals (first | assumption | exact hT _ | ((with_reducible show wpAny _ _ (call (Value.builtin "list.__getattribute__") _ _) _ _ _); refine call_meets F.slot_list_getattribute (hT _) am_entry_list_getattribute (F.args_list_getattribute_2 _ _) (meets_getattribute_miss_list a xs k #[] name _ hmiss hname hsz) ⟨hx, hA, fun h' tk' e hx' => ?_⟩) | wp_step))
  obtain ⟨t', u', he⟩ := hx'.there
  show wpAny _ _ (getattributeRaised _ _ _ _ _ _ _) _ _ _
  unfold getattributeRaised
  repeat (any_goals (first | assumption | wp_step))
  exact h h' tk' fun b o e => hx'.keeps b o e
/-- the pairs are laid one by one -/
theorem pr_loop {κ : Type} [DecidableEq κ] (knd : KeyKind prog w κ) (hh : A.handled = none) {d it l : Addr} {items : Array Value} {ps : List (κ × Value)} {R : Result → Shared → Prop} (hdi : d ≠ it) (hdl : d ≠ l) (hil : it ≠ l) (hps : ps.length = items.size) :
    ∀ (n i : Nat) (s : Shared) (kvs : List (κ × Value)), items.size - i = n → i ≤ items.size → s.heap.IsListIter it l i → s.heap.IsList l items →
      (∀ (j : Nat) k v, ps[j]? = some (k, v) → ∃ a key, items[j]? = some (.ref a) ∧ a ≠ d ∧ a ≠ it ∧ IsTup s.heap a #[key, v] ∧ knd.is k key = true) → s.heap.DictOf knd d kvs → kvs.length + n ≤ sizeLine →
      (∀ h' tk, h'.DictOf knd d ((ps.drop i).foldl (fun m kv => stored m kv.1 kv.2) kvs) → (∀ b o, b ≠ d → b ≠ it → s.heap.get? b = some o → h'.get? b = some o) → R (.ok (.ret .none)) { s with heap := h', toks := tk }) →
      codeAny (model prog w) A (.builtin "dict.update.loop" ⟨[.ref d, .ref it, rawInt i, .none], []⟩) R s := by
  intro n
  induction n with
  | zero =>
    intro i s kvs hn hi hit hl hp hd hz hR
    refine codeAny_builtin pr_entry_loop ?_
    rw [Around.under_plainId pr_plain_loop _]
    unfold Builtin.«dict.update.loop»
    show wpAny _ A.in1 (pyNext (.ref it) >>= _) _ _ s
    refine wpAny_bind (wpAny_pyNext_list_end (show A.in1.handled = none from hh) hit hl (by simp; omega) fun h' eb => ?_)
    show wpAny _ _ (Builtin.Dict.addKeywords d [] >>= fun _ => ret .none) _ _ _
    refine wpAny_bind (wpAny_pure (wpAny_pure (hR h' _ ?_ fun b o hb hi' e => eb b o hi' e)))
    rw [List.drop_eq_nil_of_le (by omega)]
    exact hd.extBut eb hdi
  | succ n ih =>
    intro i s kvs hn hi hit hl hp hd hz hR
    refine codeAny_builtin pr_entry_loop ?_
    rw [Around.under_plainId pr_plain_loop _]
    unfold Builtin.«dict.update.loop»
    have hlt : i < items.size := by omega
    obtain ⟨kv, hkv⟩ : ∃ kv, ps[i]? = some kv := ⟨ps[i], by simp [hps, hlt]⟩
    obtain ⟨a, key, ha, had, hai, ht, hk⟩ := hp i kv.1 kv.2 hkv
    show wpAny _ A.in1 (pyNext (.ref it) >>= _) _ _ s
    refine wpAny_bind (wpAny_pyNext_list_item hit hl (x := .ref a) ha fun h' st' sb => ?_)
    show wpAny _ _ (holding [Value.ref a] (Sem.tryCatch (Builtin.Dict.pairItems (.ref a)) _ >>= _) >>= fun _ => again _) _ _ _
    have kp : ∀ b o, b ≠ it → s.heap.get? b = some o → h'.get? b = some o := fun b o hb e => (sb.2 b hb).trans e
    obtain ⟨o, ho, hc, m, hdat⟩ := id ht
    refine wpAny_bind (wpAny_holding (wpAny_bind (wpAny_tryCatch ?_)))
    unfold Builtin.Dict.pairItems
    refine wpAny_bind (wpAny_typeOf (T := "tuple") ⟨o, kp a o hai ho, hc⟩ ?_)
    rw [if_pos (by decide)]
    refine wpAny_bind (wpAny_seqItems (kp a o hai ho) hdat (wpAny_pure ?_))
    show wpAny _ _ (holding [key, kv.2] (dictSet d key kv.2)) _ _ _
    refine wpAny_holding (wpAny_dictSet_pairs hk (hd.sameBut sb hdi) (fun h2 hd2 sb2 => ?_) (by omega))
    have kp2 : ∀ b o, b ≠ d → b ≠ it → s.heap.get? b = some o → h2.get? b = some o := fun b o hb hi' e => (sb2.2 b hb).trans (kp b o hi' e)
    have hc' : ((i : Int) + 1) = ((i + 1 : Nat) : Int) := by omega
    rw [hc']
    refine wpAny_pure ⟨plainId_quiet pr_plain_loop _, ih (i + 1) _ (stored kvs kv.1 kv.2) (by omega) (by omega) ?_ ?_ ?_ hd2 ?_ ?_⟩
    · exact st'.at fun o e => (sb2.2 it (Ne.symm hdi)).trans e
    · obtain ⟨ol, e1, e2⟩ := hl
      exact ⟨ol, kp2 l ol (Ne.symm hdl) (Ne.symm hil) e1, e2⟩
    · intro j k v e
      obtain ⟨a', key', x1, x2, x3, ⟨o', y1, y2⟩, x5⟩ := hp j k v e
      exact ⟨a', key', x1, x2, x3, ⟨o', kp2 a' o' x2 x3 y1, y2⟩, x5⟩
    · have : (stored kvs kv.1 kv.2).length ≤ kvs.length + 1 := by
        unfold stored
        split <;> simp
      omega
    · intro h3 tk hd3 k3
      refine hR h3 tk ?_ fun b o hb hi' e => k3 b o hb hi' (kp2 b o hb hi' e)
      have e : ps.drop i = kv :: ps.drop (i + 1) := by
        obtain ⟨hlt', e'⟩ := List.getElem?_eq_some_iff.mp hkv
        rw [List.drop_eq_getElem_cons hlt', e']
      rw [e, List.foldl_cons]
      exact hd3
end
section
variable {X : Cx}
/-- what the pairs hold, by values -/
theorem pr_pairs {P : Program} {w : World} {H : Hp} {h : Heap} (ok : HOk P w H h) : ∀ {kvs : List (Key × V)} {ys : List V} {its : List Value}, Vals ys its → kvs.length = ys.length → (∀ (j : Nat) kv, kvs[j]? = some kv → ∃ a, ys[j]? = some (.ref a) ∧ H a = some (.tup [kV kv.1, kv.2])) →
    ∃ ps : List (Key × Value), KV kvs ps ∧ ∀ (j : Nat) k v, ps[j]? = some (k, v) → ∃ a key, its[j]? = some (.ref a) ∧ IsTup h a #[key, v] ∧ (mixKind P w).is k key = true
  | [], [], _, .nil, _, _ => ⟨[], .nil, fun j k v e => by simp at e⟩
  | kv :: kvs, y :: ys, _, .cons r t, hl, hp => by
    obtain ⟨ps, rel, h2⟩ := pr_pairs ok (kvs := kvs) t (by simpa using hl) fun j kv' e => by
      obtain ⟨a, e1, e2⟩ := hp (j + 1) kv' (by simpa using e)
      exact ⟨a, by simpa using e1, e2⟩
    obtain ⟨a, e1, e2⟩ := hp 0 kv rfl
    simp only [List.getElem?_cons_zero, Option.some.injEq] at e1
    subst e1
    cases r
    obtain ⟨_, its2, rv, pl⟩ := (show ObjOk P w H h a (.tup [kV kv.1, kv.2]) from ok a _ e2)
    obtain ⟨u1, u2, e3, r1, r2⟩ := vals2 rv
    subst e3
    refine ⟨(kv.1, u2) :: ps, .cons ⟨rfl, r2⟩ rel, fun j k v e => ?_⟩
    cases j with
    | zero =>
      simp only [List.getElem?_cons_zero, Option.some.injEq, Prod.mk.injEq] at e
      obtain ⟨rfl, rfl⟩ := e
      exact ⟨a, u1, rfl, pl, kV_is r1⟩
    | succ j => simpa using h2 j k v (by simpa using e)
  | [], _ :: _, _, _, hl, _ => by simp at hl
  | _ :: _, [], _, _, hl, _ => by simp at hl
theorem call_dict_p (hc : X.calm = true) : CallR X (.type "dict") (fun xs H Q => ∃ (p : Addr) (ys : List V) (kvs : List (Key × V)), xs = [.ref p] ∧ H p = some (.lst ys) ∧ kvs.length = ys.length ∧ (∀ (j : Nat) kv, kvs[j]? = some kv → ∃ a, ys[j]? = some (.ref a) ∧ H a = some (.tup [kV kv.1, kv.2])) ∧
    ∀ l, H l = none → Q (.ref l) (upd H l (.dK (mergeK [] kvs)))) := by
  intro pins s σ H xs us Q I r h
  obtain ⟨p, ys, kvs, rfl, hq, hlen, hpair, q⟩ := h
  obtain ⟨u, rfl, rx⟩ := vals1 r
  cases rx
  obtain ⟨hz, its, n, rv, hg⟩ := (show ObjOk X.prog X.w H s.heap p (.lst ys) from I.hok p _ hq)
  obtain ⟨ps, rel, hps⟩ := pr_pairs I.hok rv hlen hpair
  have hl1 := rv.length
  have hl2 := rel.length
  have hplt : p < s.heap.objs.size := Heap.lt_size hg
  refine callType_codes (Q₁ := fun obj s₁ => obj = .ref s.heap.objs.size ∧ s₁ = { s with heap := s.heap.push { cls := .type "dict", data := .dict #[] } }) F.kt_called_dict (F.kt_typeCall_dict_1 _) F.entry_dict_init (kt_code_dict_new _ ⟨rfl, rfl⟩) ?_
  rintro obj s₁ ⟨rfl, rfl⟩
  have hnew : (s.heap.push { cls := .type "dict", data := .dict #[] }).DictOf (mixKind X.prog X.w) s.heap.objs.size [] := Heap.DictOf.new s.heap
  have hg1 := Heap.get?_push_of_some { cls := .type "dict", data := .dict #[] } hg
  refine ⟨hnew.typeIs, F.args_dict_init_2 _ _, ?_⟩
  unfold Builtin.«dict.__init__»
  refine wpAny_bind ?_
  unfold Builtin.Dict.selfAndRest
  refine wpAny_bind (wpAny_notOrdered_dict hnew.typeIs ?_)
  show wpAny _ _ (pure (s.heap.objs.size, [Value.ref p])) _ _ _
  refine wpAny_pure ?_
  show wpAny _ _ (Builtin.Dict.updateFrom "dict.__init__" s.heap.objs.size (.ref p) [] .none) _ _ _
  unfold Builtin.Dict.updateFrom
  refine wpAny_bind (wpAny_typeOf (T := "list") ⟨_, hg1, rfl⟩ ?_)
  rw [if_pos (by decide)]
  refine wpAny_bind (pr_noKeys hg1 pr_keys_miss (by decide +kernel) (I.ok.hd hc) (fun h2 tk2 k2 => ?_))
  rw [if_pos (by rfl)]
  refine wpAny_bind (wpAny_rule (wpAny_bind (wpAny_pyIter_list (items := its.toArray) ⟨_, k2 _ _ hg1, rfl, n, rfl⟩ ?_)))
  have k1 : ∀ b o, s.heap.get? b = some o → h2.get? b = some o := fun b o e => k2 b o (Heap.get?_push_of_some _ e)
  have hd2 : s.heap.objs.size < h2.objs.size := Heap.lt_size (k2 _ _ (Heap.get?_push_size _ rfl))
  have hpl : ∀ b o, h2.get? b = some o → (h2.push { cls := .type "list_iterator", data := .fields #[.ref p, .int 0 0] }).get? b = some o := fun b o e => Heap.get?_push_of_some _ e
  refine wpAny_pure ⟨plainId_quiet pr_plain_loop _, pr_loop (mixKind X.prog X.w) (show X.A.in1.handled = none from I.ok.hd hc) (d := s.heap.objs.size) (it := h2.objs.size) (l := p) (items := its.toArray) (ps := ps) (Nat.ne_of_lt hd2) (Nat.ne_of_gt hplt) (Nat.ne_of_gt (Nat.lt_trans hplt hd2)) (by simp; omega) _ 0 _ [] rfl (Nat.zero_le _) ?_ ?_ ?_ ?_ ?_ ?_⟩
  · exact ⟨_, Heap.get?_push_size _ rfl, rfl, rfl⟩
  · exact ⟨_, hpl _ _ (k2 _ _ hg1), rfl, n, rfl⟩
  · intro j k v e
    obtain ⟨a, key, e1, ⟨o, e2, e3⟩, e4⟩ := hps j k v e
    have hlt := Heap.lt_size e2
    exact ⟨a, key, by simpa using e1, Nat.ne_of_lt hlt, Nat.ne_of_lt (Nat.lt_trans hlt hd2), ⟨o, hpl _ _ (k1 _ _ e2), e3⟩, e4⟩
  · obtain ⟨o, es, ep, ho, rest⟩ := hnew
    exact ⟨o, es, ep, hpl _ _ (k2 _ _ ho), rest⟩
  · simp; omega
  · intro h3 tk3 hd3 k3
    rw [List.drop_zero] at hd3
    have k4 : ∀ b o, s.heap.get? b = some o → h3.get? b = some o := fun b o e => k3 b o (Nat.ne_of_lt (Heap.lt_size e)) (Nat.ne_of_lt (Nat.lt_trans (Heap.lt_size e) hd2)) (hpl _ _ (k1 _ _ e))
    refine ⟨rfl, .ref s.heap.objs.size, _, I.laid (t' := tk3) k4 (Nat.le_refl _) (o := .dK (mergeK [] kvs)) ?_, rfl, q _ (I.hok.fresh (Nat.le_refl _))⟩
    have hm : (mergeK [] kvs).length ≤ kvs.length := by
      have := length_mergeK kvs []
      simpa using this
    exact dk_new (by omega) (beq_eq_false_iff_ne.mpr (Ne.symm (Nat.ne_of_lt I.big))) (KV.merge rel .nil) hd3
end
end L2
namespace L2
open PySem PySem.Spec PyProof.Rows
/-- more names of Python's own -/
structure Bl2 (mg : Str → Option Value) : Prop extends Bl mg where
  max : mg "max" = none
  min : mg "min" = none
  sorted : mg "sorted" = none
def mxI (b z : Int) : Int := if z > b then z else b
def mxD (k : Int) : List Int → Int
  | [] => k
  | b :: r => r.foldl mxI b
theorem mx_args (a d : Value) : argsOk "max" ⟨[a], [("default", d)]⟩ := by unfold argsOk; kernel_rfl
section
variable {prog : Program} {w : World} {A : Around}
theorem mx_next {it l S : Addr} {items : List Value} {ns : List Int} (hh : A.handled = none) (hi : Vals (ns.map V.int) items) (hSi : S ≠ it) (hSl : S ≠ l) (hil : it ≠ l) (dv : Value) {R : Result → Shared → Prop} :
    ∀ (n i : Nat) (s : Shared) (c : Nat) (b : Int) (tb : Tok), ns.length - i = n → i ≤ ns.length → s.heap.IsListIter it l i → s.heap.IsList l items.toArray → s.heap.get? S = some { cls := .type "list", dict := none, data := .seq #[.int b tb, .int b tb] c, slots := #[] } →
      (∀ h' tk t, (∀ x o, x ≠ S → x ≠ it → s.heap.get? x = some o → h'.get? x = some o) → R (.ok (.ret (.int ((ns.drop i).foldl mxI b) t))) { s with heap := h', toks := tk }) →
      codeAny (model prog w) A (.builtin "max.loop" ⟨[.ref it, .none, .ref S], [("default", dv)]⟩) R s := by
  have hnm : (toString "max" ++ toString ".loop" : String) = "max.loop" := by decide
  intro n
  induction n with
  | zero =>
    intro i s c b tb hn hin st hl hS hR
    refine codeAny_builtin F.entry_max_loop ?_
    rw [Around.under_plainId F.plain_max_loop _]
    show wpAny _ A.in1 (seqItems? (.ref S) >>= _) _ _ s
    refine wpAny_bind (wpAny_seqItems hS rfl ?_)
    have hlen := hi.length
    rw [List.length_map] at hlen
    refine wpAny_bind (wpAny_tryCatch (wpAny_pyNext_list_end (show A.in1.handled = none from hh) st hl (by simp; omega) fun h' eb => ?_))
    show wpAny _ A.in1 (updateSeq S (fun _ => #[]) >>= _) _ _ _
    refine wpAny_bind (wpAny_updateSeq (eb S _ hSi hS) rfl (wpAny_bind (wpAny_letGo (wpAny_pure ?_))))
    have q := hR (h'.update S (Obj.mapSeq fun _ => #[])) s.toks tb fun x o hx hxi e => (Heap.get?_update_other _ _ (Ne.symm hx)).trans (eb x o hxi e)
    rw [List.drop_eq_nil_of_le (by omega)] at q
    exact q
  | succ n ih =>
    intro i s c b tb hn hin st hl hS hR
    have hlt : i < ns.length := by omega
    have hlen := hi.length
    rw [List.length_map] at hlen
    obtain ⟨z, hz⟩ : ∃ z, ns[i]? = some z := ⟨ns[i], by simp [hlt]⟩
    obtain ⟨u, ht, t, rfl⟩ := hi.get (i := i) (x := .int z) (by rw [List.getElem?_map, hz]; rfl)
    have ed : ns.drop i = z :: ns.drop (i + 1) := by
      obtain ⟨h1, e1⟩ := List.getElem?_eq_some_iff.mp hz
      rw [List.drop_eq_getElem_cons h1, e1]
    refine codeAny_builtin F.entry_max_loop ?_
    rw [Around.under_plainId F.plain_max_loop _]
    show wpAny _ A.in1 (seqItems? (.ref S) >>= _) _ _ s
    refine wpAny_bind (wpAny_seqItems hS rfl ?_)
    refine wpAny_bind (wpAny_tryCatch (wpAny_pyNext_list_item st hl (x := .int z t) (by simpa using ht) fun h' st' sb => ?_))
    have kp : ∀ x o, x ≠ it → s.heap.get? x = some o → h'.get? x = some o := fun x o hx e => (sb.2 x hx).trans e
    have hS' := kp S _ hSi hS
    have hl' : h'.IsList l items.toArray := by
      obtain ⟨o, e1, e2⟩ := hl
      exact ⟨o, kp l o (Ne.symm hil) e1, e2⟩
    show wpAny _ A.in1 (tryCatch (holding [Value.int z t, Value.int z t] (richCompare .Gt (.int z t) (.int b tb) >>= _)) _ >>= _) _ _ _
    refine wpAny_bind (wpAny_tryCatch (wpAny_holding (wpAny_bind (show wpAny (model prog w) A.in1 (compareOp .Gt (.int z t) (.int b tb)) _ _ _ from gt_int ?_))))
    refine wpAny_bind (wpAny_holding (wpAny_truthy_bool (wpAny_bind (wpAny_letGo (wpAny_pure ?_)))))
    by_cases hb : z > b
    · rw [decide_eq_true hb, if_pos rfl]
      refine wpAny_bind (wpAny_updateSeq hS' rfl (wpAny_bind (wpAny_letGo ?_)))
      rw [hnm]
      refine wpAny_pure ⟨plainId_quiet F.plain_max_loop _, ih (i + 1) _ _ z t (by omega) (by omega) ?_ ?_ (Heap.get?_update_self _ hS' rfl) fun h2 tk t2 k2 => ?_⟩
      · exact st'.at fun o e => (Heap.get?_update_other _ _ hSi).trans e
      · obtain ⟨o, e1, e2⟩ := hl'
        exact ⟨o, (Heap.get?_update_other _ _ hSl).trans e1, e2⟩
      · have q := hR h2 tk t2 fun x o hx hxi e => k2 x o hx hxi ((Heap.get?_update_other _ _ (Ne.symm hx)).trans (kp x o hxi e))
        rw [ed, List.foldl_cons, show mxI b z = z from if_pos hb] at q
        exact q
    · rw [decide_eq_false hb, if_neg Bool.false_ne_true]
      refine wpAny_bind (wpAny_letGo ?_)
      rw [hnm]
      refine wpAny_pure ⟨plainId_quiet F.plain_max_loop _, ih (i + 1) _ _ b tb (by omega) (by omega) st' hl' hS' fun h2 tk t2 k2 => ?_⟩
      have q := hR h2 tk t2 fun x o hx hxi e => k2 x o hx hxi (kp x o hxi e)
      rw [ed, List.foldl_cons, show mxI b z = b from if_neg hb] at q
      exact q
theorem mx_first {it l S : Addr} {items : List Value} {ns : List Int} {s : Shared} {c : Nat} (hh : A.handled = none) (hi : Vals (ns.map V.int) items) (hSi : S ≠ it) (hSl : S ≠ l) (hil : it ≠ l) (dv : Value) {R : Result → Shared → Prop}
    (st : s.heap.IsListIter it l 0) (hl : s.heap.IsList l items.toArray) (hS : s.heap.get? S = some { cls := .type "list", dict := none, data := .seq #[] c, slots := #[] })
    (hR : ∀ h' tk v, (∀ x o, x ≠ S → x ≠ it → s.heap.get? x = some o → h'.get? x = some o) → (match ns with | [] => v = dv | b :: r => ∃ t, v = .int (r.foldl mxI b) t) → R (.ok (.ret v)) { s with heap := h', toks := tk }) :
    codeAny (model prog w) A (.builtin "max.loop" ⟨[.ref it, .none, .ref S], [("default", dv)]⟩) R s := by
  have hnm : (toString "max" ++ toString ".loop" : String) = "max.loop" := by decide
  have hlen := hi.length
  rw [List.length_map] at hlen
  refine codeAny_builtin F.entry_max_loop ?_
  rw [Around.under_plainId F.plain_max_loop _]
  show wpAny _ A.in1 (seqItems? (.ref S) >>= _) _ _ s
  refine wpAny_bind (wpAny_seqItems hS rfl ?_)
  cases ns with
  | nil =>
    refine wpAny_bind (wpAny_tryCatch (wpAny_pyNext_list_end (show A.in1.handled = none from hh) st hl (by simp at hlen; simp [hlen]) fun h' eb => ?_))
    refine wpAny_bind (wpAny_rule (wpAny_pure ?_))
    exact hR h' s.toks dv (fun x o _ hx e => eb x o hx e) rfl
  | cons z r =>
    obtain ⟨u, ht, t, rfl⟩ := hi.get (i := 0) (x := .int z) rfl
    refine wpAny_bind (wpAny_tryCatch (wpAny_pyNext_list_item st hl (x := .int z t) (by simpa using ht) fun h' st' sb => ?_))
    have kp : ∀ x o, x ≠ it → s.heap.get? x = some o → h'.get? x = some o := fun x o hx e => (sb.2 x hx).trans e
    have hS' := kp S _ hSi hS
    show wpAny _ A.in1 (updateSeq S (fun _ => #[.int z t, .int z t]) >>= _) _ _ _
    refine wpAny_bind (wpAny_updateSeq hS' rfl ?_)
    rw [hnm]
    refine wpAny_pure ⟨plainId_quiet F.plain_max_loop _, mx_next hh hi hSi hSl hil dv _ 1 _ _ z t rfl (by simp) ?_ ?_ (Heap.get?_update_self _ hS' rfl) fun h2 tk t2 k2 => ?_⟩
    · exact st'.at fun o e => (Heap.get?_update_other _ _ hSi).trans e
    · obtain ⟨o, e1, e2⟩ := hl
      exact ⟨o, (Heap.get?_update_other _ _ hSl).trans (kp l o (Ne.symm hil) e1), e2⟩
    · exact hR h2 tk _ (fun x o hx hxi e => k2 x o hx hxi ((Heap.get?_update_other _ _ (Ne.symm hx)).trans (kp x o hxi e))) ⟨t2, rfl⟩
end
section
variable {X : Cx}
def rMaxD (K : PySem.W.Frag) : V → V → Hp → VK → Prop := fun x y H Q => ∃ (p : Addr) (ns : List Int) (k : Int), x = .ref p ∧ y = .int k ∧ SqL K H p (ns.map V.int) ∧ Q (.int (mxD k ns)) H
theorem call_maxD (hc : X.calm = true) {pins : List (Addr × Obj)} {s : Shared} {σ : St} {H : Hp} {x y : V} {u dv : Value} {Q : VK} (I : Inv X pins σ H s) (rx : RelV x u) (ry : RelV y dv) (h : rMaxD X.K x y H Q) :
    wpAny (model X.prog X.w) X.A (call (.builtin "max") [u] [("default", dv)]) (EP X pins σ Q) X.xe s := by
  obtain ⟨p, ns, k, rfl, rfl, hq, q⟩ := h
  cases rx
  obtain ⟨its, rv, pl, hz⟩ := I.list hq
  have hl := pl.isList
  have hplt : p < s.heap.objs.size := by obtain ⟨_, e, _⟩ := hl; exact Heap.lt_size e
  have hnm : (toString "max" ++ toString ".loop" : String) = "max.loop" := by decide
  refine wpAny_call (codeAny_call_builtin F.plain_max F.entry_max ?_)
  simp only [checkBuiltinCall, F.kind_max]
  have hgo : wpAny (model X.prog X.w) X.A.in1 (Builtin.«max» ⟨[.ref p], [("default", dv)]⟩) (fun fin s' => match fin with
      | .done f => (match (Except.ok f : Result) with | .ok (.ret v) => EP X pins σ Q v s' | .ok _ => False | .error e => X.xe e s')
      | .again c' => c'.quiet = true ∧ codeAny (model X.prog X.w) X.A c' (fun r s' => match r with | .ok (.ret v) => EP X pins σ Q v s' | .ok _ => False | .error e => X.xe e s') s') X.xe s := by
    show wpAny _ X.A.in1 (Builtin.Builtins.bindParams "max" ["key", "default"] 0 ⟨[], [("default", dv)]⟩ >>= _) _ _ s
    refine wpAny_bind (wpAny_of_eq (show Builtin.Builtins.bindParams "max" ["key", "default"] 0 ⟨[], [("default", dv)]⟩ = pure [none, some dv] from rfl) ?_)
    refine wpAny_bind (wpAny_pure ?_)
    refine wpAny_bind (wpAny_pyIter_list hl ?_)
    refine wpAny_bind (wpAny_newObj_type ?_)
    rw [hnm]
    have hk : ∀ b o, s.heap.get? b = some o → ((s.heap.push { cls := .type "list_iterator", data := .fields #[.ref p, .int 0 0] }).push { cls := .type "list", data := .seq #[] }).get? b = some o := fun b o e => Heap.get?_push_of_some _ (Heap.get?_push_of_some _ e)
    have hsz : (s.heap.push { cls := .type "list_iterator", data := .fields #[.ref p, .int 0 0] }).objs.size = s.heap.objs.size + 1 := Heap.size_push ..
    refine wpAny_pure ⟨plainId_quiet F.plain_max_loop _, mx_first (it := s.heap.objs.size) (l := p) (S := (s.heap.push { cls := .type "list_iterator", data := .fields #[.ref p, .int 0 0] }).objs.size) (c := 0) (I.ok.hd hc) rv (by rw [hsz]; exact Nat.ne_of_gt (Nat.lt_succ_self _)) (by rw [hsz]; exact Nat.ne_of_gt (Nat.lt_succ_of_lt hplt)) (Nat.ne_of_gt hplt) dv ?_ ?_ (Heap.get?_push_size _ rfl) fun h' tk v k2 hv => ?_⟩
    · exact ⟨_, Heap.get?_push_of_some _ (Heap.get?_push_size _ rfl), rfl, rfl⟩
    · obtain ⟨o, e1, e2⟩ := hl
      exact ⟨o, hk _ _ e1, e2⟩
    · have I2 : Inv X pins σ H { s with heap := h', toks := tk } := I.kept fun b o e => k2 b o (by rw [hsz]; exact Nat.ne_of_lt (Nat.lt_succ_of_lt (Heap.lt_size e))) (Nat.ne_of_lt (Heap.lt_size e)) (hk b o e)
      cases ns with
      | nil => exact ⟨.int k, H, I2, by rw [show v = dv from hv]; exact ry, q⟩
      | cons b r =>
        obtain ⟨t, e⟩ := hv
        exact ⟨.int (r.foldl mxI b), H, I2, ⟨t, e⟩, q⟩
  cases hsig : Manifest.signature? "max" with
  | none => exact wpAny_pure hgo
  | some sig =>
    have ha := mx_args (.ref p) dv
    simp only [argsOk, hsig] at ha
    have h2 : Bind.checkArgs "max" sig ⟨[.ref p], [("default", dv)]⟩ = pure () := ha
    show wpAny _ X.A.in1 (Bind.checkArgs "max" sig ⟨[.ref p], [("default", dv)]⟩) _ _ s
    rw [h2]; exact wpAny_pure hgo
variable {e d : Expr} {te td : TE} {p kp pos : Pos}
def tMaxD (K : PySem.W.Frag) (te td : TE) : TE := fun σ H Q => te σ H fun x H1 => td σ H1 fun y H2 => rMaxD K x y H2 Q
theorem pe_maxD (hc : X.calm = true) (hg : Gl X "max") (hm : X.mg "max" = none) (ha : PA X [e] (tCons te tNil)) (hd : PE X d td) (he : backTo pos (starEach [e] X.env) = (false, eval e X.env) :: backTo pos (starEach [] X.env) := by rfl) (hpl : (backTo pos (starEach [e] X.env)).any (·.1) = false := by rfl) :
    PE X (.Call (.Name "max" p) [e] [⟨some "default", d, kp⟩] pos) (tMaxD X.K te td) := by
  intro pins s σ H Q I h
  refine wpAny_Call_Name_kw (ld_blt I hg hm bt_max ?_ (by decide) (by decide))
  refine callWith_kw ?_ he hpl
  refine thn (ha pos pins s σ H (fun vs H1 => match vs with | [x] => td σ H1 (fun y H2 => rMaxD X.K x y H2 Q) | _ => False) I h) fun us s1 ⟨vs, H1, I1, r1, q1⟩ => ?_
  match vs, q1, r1 with
  | [x], q1, r1 =>
    obtain ⟨u, rfl, rx⟩ := vals1 r1
    refine kws_cons (thn (hd pins s1 σ H1 _ I1 q1) fun dv s2 ⟨y, H2, I2, ry, q2⟩ => kws_nil ?_)
    exact call_maxD hc I2 rx ry q2
end
end L2
namespace L2
open PySem PySem.Spec PyProof.Rows
mutual
def T.dep : T → Nat
  | .lst ts => T.deps ts + 1
  | .dic _ ts => T.deps ts + 1
  | .tup ts => T.deps ts + 1
  | .non => 0
  | .bl _ => 0
  | .int _ => 0
  | .str _ => 0
def T.deps : List T → Nat
  | [] => 0
  | t :: ts => max (T.dep t) (T.deps ts)
end
mutual
/-- no tuple within -/
def T.pure : T → Prop
  | .tup _ => False
  | .lst ts => T.pures ts
  | .dic ks ts => ks.Nodup ∧ T.pures ts
  | .non => True
  | .bl _ => True
  | .int _ => True
  | .str _ => True
def T.pures : List T → Prop
  | [] => True
  | t :: ts => T.pure t ∧ T.pures ts
end
theorem T.deps_le {t : T} : ∀ {ts : List T}, t ∈ ts → T.dep t ≤ T.deps ts
  | [], h => nomatch h
  | u :: ts, h => by
    show T.dep t ≤ max (T.dep u) (T.deps ts)
    rcases List.mem_cons.mp h with e | e
    · subst e; exact Nat.le_max_left _ _
    · exact Nat.le_trans (T.deps_le e) (Nat.le_max_right _ _)
def EqM (P : Program) (w : World) (A : Around) (s : Shared) (u v : Value) : Prop := ∀ (E : Value → Shared → Prop) (Q : Bool → Shared → Prop), Q true s → wpAny (model P w) A (eqBool u v) Q E s
def RcM (P : Program) (w : World) (A : Around) (s : Shared) (u v : Value) : Prop := ∀ (E : Value → Shared → Prop) (Q : Value → Shared → Prop), Q (.bool true) s → wpAny (model P w) A (richCompare .Eq u v) Q E s
section
variable {P : Program} {w : World}
open AutoSeq1 (wpAny_loadPart')
open MeetsSeq MeetsSeq2 MeetsSeq3 SeqRoads2 SeqAt
end
section
variable {X : Cx} {pins : List (Addr × Obj)} {σ : St} {H : Hp} {s : Shared}
theorem nodup_nK {ks : List (List Nat)} (h : ks.Nodup) : (ks.map nK).Nodup := by
  induction ks with
  | nil => exact List.nodup_nil
  | cons k r ih =>
    rw [List.nodup_cons] at h
    rw [List.map_cons, List.nodup_cons]
    refine ⟨fun hm => ?_, ih h.2⟩
    obtain ⟨k', hk, e⟩ := List.mem_map.mp hm
    exact h.1 (nK_inj e ▸ hk)
/-- a list beside an empty one -/
def rEq0 (K : PySem.W.Frag) (neg : Bool) : R2 := fun x y H Q => ∃ a b xs, x = .ref a ∧ y = .ref b ∧ SqL K H a xs ∧ SqL K H b [] ∧ Q (.bl (if neg then !xs.isEmpty else xs.isEmpty)) H
theorem op_ne_0 (hu : X.A.units < cLine) : OpR X (compareOp .NotEq) (rEq0 X.K true) := by
  intro pins s σ H x y v u Q I rx ry h
  obtain ⟨a, b, xs, rfl, rfl, ha, hb, q⟩ := h
  cases rx; cases ry
  obtain ⟨us, r1, pl1, _⟩ := I.list ha
  obtain ⟨vs, r2, pl2, _⟩ := I.list hb
  cases r2
  cases xs with
  | nil =>
    cases r1
    exact SeqAt.RcNeAt.lists (e := fun _ => true) pl1.isList pl2.isList rfl hu (fun j h1 => absurd h1 (by simp)) X.prog X.w X.xe _ ⟨.bl false, H, I, rfl, q⟩
  | cons x xs =>
    have n1 := r1.length
    exact SeqAt.RcNeAt.lists_lengths pl1.isList pl2.isList (by simp [← n1]) hu X.prog X.w X.xe _ ⟨.bl true, H, I, rfl, q⟩
end
end L2
namespace L2
open PySem PySem.Spec PyProof.Rows
mutual
def T.sz : T → Nat
  | .lst ts => T.szs ts + 1
  | .dic _ ts => T.szs ts + 1
  | .tup ts => T.szs ts + 1
  | .non => 1
  | .bl _ => 1
  | .int _ => 1
  | .str _ => 1
def T.szs : List T → Nat
  | [] => 0
  | t :: ts => T.sz t + T.szs ts
end
mutual
def Occ (H : Hp) (d : Addr) : V → T → Prop
  | v, .lst ts => v = .ref d ∨ ∃ a vs, v = .ref a ∧ H a = some (.lst vs) ∧ Occs H d vs ts
  | v, .dic _ ts => v = .ref d ∨ ∃ a ps, v = .ref a ∧ H a = some (.dK ps) ∧ Occs H d (ps.map (·.2)) ts
  | v, .tup ts => v = .ref d ∨ ∃ a vs, v = .ref a ∧ H a = some (.tup vs) ∧ Occs H d vs ts
  | _, .non => False
  | _, .bl _ => False
  | _, .int _ => False
  | _, .str _ => False
def Occs (H : Hp) (d : Addr) : List V → List T → Prop
  | v :: vs, t :: ts => Occ H d v t ∨ Occs H d vs ts
  | _, _ => False
end
mutual
/-- a store at an address that does not stand in it changes nothing of it -/
theorem Rep.away {H : Hp} {d : Addr} {o : HO} : ∀ (x : V) (t : T), Rep H x t → ¬ Occ H d x t → Rep (upd H d o) x t
  | _, .non, h, _ => h
  | _, .bl _, h, _ => h
  | _, .int _, h, _ => h
  | _, .str _, h, _ => h
  | x, .lst ts, ⟨a, vs, e, ha, hs⟩, n => by
    have ne : a ≠ d := fun z => n (.inl (by rw [e, z]))
    exact ⟨a, vs, e, by rw [upd_ne ne]; exact ha, Reps.away vs ts hs fun z => n (.inr ⟨a, vs, e, ha, z⟩)⟩
  | x, .dic ks ts, ⟨a, ps, e, ha, hk, hs⟩, n => by
    have ne : a ≠ d := fun z => n (.inl (by rw [e, z]))
    exact ⟨a, ps, e, by rw [upd_ne ne]; exact ha, hk, Reps.away _ ts hs fun z => n (.inr ⟨a, ps, e, ha, z⟩)⟩
  | x, .tup ts, ⟨a, vs, e, ha, hs⟩, n => by
    have ne : a ≠ d := fun z => n (.inl (by rw [e, z]))
    exact ⟨a, vs, e, by rw [upd_ne ne]; exact ha, Reps.away vs ts hs fun z => n (.inr ⟨a, vs, e, ha, z⟩)⟩
theorem Reps.away {H : Hp} {d : Addr} {o : HO} : ∀ (xs : List V) (ts : List T), Reps H xs ts → ¬ Occs H d xs ts → Reps (upd H d o) xs ts
  | _, [], h, _ => h
  | _, t :: ts, ⟨x, xr, e, h1, h2⟩, n => by
    subst e
    exact ⟨x, xr, rfl, Rep.away x t h1 fun z => n (.inl z), Reps.away xr ts h2 fun z => n (.inr z)⟩
end
mutual
theorem Occ.sub {H : Hp} {d : Addr} : ∀ (x : V) (t : T), Rep H x t → Occ H d x t → ∃ t', Rep H (.ref d) t' ∧ T.sz t' ≤ T.sz t
  | _, .non, _, h => h.elim
  | _, .bl _, _, h => h.elim
  | _, .int _, _, h => h.elim
  | _, .str _, _, h => h.elim
  | x, .lst ts, hr, h => by
    rcases h with e | ⟨a, vs, e, ha, h⟩
    · exact ⟨.lst ts, e ▸ hr, Nat.le_refl _⟩
    · obtain ⟨a', vs', e', ha', hs⟩ := hr
      rw [e] at e'; cases e'
      rw [ha] at ha'; cases ha'
      obtain ⟨t', q, l⟩ := Occs.sub vs ts hs h
      exact ⟨t', q, Nat.le_succ_of_le l⟩
  | x, .dic ks ts, hr, h => by
    rcases h with e | ⟨a, vs, e, ha, h⟩
    · exact ⟨.dic ks ts, e ▸ hr, Nat.le_refl _⟩
    · obtain ⟨a', vs', e', ha', _, hs⟩ := hr
      rw [e] at e'; cases e'
      rw [ha] at ha'; cases ha'
      obtain ⟨t', q, l⟩ := Occs.sub _ ts hs h
      exact ⟨t', q, Nat.le_succ_of_le l⟩
  | x, .tup ts, hr, h => by
    rcases h with e | ⟨a, vs, e, ha, h⟩
    · exact ⟨.tup ts, e ▸ hr, Nat.le_refl _⟩
    · obtain ⟨a', vs', e', ha', hs⟩ := hr
      rw [e] at e'; cases e'
      rw [ha] at ha'; cases ha'
      obtain ⟨t', q, l⟩ := Occs.sub vs ts hs h
      exact ⟨t', q, Nat.le_succ_of_le l⟩
theorem Occs.sub {H : Hp} {d : Addr} : ∀ (xs : List V) (ts : List T), Reps H xs ts → Occs H d xs ts → ∃ t', Rep H (.ref d) t' ∧ T.sz t' ≤ T.szs ts
  | xs, [], _, h => by cases xs <;> exact h.elim
  | _, t :: ts, ⟨x, xr, e, h1, h2⟩, h => by
    subst e
    rcases h with h | h
    · obtain ⟨t', q, l⟩ := Occ.sub x t h1 h
      exact ⟨t', q, Nat.le_trans l (Nat.le_add_right _ _)⟩
    · obtain ⟨t', q, l⟩ := Occs.sub xr ts h2 h
      exact ⟨t', q, Nat.le_trans l (Nat.le_add_left _ _)⟩
end
theorem nKs_inj : ∀ {a b : List (List Nat)}, a.map nK = b.map nK → a = b
  | [], [], _ => rfl
  | [], _ :: _, h => by simp at h
  | _ :: _, [], h => by simp at h
  | x :: a, y :: b, h => by
    rw [List.map_cons, List.map_cons] at h
    injection h with h1 h2
    rw [nK_inj h1, nKs_inj h2]
mutual
theorem Rep.one {H : Hp} : ∀ (t : T) (x : V) (t' : T), Rep H x t → Rep H x t' → t = t'
  | .non, x, t', h, h' => by
    cases (show x = .non from h)
    cases t' with
    | non => rfl
    | bl b => cases (show V.non = .bl b from h')
    | int b => cases (show V.non = .int b from h')
    | str b => cases (show V.non = .str (tx b) from h')
    | lst ts => obtain ⟨a, vs, e, _⟩ := h'; cases e
    | dic ks ts => obtain ⟨a, vs, e, _⟩ := h'; cases e
    | tup ts => obtain ⟨a, vs, e, _⟩ := h'; cases e
  | .bl c, x, t', h, h' => by
    cases (show x = .bl c from h)
    cases t' with
    | non => cases (show V.bl c = .non from h')
    | bl b => cases (show V.bl c = .bl b from h'); rfl
    | int b => cases (show V.bl c = .int b from h')
    | str b => cases (show V.bl c = .str (tx b) from h')
    | lst ts => obtain ⟨a, vs, e, _⟩ := h'; cases e
    | dic ks ts => obtain ⟨a, vs, e, _⟩ := h'; cases e
    | tup ts => obtain ⟨a, vs, e, _⟩ := h'; cases e
  | .int c, x, t', h, h' => by
    cases (show x = .int c from h)
    cases t' with
    | non => cases (show V.int c = .non from h')
    | bl b => cases (show V.int c = .bl b from h')
    | int b => cases (show V.int c = .int b from h'); rfl
    | str b => cases (show V.int c = .str (tx b) from h')
    | lst ts => obtain ⟨a, vs, e, _⟩ := h'; cases e
    | dic ks ts => obtain ⟨a, vs, e, _⟩ := h'; cases e
    | tup ts => obtain ⟨a, vs, e, _⟩ := h'; cases e
  | .str c, x, t', h, h' => by
    cases (show x = .str (tx c) from h)
    cases t' with
    | non => cases (show V.str (tx c) = .non from h')
    | bl b => cases (show V.str (tx c) = .bl b from h')
    | int b => cases (show V.str (tx c) = .int b from h')
    | str b =>
      have e : V.str (tx c) = .str (tx b) := h'
      injection e with e
      have e2 : ts (tx c) = ts (tx b) := by rw [e]
      rw [ts_tx, ts_tx] at e2
      rw [e2]
    | lst ts => obtain ⟨a, vs, e, _⟩ := h'; cases e
    | dic ks ts => obtain ⟨a, vs, e, _⟩ := h'; cases e
    | tup ts => obtain ⟨a, vs, e, _⟩ := h'; cases e
  | .lst us, x, t', ⟨a, vs, e, ha, hs⟩, h' => by
    subst e
    cases t' with
    | non => cases (show V.ref a = .non from h')
    | bl b => cases (show V.ref a = .bl b from h')
    | int b => cases (show V.ref a = .int b from h')
    | str b => cases (show V.ref a = .str (tx b) from h')
    | lst ts =>
      obtain ⟨a', vs', e', ha', hs'⟩ := h'
      cases e'
      rw [ha] at ha'; cases ha'
      rw [Reps.one us vs ts hs hs']
    | dic ks ts => obtain ⟨a', vs', e', ha', _⟩ := h'; cases e'; rw [ha] at ha'; cases ha'
    | tup ts => obtain ⟨a', vs', e', ha', _⟩ := h'; cases e'; rw [ha] at ha'; cases ha'
  | .dic js us, x, t', ⟨a, vs, e, ha, hk, hs⟩, h' => by
    subst e
    cases t' with
    | non => cases (show V.ref a = .non from h')
    | bl b => cases (show V.ref a = .bl b from h')
    | int b => cases (show V.ref a = .int b from h')
    | str b => cases (show V.ref a = .str (tx b) from h')
    | lst ts => obtain ⟨a', vs', e', ha', _⟩ := h'; cases e'; rw [ha] at ha'; cases ha'
    | dic ks ts =>
      obtain ⟨a', vs', e', ha', hk', hs'⟩ := h'
      cases e'
      rw [ha] at ha'; cases ha'
      rw [Reps.one us _ ts hs hs', nKs_inj (hk.symm.trans hk')]
    | tup ts => obtain ⟨a', vs', e', ha', _⟩ := h'; cases e'; rw [ha] at ha'; cases ha'
  | .tup us, x, t', ⟨a, vs, e, ha, hs⟩, h' => by
    subst e
    cases t' with
    | non => cases (show V.ref a = .non from h')
    | bl b => cases (show V.ref a = .bl b from h')
    | int b => cases (show V.ref a = .int b from h')
    | str b => cases (show V.ref a = .str (tx b) from h')
    | lst ts => obtain ⟨a', vs', e', ha', _⟩ := h'; cases e'; rw [ha] at ha'; cases ha'
    | dic ks ts => obtain ⟨a', vs', e', ha', _⟩ := h'; cases e'; rw [ha] at ha'; cases ha'
    | tup ts =>
      obtain ⟨a', vs', e', ha', hs'⟩ := h'
      cases e'
      rw [ha] at ha'; cases ha'
      rw [Reps.one us vs ts hs hs']
theorem Reps.one {H : Hp} : ∀ (us : List T) (xs : List V) (ts : List T), Reps H xs us → Reps H xs ts → us = ts
  | [], xs, ts, h, h' => by
    cases (show xs = [] from h)
    cases ts with
    | nil => rfl
    | cons t ts => obtain ⟨x, r, e, _⟩ := h'; cases e
  | u :: us, xs, ts, ⟨x, r, e, h1, h2⟩, h' => by
    subst e
    cases ts with
    | nil => cases (show x :: r = [] from h')
    | cons t ts =>
      obtain ⟨x', r', e', h1', h2'⟩ := h'
      cases e'
      rw [Rep.one u x t h1 h1', Reps.one us r ts h2 h2']
end
/-- what stands in a record does not hold the record -/
theorem Reps.dic_away {H : Hp} {d : Addr} {o : HO} {ps : List (Key × V)} {ks : List (List Nat)} {ts : List T} (hd : H d = some (.dK ps)) (hk : ps.map (·.1) = ks.map nK) (h : Reps H (ps.map (·.2)) ts) : Reps (upd H d o) (ps.map (·.2)) ts := by
  refine Reps.away _ ts h fun z => ?_
  obtain ⟨t', q, l⟩ := Occs.sub _ ts h z
  have e := Rep.one (.dic ks ts) (.ref d) t' ⟨d, ps, rfl, hd, hk, h⟩ q
  rw [← e] at l
  exact absurd l (Nat.not_le_of_lt (Nat.lt_succ_self _))
theorem valV_ix : ∀ {vs : List (Key × V)} {i : Nat} {k : Key} {y : V}, (vs.map (·.1)).Nodup → vs[i]? = some (k, y) → valV vs k = some y
  | [], i, k, y, _, h => by simp at h
  | p :: vs, 0, k, y, _, h => by
    simp only [List.getElem?_cons_zero, Option.some.injEq] at h
    subst h
    exact valV_pos rfl
  | p :: vs, i + 1, k, y, nd, h => by
    rw [List.map_cons, List.nodup_cons] at nd
    have h' : vs[i]? = some (k, y) := by simpa using h
    have ne : ¬ p.1 = k := fun e => nd.1 (List.mem_map.mpr ⟨(k, y), List.mem_of_getElem? h', e.symm⟩)
    rw [valV_neg ne]
    exact valV_ix nd.2 h'
theorem mergeK_nodup : ∀ (more kvs : List (Key × V)), ((kvs ++ more).map (·.1)).Nodup → mergeK kvs more = kvs ++ more
  | [], kvs, _ => by show kvs = _; rw [List.append_nil]
  | p :: r, kvs, h => by
    show mergeK (putK kvs p.1 p.2) r = _
    have hn : valV kvs p.1 = none := by
      cases e : valV kvs p.1 with
      | none => rfl
      | some v =>
        have hm := valV_in e
        rw [List.map_append, List.nodup_append] at h
        exact absurd rfl (h.2.2 p.1 hm p.1 (by simp))
    rw [putK_new _ hn, mergeK_nodup r (kvs ++ [(p.1, p.2)]) (by rw [List.append_assoc]; exact h), List.append_assoc]
    rfl
theorem tyS_tup {H : Hp} {a : Addr} {xs : List V} (h : H a = some (.tup xs)) : tyS H (.ref a) = some "tuple" := by
  show (match H a with | some (.lst _) => some "list" | some (.tup _) => some "tuple" | some (.dK _) => some "dict" | _ => none) = _; rw [h]
theorem tyS_lst {H : Hp} {a : Addr} {xs : List V} (h : H a = some (.lst xs)) : tyS H (.ref a) = some "list" := by
  show (match H a with | some (.lst _) => some "list" | some (.tup _) => some "tuple" | some (.dK _) => some "dict" | _ => none) = _; rw [h]
theorem tyS_dK {H : Hp} {a : Addr} {xs : List (Key × V)} (h : H a = some (.dK xs)) : tyS H (.ref a) = some "dict" := by
  show (match H a with | some (.lst _) => some "list" | some (.tup _) => some "tuple" | some (.dK _) => some "dict" | _ => none) = _; rw [h]
theorem tyS_same {H H' : Hp} (g : Same H H') {v : V} {t : String} (h : tyS H v = some t) : tyS H' v = some t := by
  cases v with
  | ref a =>
    have h' : (match H a with | some (.lst _) => some "list" | some (.tup _) => some "tuple" | some (.dK _) => some "dict" | _ => none) = some t := h
    cases e : H a with
    | none => rw [e] at h'; cases h'
    | some o =>
      rw [e] at h'
      cases o with
      | lst xs => cases h'; exact tyS_lst (g _ _ e)
      | tup xs => cases h'; exact tyS_tup (g _ _ e)
      | dK kvs => cases h'; exact tyS_dK (g _ _ e)
      | _ => cases h'
  | _ => exact h
theorem Same.put {H H' : Hp} {p : Addr} (g : Same H H') (h : H p = none) (o : HO) : Same H (upd H' p o) := fun b u e => by
  rw [upd_ne (ne_of_none e h)]; exact g b u e
theorem take_succ_of {α : Type} {l : List α} {i : Nat} {a : α} (h : l[i]? = some a) : l.take (i + 1) = l.take i ++ [a] := by rw [List.take_add_one, h]; rfl
theorem T.sz_pos : ∀ t : T, 1 ≤ T.sz t
  | .non => Nat.le_refl _
  | .bl _ => Nat.le_refl _
  | .int _ => Nat.le_refl _
  | .str _ => Nat.le_refl _
  | .lst _ => Nat.le_add_left _ _
  | .dic _ _ => Nat.le_add_left _ _
  | .tup _ => Nat.le_add_left _ _
theorem T.szs_len : ∀ ts : List T, ts.length ≤ T.szs ts
  | [] => Nat.le_refl _
  | t :: ts => by
    have a := T.sz_pos t
    have b := T.szs_len ts
    show ts.length + 1 ≤ T.sz t + T.szs ts
    omega
theorem T.szs_le {t : T} : ∀ {ts : List T}, t ∈ ts → T.sz t ≤ T.szs ts
  | [], h => nomatch h
  | u :: ts, h => by
    show T.sz t ≤ T.sz u + T.szs ts
    rcases List.mem_cons.mp h with e | e
    · subst e; exact Nat.le_add_right _ _
    · exact Nat.le_trans (T.szs_le e) (Nat.le_add_left _ _)
mutual
theorem Rep.plain {H H' : Hp} (g : ∀ a u, (∀ o v, u ≠ HO.frz o v) → H a = some u → H' a = some u) : ∀ (x : V) (t : T), Rep H x t → Rep H' x t
  | _, .non, h => h
  | _, .bl _, h => h
  | _, .int _, h => h
  | _, .str _, h => h
  | _, .lst ts, ⟨a, vs, h1, h2, h3⟩ => ⟨a, vs, h1, g _ _ (by intro o v z; cases z) h2, Reps.plain g vs ts h3⟩
  | _, .dic ks ts, ⟨a, ps, h1, h2, h3, h4⟩ => ⟨a, ps, h1, g _ _ (by intro o v z; cases z) h2, h3, Reps.plain g _ ts h4⟩
  | _, .tup ts, ⟨a, vs, h1, h2, h3⟩ => ⟨a, vs, h1, g _ _ (by intro o v z; cases z) h2, Reps.plain g vs ts h3⟩
theorem Reps.plain {H H' : Hp} (g : ∀ a u, (∀ o v, u ≠ HO.frz o v) → H a = some u → H' a = some u) : ∀ (vs : List V) (ts : List T), Reps H vs ts → Reps H' vs ts
  | _, [], h => h
  | _, t :: ts, ⟨v, r, h1, h2, h3⟩ => ⟨v, r, h1, Rep.plain g v t h2, Reps.plain g r ts h3⟩
end
/-- a dict frozen for a walk, then freed -/
theorem thaw_walk {H H' : Hp} {d : Addr} {o : Obj} {ps : List (Key × V)} (hd : H d = some (.dK ps)) (g : Same (upd H d (.frz o (.dK ps))) H') : Same H (L2.thaw H H') := thaw_same fun b u e => by
  by_cases hb : b = d
  · subst hb
    rw [hd] at e; cases e
    exact .inr ⟨⟨o, g _ _ upd_same⟩, by intro o v z; cases z⟩
  · exact .inl (g _ _ (by rw [upd_ne hb]; exact e))
def T.kids : T → List T
  | .lst us => us
  | .dic _ us => us
  | _ => []
def T.next (ts : List T) : List T := (ts.map T.kids).flatten
theorem Reps.append {H : Hp} {ys : List V} {vs : List T} (h' : Reps H ys vs) : ∀ {xs : List V} {us : List T}, Reps H xs us → Reps H (xs ++ ys) (us ++ vs)
  | xs, [], h => by
    cases (show xs = [] from h)
    exact h'
  | _, u :: us, ⟨x, r, e, h1, h2⟩ => by
    subst e
    exact ⟨x, r ++ ys, rfl, h1, Reps.append h' h2⟩
def T.holds (t : T) : Bool := isSub (tyT t) "list" || isSub (tyT t) "dict"
def tMid (t : TS) : TS := fun D σ H => ∃ M : St → Hp → Prop, t { D with nx := M } σ H ∧ ∀ σ' H', M σ' H' → D.nx σ' H'
theorem ps_mid {X : Cx} {st : Stmt} {t : TS} (h : PS X st t) : PS X st (tMid t) := by
  intro pins s σ H D I ⟨M, q, m⟩
  refine thn (h pins s σ H _ I q) fun f s1 z => ?_
  cases f with
  | next => obtain ⟨σ', H', J, q⟩ := z; exact ⟨σ', H', J, m _ _ q⟩
  | brk => exact z
  | cont => exact z
  | ret u => exact z
end L2
namespace L2
open PySem PySem.Spec PyProof.Rows
section
variable {X : Cx}
end
end L2
namespace L2
open PySem PySem.Spec PyProof.Rows
section
variable {X : Cx}
end
end L2
namespace L2
open PySem PySem.Spec PyProof.Rows
inductive C where
  | non | bl (b : Bool) | int (i : Int) | str (x : List Nat) | row (xs : List C) | rcd (xs : List C) | odd
def C.ord : C → Nat
  | .non => 0
  | .bl _ => 1
  | .int _ => 2
  | .str _ => 3
  | .row _ => 4
  | .rcd _ => 5
  | .odd => 6
mutual
def T.wt : T → Nat
  | .lst ts => T.wts ts + 1
  | .dic _ ts => T.wts ts + 2
  | .tup ts => T.wts ts + 1
  | .non => 0
  | .bl _ => 0
  | .int _ => 0
  | .str _ => 0
def T.wts : List T → Nat
  | [] => 0
  | t :: ts => max (T.wt t) (T.wts ts)
end
mutual
/-- names few enough to be sorted -/
def T.few : T → Prop
  | .dic ks ts => ks.Nodup ∧ ks.length < 64 ∧ ks.length = ts.length ∧ T.fews ts
  | .lst ts => ts.length ≤ 100000 ∧ T.fews ts
  | .tup _ => False
  | .non => True
  | .bl _ => True
  | .int _ => True
  | .str _ => True
def T.fews : List T → Prop
  | [] => True
  | t :: ts => T.few t ∧ T.fews ts
end
end L2
namespace L2
open PySem PySem.Spec PyProof.Rows
def LtM (P : Program) (w : World) (A : Around) (s : Shared) (u v : Value) (b : Bool) : Prop := ∀ (E : Value → Shared → Prop) (Q : Value → Shared → Prop), Q (.bool b) s → wpAny (model P w) A (richCompare .Lt u v) Q E s
def EqB (P : Program) (w : World) (A : Around) (s : Shared) (u v : Value) (b : Bool) : Prop := ∀ (E : Value → Shared → Prop) (Q : Bool → Shared → Prop), Q b s → wpAny (model P w) A (eqBool u v) Q E s
def RqM (P : Program) (w : World) (A : Around) (s : Shared) (u v : Value) (b : Bool) : Prop := ∀ (E : Value → Shared → Prop) (Q : Value → Shared → Prop), Q (.bool b) s → wpAny (model P w) A (richCompare .Eq u v) Q E s
/-- how two rows of values compare, pair by pair -/
inductive Zc (P : Program) (w : World) (A : Around) (s : Shared) : List Value → List Value → Int → Prop
  | nil : Zc P w A s [] [] 0
  | less {y : Value} {ys : List Value} : Zc P w A s [] (y :: ys) (-1)
  | more {x : Value} {xs : List Value} : Zc P w A s (x :: xs) [] 1
  | eq {x y : Value} {xs ys : List Value} {c : Int} : EqB P w A s x y true → Zc P w A s xs ys c → Zc P w A s (x :: xs) (y :: ys) c
  | ne {x y : Value} {xs ys : List Value} {c : Int} : EqB P w A s x y false → LtM P w A s x y (decide (c < 0)) → c ≠ 0 → Zc P w A s (x :: xs) (y :: ys) c
section
variable {P : Program} {w : World} {A : Around} {s : Shared} {E : Value → Shared → Prop}
end
section
variable {X : Cx} {pins : List (Addr × Obj)} {σ : St} {H : Hp} {s : Shared}
end
end L2
namespace L2
open PySem PySem.Spec PyProof.Rows
def rawC : C → T
  | .str x => .str x
  | _ => .non
mutual
def rk : C → T
  | .non => .tup [.int 0]
  | .bl b => .tup [.int 1, .bl b]
  | .int i => .tup [.int 2, .int i]
  | .str x => .tup [.int 3, .str x]
  | .row cs => .tup [.int 4, .tup (rks cs)]
  | .rcd cs => .tup [.int 5, .tup (rkps cs)]
  | .odd => .non
def rks : List C → List T
  | [] => []
  | c :: cs => rk c :: rks cs
def rkps : List C → List T
  | [] => []
  | c :: cs => rkq c :: rkps cs
def rkq : C → T
  | .row cs => .tup (rkl cs)
  | .non => .non
  | .bl _ => .non
  | .int _ => .non
  | .str _ => .non
  | .rcd _ => .non
  | .odd => .non
def rkl : List C → List T
  | [] => []
  | c :: cs => rawC c :: rks cs
end
mutual
def C.ok : C → Prop
  | .odd => False
  | .row cs => C.oks cs
  | .rcd cs => C.okps cs
  | .non => True
  | .bl _ => True
  | .int _ => True
  | .str _ => True
def C.oks : List C → Prop
  | [] => True
  | c :: cs => C.ok c ∧ C.oks cs
def C.okps : List C → Prop
  | [] => True
  | c :: cs => C.okq c ∧ C.okps cs
def C.okq : C → Prop
  | .row cs => C.okl cs
  | .non => False
  | .bl _ => False
  | .int _ => False
  | .str _ => False
  | .rcd _ => False
  | .odd => False
def C.okl : List C → Prop
  | [] => False
  | c :: cs => (∃ k, c = .str k) ∧ cs.length = 1 ∧ C.oks cs
end
section
variable {X : Cx}
/-- a tuple of texts among the module's names -/
def TupG (K : PySem.W.Frag) (mg : Str → Option Value) (x : Str) (ss : List Str) (a : Addr) : Prop := mg x = some (.ref a) ∧ ∃ (o : Obj) (its : Array Value) (n : Nat), K.lookup a = some o ∧ o.cls = .type "tuple" ∧ o.dict = none ∧ o.data = .seq its n ∧ its.size ≤ sizeLine ∧ Vals (ss.map V.str) its.toList
end
end L2
namespace L2
open PySem PySem.Spec PyProof.Rows
section
variable {X : Cx} {e k : Expr} {te : TE} {tk : TO} {pos p2 : Pos}
end
end L2
namespace L2
open PySem PySem.Spec PyProof.Rows
mutual
/-- small numbers, short texts -/
def T.calm : T → Prop
  | .int i => -(10 ^ 12) ≤ i ∧ i ≤ 10 ^ 12
  | .str x => x.length ≤ 100
  | .lst ts => T.calms ts
  | .dic _ ts => T.calms ts
  | .tup ts => T.calms ts
  | .non => True
  | .bl _ => True
def T.calms : List T → Prop
  | [] => True
  | t :: ts => T.calm t ∧ T.calms ts
end
/-- what is drawn and varied: d deep at most, z things in all at most -/
structure Fit (d z : Nat) (t : T) : Prop where
  few : T.few t
  calm : T.calm t
  dep : T.dep t ≤ d
  sz : T.sz t ≤ z
end L2
namespace L2
open PySem PySem.Spec PyProof.Rows
section
variable {P : Program} {w : World}
end
section
variable {X : Cx}
end
end L2
namespace L2
open PySem PySem.Spec PyProof.Rows
theorem cut_to (xs : List V) (i : Nat) : cutV xs none (some (i : Int)) = xs.take i := by
  unfold cutV
  rw [HT.sIx_nat]
  show (xs.drop 0).take (min i xs.length - 0) = _
  rw [List.drop_zero, Nat.sub_zero]
  by_cases h : i ≤ xs.length
  · rw [Nat.min_eq_left h]
  · rw [Nat.min_eq_right (by omega), List.take_length, List.take_of_length_le (by omega)]
theorem cut_from (xs : List V) (i : Nat) : cutV xs (some (i : Int)) none = xs.drop i := by
  unfold cutV
  rw [HT.sIx_nat]
  show (xs.drop (min i xs.length)).take (xs.length - min i xs.length) = _
  by_cases h : i ≤ xs.length
  · rw [Nat.min_eq_left h, List.take_of_length_le (by rw [List.length_drop]; omega)]
  · rw [Nat.min_eq_right (by omega), List.drop_length, List.drop_of_length_le (by omega), List.take_nil]
end L2
namespace L2
open PySem PySem.Spec PyProof.Rows
section
variable {X : Cx} {pins : List (Addr × Obj)} {σ σ' : St} {H H' : Hp} {s s' : Shared}
theorem Inv.freezeL {d : Addr} {xs : List V} {o : Obj} (I : Inv X pins σ H s) (h : H d = some (.lst xs)) (hg : s.heap.get? d = some o) : Inv X pins σ (upd H d (.frz o (.lst xs))) s := by
  have ne : ∀ b u, H b = u → u ≠ some (.lst xs) → b ≠ d := fun b u e n z => by subst z; exact n (e.symm.trans h)
  refine I.sim (fun b e => by rw [upd_ne (ne b _ e (by intro z; cases z))]; exact e) (fun b a e => by rw [upd_ne (ne b _ e (by intro z; cases z))]; exact e) (fun b a e => by rw [upd_ne (ne b _ e (by intro z; cases z))]; exact e)
    (fun b a e => by rw [upd_ne (ne b _ e (by intro z; cases z))]; exact e) (fun b o' u e => ?_) fun b u e => ?_
  · have e' := I.base.frzs b o' u e
    rw [upd_ne (ne b _ e' (by intro z; cases z))]; exact e'
  · by_cases hb : b = d
    · subst hb
      rw [upd_same] at e; cases e
      exact .inr (.inr ⟨o, _, rfl, h, hg⟩)
    · rw [upd_ne hb] at e; exact .inl e
/-- the expression is run with the record (the row) at d hidden -/
def tHide (d : Addr) (t : TE) : TE := fun σ H Q => (∃ kvs, H d = some (.dK kvs) ∧ ∀ o, t σ (upd H d (.frz o (.dK kvs))) fun v H' => Q v (thaw H H')) ∨ ∃ xs, H d = some (.lst xs) ∧ ∀ o, t σ (upd H d (.frz o (.lst xs))) fun v H' => Q v (thaw H H')
def tHides (t : TE) : TE := fun σ H Q => ∃ d, tHide d t σ H Q
theorem pe_hide {e : Expr} {t : TE} (h : PE X e t) : PE X e (tHides t) := by
  intro pins s σ H Q I q
  obtain ⟨d, ⟨kvs, hd, q⟩ | ⟨xs, hd, q⟩⟩ := q
  · obtain ⟨_, _, us, _, D⟩ := dk_of I.hok hd
    obtain ⟨o, ho, _⟩ := D.typeIs
    exact thn (h pins s σ _ _ (I.freeze hd ho) (q o)) fun u s1 ⟨v, H1, I1, r, q1⟩ => ⟨v, _, I.thaw I1, r, q1⟩
  · obtain ⟨us, r1, pl, _⟩ := I.list (SqL.of hd)
    obtain ⟨o, n, ho, _⟩ := pl
    exact thn (h pins s σ _ _ (I.freezeL hd ho) (q o)) fun u s1 ⟨v, H1, I1, r, q1⟩ => ⟨v, _, I.thaw I1, r, q1⟩
end
/-- the heap without what stands at d -/
def hide (H : Hp) (d : Addr) : Hp := fun b => if b = d then none else H b
theorem hide_ne {H : Hp} {d b : Addr} (h : b ≠ d) : hide H d b = H b := if_neg h
theorem hide_at {H : Hp} {d : Addr} : hide H d d = none := if_pos rfl
theorem hide_sub {H : Hp} {d : Addr} {u : HO} : Same (hide H d) (upd H d u) := fun b v e => by
  by_cases h : b = d
  · subst h; rw [hide_at] at e; cases e
  · rw [hide_ne h] at e; rw [upd_ne h]; exact e
theorem hide_new {H : Hp} {d : Addr} (h : H d = none) : hide H d = H := by
  funext b
  by_cases e : b = d
  · subst e; rw [hide_at, h]
  · rw [hide_ne e]
theorem hide_mono {H H' : Hp} {d : Addr} (h : Same H H') : Same (hide H d) (hide H' d) := fun b v e => by
  by_cases hb : b = d
  · subst hb; rw [hide_at] at e; cases e
  · rw [hide_ne hb] at e ⊢; exact h b v e
/-- seen with d hidden: it stands without d -/
theorem Rep.off {H H' : Hp} {d : Addr} {o : Obj} {u : HO} (hd : H' d = some (.frz o u)) {v : V} {t : T} (h : Rep H' v t) : Rep (hide (L2.thaw H H') d) v t :=
  Rep.plain (fun b w n e => by
    have hb : b ≠ d := fun z => by subst z; rw [hd] at e; cases e; exact n _ _ rfl
    rw [hide_ne hb]
    exact thaw_of e n) v t h
/-- what was seen with d hidden stands so still, behind an expression that was run with d hidden -/
theorem hide_thaw {H H' : Hp} {d : Addr} {o : Obj} {u : HO} (g : Same (upd H d (.frz o u)) H') : Same (hide H d) (hide (L2.thaw H H') d) := fun b w e => by
  by_cases hb : b = d
  · subst hb; rw [hide_at] at e; cases e
  · rw [hide_ne hb] at e ⊢
    have e' : H' b = some w := g b w (by rw [upd_ne hb]; exact e)
    cases w with
    | frz o' w' => rw [thaw_frz e]; exact e'
    | _ => exact thaw_of e' (by intro o v z; cases z)
theorem hide_back {H H' : Hp} {d : Addr} {o : Obj} {u : HO} (hd : H d = some u) (hu : ∀ o v, u ≠ .frz o v) (g : Same (upd H d (.frz o u)) H') : L2.thaw H H' d = some u :=
  thaw_at (g d _ upd_same) fun o v z => hu o v (Option.some.inj (hd.symm.trans z))
end L2
namespace L2
open PySem PySem.Spec PyProof.Rows
end L2
namespace L2
open PySem PySem.Spec PyProof.Rows PySem.Builtin PySem.Builtin.Str
section
variable {prog : Program} {w : World} {A : Around} {E : Value → Shared → Prop} {s : Shared} {x y : Str} {t u : Tok} {Q : Value → Shared → Prop}
end
section
variable {X : Cx}
end
structure Bl3 (mg : Str → Option Value) : Prop extends Bl2 mg where
  abs : mg "abs" = none
end L2
namespace L2
open PySem PySem.Spec PyProof.Rows
def cellF (ns : List Int) (k : Int) : Int :=
  let m := if ns = [] then k * 7919 else (k * 7919 + k / ns.length * 104729 + ns.getD (k % ns.length).toNat 0 * 48271) % 1000003
  (m * m / 11 + 13 * m) % 1000003
theorem cellF_lo (ns : List Int) (k : Int) : 0 ≤ cellF ns k := Int.emod_nonneg _ (by decide)
theorem cellF_hi (ns : List Int) (k : Int) : cellF ns k < 1000003 := Int.emod_lt_of_pos _ (by decide)
end L2
namespace L2
open PySem PySem.Spec PyProof.Rows PySem.Builtin PySem.Builtin.Str
theorem okName_len {k : List Nat} (h : okName k = true) : k.length ≤ 12 := by
  unfold okName at h
  simp only [Bool.and_eq_true, decide_eq_true_eq] at h
  omega
end L2
namespace L2
open PySem PySem.Spec PyProof.Rows
theorem bt_range : bootBuiltins "range" = some (.type "range") := by decide +kernel
def rngO (p : Addr) (n : Int) : HO := .ext fun h => ∃ t u v, IsRange h p 0 n 1 t u v
section
variable {X : Cx}
theorem call_range : CallR X (.type "range") (fun xs H Q => ∃ n, xs = [.int n] ∧ ∀ p, H p = none → Q (.ref p) (upd H p (rngO p n))) := by
  intro pins s σ H xs us Q I r h
  obtain ⟨n, rfl, q⟩ := h
  obtain ⟨u, rfl, t, rfl⟩ := vals1 r
  refine call_range_1 ?_
  refine ⟨.ref s.heap.objs.size, _, I.laid (t' := s.toks + 1 + 1) (fun b o e => Heap.get?_push_of_some _ e) (Nat.le_refl _) (o := rngO s.heap.objs.size n) ?_, rfl, q _ (I.hok.fresh (Nat.le_refl _))⟩
  exact ⟨⟨_, _, _, Heap.get?_push_size _ rfl⟩, ⟨_, Heap.get?_push_size _ rfl⟩, fun h1 h2 ⟨t, u, v, e⟩ k => ⟨t, u, v, k _ e⟩⟩
end
end L2
namespace L2
open PySem PySem.Spec PyProof.Rows
def scv : T → V
  | .int i => .int i
  | .str x => .str (tx x)
  | _ => .non
def Sc (t : T) : Prop := (∃ i, t = .int i) ∨ ∃ x, t = .str x
theorem Sc.rep {H : Hp} {t : T} (h : Sc t) : Rep H (scv t) t := by
  rcases h with ⟨i, rfl⟩ | ⟨x, rfl⟩ <;> rfl
theorem Sc.reps {H : Hp} : ∀ {ts : List T}, (∀ t ∈ ts, Sc t) → Reps H (ts.map scv) ts
  | [], _ => rfl
  | t :: ts, h => ⟨scv t, ts.map scv, rfl, (h t List.mem_cons_self).rep, Sc.reps fun u hu => h u (List.mem_cons_of_mem _ hu)⟩
theorem Sc.of_rep {H : Hp} {v : V} {t : T} (h : Sc t) (hr : Rep H v t) : v = scv t := by
  rcases h with ⟨i, rfl⟩ | ⟨x, rfl⟩ <;> exact hr
def Lay (H : Hp) : List Addr → List (List V) → Prop
  | [], [] => True
  | p :: ps, v :: vs => H p = some (.lst v) ∧ Lay H ps vs
  | _, _ => False
end L2
namespace L2
open PySem PySem.Spec PyProof.Rows
section
variable {X : Cx} {pins : List (Addr × Obj)} {σ : St} {H : Hp} {s : Shared} {h' : Heap}
end
section
variable {X : Cx}
end
/-- two names of a pair -/
abbrev g2 (K : PySem.W.Frag) : TG := gTup K 2 (gCons (gName 0) (gCons (gName 1) gNil))
end L2
namespace L2
open PySem PySem.Spec PyProof.Rows
def tyR (H : Hp) : V → Option String
  | .ref a => match H a with
    | some (.frz _ (.dK _)) => some "dict"
    | _ => tyS H (.ref a)
  | v => tyS H v
theorem tyR_mem {H : Hp} {x : V} {t : String} (h : tyR H x = some t) : t ∈ tyL := by
  cases x with
  | ref a =>
    have h' : (match H a with | some (.frz _ (.dK _)) => some "dict" | _ => tyS H (.ref a)) = some t := h
    split at h'
    · cases h'; simp [tyL]
    · exact tyS_mem h'
  | non => exact tyS_mem (H := H) (show tyS H .non = some t from h)
  | bl b => exact tyS_mem (H := H) (show tyS H (.bl b) = some t from h)
  | int b => exact tyS_mem (H := H) (show tyS H (.int b) = some t from h)
  | str b => exact tyS_mem (H := H) (show tyS H (.str b) = some t from h)
  | byt b => exact tyS_mem (H := H) (show tyS H (.byt b) = some t from h)
  | flt b => exact tyS_mem (H := H) (show tyS H (.flt b) = some t from h)
  | ty b => exact tyS_mem (H := H) (show tyS H (.ty b) = some t from h)
theorem tyR_of {H : Hp} {x : V} {t : String} (h : tyS H x = some t) : tyR H x = some t := by
  cases x with
  | ref a =>
    show (match H a with | some (.frz _ (.dK _)) => some "dict" | _ => tyS H (.ref a)) = some t
    split
    · rename_i o kvs e
      have h' : (match H a with | some (.lst _) => some "list" | some (.tup _) => some "tuple" | some (.dK _) => some "dict" | _ => none) = some t := h
      rw [e] at h'; cases h'
    · exact h
  | _ => exact h
theorem tyR_dic {H : Hp} {a : Addr} {ps : List (Key × V)} (h : Rd H a (.dK ps)) : tyR H (.ref a) = some "dict" := by
  rcases h with h | ⟨o, h⟩
  · exact tyR_of (tyS_dK h)
  · show (match H a with | some (.frz _ (.dK _)) => some "dict" | _ => tyS H (.ref a)) = some "dict"
    rw [h]
section
variable {X : Cx}
theorem call_isiR {T : String} (hT : T ∈ tyL) : CallR X (.builtin "isinstance") (fun xs H Q => ∃ x t, xs = [x, .ty T] ∧ tyR H x = some t ∧ Q (.bl (isSub t T)) H) := by
  intro pins s σ H xs us Q I r h
  obtain ⟨x, t, rfl, ht, q⟩ := h
  cases x with
  | ref a =>
    have h' : (match H a with | some (.frz _ (.dK _)) => some "dict" | _ => tyS H (.ref a)) = some t := ht
    split at h'
    · rename_i o kvs e
      cases h'
      obtain ⟨u, w', rfl, ru, rw'⟩ := vals2 r
      cases (show w' = Value.type T from rw')
      cases (show u = Value.ref a from ru)
      obtain ⟨_, _, vs, _, p⟩ := dk_rd I.hok (.inr ⟨o, e⟩)
      obtain ⟨ob, es, ep, h1, h2, _⟩ := p
      exact PySem.W.kia_one PySem.W.kitx_dict I.kIn ⟨ob, h1, h2.1⟩ (kit_bi (by simp [tyL]) hT) (fun z => nomatch z) fun tk => ⟨.bl _, H, I.tok _, rfl, q⟩
    · exact call_isi hT pins s σ H _ us Q I r ⟨_, t, rfl, h', q⟩
  | _ => exact call_isi hT pins s σ H _ us Q I r ⟨_, t, rfl, ht, q⟩
theorem call_lenR : CallR X (.builtin "len") (fun xs H Q => ∃ a kvs, xs = [V.ref a] ∧ Rd H a (.dK kvs) ∧ Q (.int kvs.length) H) := by
  intro pins s σ H xs us Q I r h
  obtain ⟨a, kvs, rfl, ha, q⟩ := h
  obtain ⟨u, rfl, ru⟩ := vals1 r
  cases ru
  exact d_len I ha fun t s' I' => ⟨.int kvs.length, H, I', ⟨t, rfl⟩, q⟩
end
mutual
/-- the value can be read as the tree -/
def Rp (H : Hp) : V → T → Prop
  | v, .non => v = .non
  | v, .bl b => v = .bl b
  | v, .int i => v = .int i
  | v, .str x => v = .str (tx x)
  | v, .lst ts => ∃ a vs, v = .ref a ∧ H a = some (.lst vs) ∧ Rps H vs ts
  | v, .dic ks ts => ∃ a ps, v = .ref a ∧ Rd H a (.dK ps) ∧ ps.map (·.1) = ks.map (fun k => (Sum.inr (tx k) : Key)) ∧ Rps H (ps.map (·.2)) ts
  | v, .tup ts => ∃ a vs, v = .ref a ∧ H a = some (.tup vs) ∧ Rps H vs ts
def Rps (H : Hp) : List V → List T → Prop
  | vs, [] => vs = []
  | vs, t :: ts => ∃ v r, vs = v :: r ∧ Rp H v t ∧ Rps H r ts
end
theorem Rd.same {H H' : Hp} (g : Same H H') {a : Addr} {u : HO} (h : Rd H a u) : Rd H' a u := h.imp (g _ _) fun ⟨o, e⟩ => ⟨o, g _ _ e⟩
structure Bl4 (mg : Str → Option Value) : Prop extends Bl2 mg where
  enumerate : mg "enumerate" = none
end L2
namespace L2
open PySem PySem.Spec PyProof.Rows
mutual
/-- the value stands for the tree; its rows and records lie at D, each at one place alone -/
def Sp1 (H : Hp) : V → T → List Addr → Prop
  | v, .non, D => D = [] ∧ v = .non
  | v, .bl b, D => D = [] ∧ v = .bl b
  | v, .int i, D => D = [] ∧ v = .int i
  | v, .str x, D => D = [] ∧ v = .str (tx x)
  | v, .lst ts, D => ∃ a vs D', v = .ref a ∧ H a = some (.lst vs) ∧ D = a :: D' ∧ a ∉ D' ∧ Sps H vs ts D'
  | v, .dic ks ts, D => ∃ a ps D', v = .ref a ∧ H a = some (.dK ps) ∧ ps.map (·.1) = ks.map (fun k => (Sum.inr (tx k) : Key)) ∧ D = a :: D' ∧ a ∉ D' ∧ Sps H (ps.map (·.2)) ts D'
  | _, .tup _, _ => False
def Sps (H : Hp) : List V → List T → List Addr → Prop
  | vs, [], D => vs = [] ∧ D = []
  | vs, t :: ts, D => ∃ v r D1 D2, vs = v :: r ∧ D = D1 ++ D2 ∧ Sp1 H v t D1 ∧ Sps H r ts D2 ∧ ∀ b ∈ D1, b ∉ D2
end
/-- but at D all stays -/
def Keep (D : List Addr) (H H' : Hp) : Prop := ∀ b o, b ∉ D → H b = some o → H' b = some o
theorem none_back {H H' : Hp} (g : Same H H') {p : Addr} (h : H' p = none) : H p = none := by
  cases e : H p with
  | none => rfl
  | some o => rw [g _ _ e] at h; cases h
end L2
namespace L2
open PySem PySem.Spec PyProof.Rows
section
variable {prog : Program} {w : World} {A : Around} {E : Value → Shared → Prop} {s : Shared}
end
section
variable {X : Cx}
end
end L2
namespace L2
open PySem PySem.Spec PyProof.Rows
section
variable {X : Cx} {a : Expr} {ta : TE}
end
end L2
namespace L2
open PySem PySem.Spec PyProof.Rows
inductive U where
  | leaf (v : V) | lst (us : List U) | dic (ks : List Key) (us : List U)
def lfS : V → Bool
  | .non => true
  | .bl _ => true
  | .int _ => true
  | .str _ => true
  | _ => false
def Lf (H : Hp) (x : V) : Prop := lfS x = true ∨ ∃ (a : Addr) (xs : List V), x = .ref a ∧ H a = some (.tup xs)
theorem Lf.same {H H' : Hp} (g : ∀ b xs, H b = some (.tup xs) → H' b = some (.tup xs)) {x : V} (h : Lf H x) : Lf H' x := h.imp id fun ⟨a, xs, e, h⟩ => ⟨a, xs, e, g _ _ h⟩
mutual
def Ru (H : Hp) : V → U → Prop
  | v, .leaf x => v = x ∧ Lf H x
  | v, .lst us => ∃ a vs, v = .ref a ∧ H a = some (.lst vs) ∧ Rus H vs us
  | v, .dic ks us => ∃ a ps, v = .ref a ∧ Rd H a (.dK ps) ∧ ps.map (·.1) = ks ∧ Rus H (ps.map (·.2)) us
def Rus (H : Hp) : List V → List U → Prop
  | vs, [] => vs = []
  | vs, u :: us => ∃ v r, vs = v :: r ∧ Ru H v u ∧ Rus H r us
end
mutual
theorem Ru.mono {H H' : Hp} (e : ∀ b xs, H b = some (.lst xs) → H' b = some (.lst xs)) (e2 : ∀ b xs, H b = some (.tup xs) → H' b = some (.tup xs)) (e3 : ∀ b ps, Rd H b (.dK ps) → Rd H' b (.dK ps)) : ∀ (v : V) (u : U), Ru H v u → Ru H' v u
  | _, .leaf _, h => ⟨h.1, h.2.same e2⟩
  | _, .lst us, ⟨a, vs, h1, h2, h3⟩ => ⟨a, vs, h1, e _ _ h2, Rus.mono e e2 e3 vs us h3⟩
  | _, .dic ks us, ⟨a, ps, h1, h2, h3, h4⟩ => ⟨a, ps, h1, e3 _ _ h2, h3, Rus.mono e e2 e3 _ us h4⟩
theorem Rus.mono {H H' : Hp} (e : ∀ b xs, H b = some (.lst xs) → H' b = some (.lst xs)) (e2 : ∀ b xs, H b = some (.tup xs) → H' b = some (.tup xs)) (e3 : ∀ b ps, Rd H b (.dK ps) → Rd H' b (.dK ps)) : ∀ (vs : List V) (us : List U), Rus H vs us → Rus H' vs us
  | _, [], h => h
  | _, u :: us, ⟨v, r, h1, h2, h3⟩ => ⟨v, r, h1, Ru.mono e e2 e3 v u h2, Rus.mono e e2 e3 r us h3⟩
end
theorem Ru.same {H H' : Hp} (g : Same H H') {v : V} {u : U} (h : Ru H v u) : Ru H' v u := Ru.mono (fun b xs => g b _) (fun b xs => g b _) (fun b ps h => h.same g) v u h
theorem Rus.same {H H' : Hp} (g : Same H H') {v : List V} {u : List U} (h : Rus H v u) : Rus H' v u := Rus.mono (fun b xs => g b _) (fun b xs => g b _) (fun b ps h => h.same g) v u h
theorem Rus.length {H : Hp} : ∀ {vs : List V} {us : List U}, Rus H vs us → vs.length = us.length
  | _, [], e => by
    have e' : _ = [] := e
    subst e'; rfl
  | _, _ :: us, ⟨v', r, h1, h2, h3⟩ => by
    subst h1
    simp [Rus.length h3]
theorem Rus.get {H : Hp} : ∀ {vs : List V} {us : List U} {i : Nat} {v : V}, Rus H vs us → vs[i]? = some v → ∃ u, us[i]? = some u ∧ Ru H v u
  | _, [], i, v, e, h => by
    have e' : _ = [] := e
    subst e'; simp at h
  | _, u' :: us, 0, v, ⟨v', r, h1, h2, h3⟩, h => by
    subst h1
    simp at h; subst h
    exact ⟨u', rfl, h2⟩
  | _, _ :: us, i + 1, v, ⟨v', r, h1, h2, h3⟩, h => by
    subst h1
    obtain ⟨u, e, q⟩ := Rus.get (i := i) (v := v) h3 (by simpa using h)
    exact ⟨u, by simpa using e, q⟩
theorem Rus.append {H : Hp} {ws : List V} {xs : List U} (h' : Rus H ws xs) : ∀ {vs : List V} {us : List U}, Rus H vs us → Rus H (vs ++ ws) (us ++ xs)
  | _, [], e => by
    have e' : _ = [] := e
    subst e'; exact h'
  | _, u' :: us, ⟨v', r, h1, h2, h3⟩ => by
    subst h1
    exact ⟨v', r ++ ws, rfl, h2, Rus.append h' h3⟩
theorem Rus.snoc {H : Hp} {v : V} {u : U} (h : Ru H v u) {vs : List V} {us : List U} (hs : Rus H vs us) : Rus H (vs ++ [v]) (us ++ [u]) := Rus.append (show Rus H [v] [u] from ⟨v, [], rfl, h, rfl⟩) hs
mutual
def emb : T → U
  | .non => .leaf .non
  | .bl b => .leaf (.bl b)
  | .int i => .leaf (.int i)
  | .str x => .leaf (.str (tx x))
  | .lst ts => .lst (embs ts)
  | .dic ks ts => .dic (ks.map nK) (embs ts)
  | .tup _ => .leaf .non
def embs : List T → List U
  | [] => []
  | t :: ts => emb t :: embs ts
end
mutual
def U.sz : U → Nat
  | .leaf _ => 1
  | .lst us => U.szs us + 1
  | .dic _ us => U.szs us + 1
def U.szs : List U → Nat
  | [] => 0
  | u :: us => U.sz u + U.szs us
end
mutual
def U.dep : U → Nat
  | .leaf _ => 0
  | .lst us => U.deps us + 1
  | .dic _ us => U.deps us + 1
def U.deps : List U → Nat
  | [] => 0
  | u :: us => max (U.dep u) (U.deps us)
end
mutual
/-- short texts, a record's keys unlike; as many as its things -/
def U.ok : U → Prop
  | .leaf v => ∀ x, v = .str x → x.length ≤ 1000
  | .lst us => U.oks us
  | .dic ks us => ks.Nodup ∧ ks.length = us.length ∧ (∀ x, Sum.inr x ∈ ks → x.length ≤ 1000) ∧ U.oks us
def U.oks : List U → Prop
  | [] => True
  | u :: us => U.ok u ∧ U.oks us
end
theorem U.oks_mem {u : U} : ∀ {us : List U}, U.oks us → u ∈ us → U.ok u
  | [], _, h => nomatch h
  | x :: us, h, hm => (List.mem_cons.mp hm).elim (fun e => e ▸ h.1) (U.oks_mem h.2)
theorem U.oks_of {us : List U} (h : ∀ u ∈ us, U.ok u) : U.oks us := by
  induction us with
  | nil => exact True.intro
  | cons t ts ih => exact ⟨h t List.mem_cons_self, ih fun u hu => h u (List.mem_cons_of_mem _ hu)⟩
theorem U.szs_append : ∀ (a b : List U), U.szs (a ++ b) = U.szs a + U.szs b
  | [], b => by simp [U.szs]
  | x :: a, b => by
    show U.sz x + U.szs (a ++ b) = U.sz x + U.szs a + U.szs b
    rw [U.szs_append a b]; omega
theorem U.szs_le {u : U} : ∀ {us : List U}, u ∈ us → U.sz u ≤ U.szs us
  | [], h => nomatch h
  | x :: us, h => by
    show U.sz u ≤ U.sz x + U.szs us
    rcases List.mem_cons.mp h with e | e
    · rw [e]; omega
    · have := U.szs_le e; omega
theorem U.sz_pos : ∀ u : U, 1 ≤ U.sz u
  | .leaf _ => Nat.le_refl _
  | .lst _ => Nat.le_add_left _ _
  | .dic _ _ => Nat.le_add_left _ _
theorem U.szs_len : ∀ us : List U, us.length ≤ U.szs us
  | [] => Nat.le_refl _
  | u :: us => by
    have := U.szs_len us
    have := U.sz_pos u
    show us.length + 1 ≤ U.sz u + U.szs us
    omega
def tyU : U → String
  | .leaf .non => "NoneType"
  | .leaf (.bl _) => "bool"
  | .leaf (.int _) => "int"
  | .leaf (.str _) => "str"
  | .leaf _ => "tuple"
  | .lst _ => "list"
  | .dic _ _ => "dict"
theorem Ru.ty {H : Hp} {v : V} : ∀ {u : U}, Ru H v u → tyR H v = some (tyU u)
  | .leaf x, h => by
    obtain ⟨rfl, h | ⟨a, xs, e, h⟩⟩ := h
    · cases v <;> first | rfl | cases h
    · subst e; exact tyR_of (tyS_tup h)
  | .lst us, h => by obtain ⟨a, vs, e, h2, _⟩ := h; subst e; exact tyR_of (tyS_lst h2)
  | .dic ks us, h => by obtain ⟨a, vs, e, h2, _⟩ := h; subst e; exact tyR_dic h2
section
variable {X : Cx} {pins : List (Addr × Obj)} {σ : St} {H : Hp} {s : Shared}
theorem op_le_str : OpR X (compareOp .LtE) (fun x y H Q => ∃ i j, x = .str i ∧ y = .str j ∧ Q (.bl (!decide (ts j < ts i))) H) := by
  intro pins s σ H x y v u Q I rx ry h
  obtain ⟨i, j, rfl, rfl, q⟩ := h
  obtain ⟨t, rfl⟩ := rx
  obtain ⟨t', rfl⟩ := ry
  exact PySem.P.le_str (fin_bl I q rfl)
theorem call_isi2R {T W : String} (hT : T ∈ tyL) (hU : W ∈ tyL) : CallR X (.builtin "isinstance") (fun xs H Q => ∃ x t p, xs = [x, .ref p] ∧ H p = some (.tup [.ty T, .ty W]) ∧ tyR H x = some t ∧ Q (.bl (isSub t T || isSub t W)) H) := by
  intro pins s σ H xs us Q I r h
  obtain ⟨x, t, p, rfl, hp, ht, q⟩ := h
  cases x with
  | ref a =>
    have h' : (match H a with | some (.frz _ (.dK _)) => some "dict" | _ => tyS H (.ref a)) = some t := ht
    split at h'
    · rename_i o kvs e
      cases h'
      obtain ⟨u, w', rfl, ru, rw'⟩ := vals2 r
      cases (show w' = Value.ref p from rw')
      cases (show u = Value.ref a from ru)
      obtain ⟨_, _, vs, _, pp⟩ := dk_rd I.hok (.inr ⟨o, e⟩)
      obtain ⟨ob, es, ep, h1, h2, _⟩ := pp
      obtain ⟨_, its, rv, pl⟩ := (show ObjOk X.prog X.w H s.heap p (.tup [.ty T, .ty W]) from I.hok p _ hp)
      obtain ⟨v1, v2, ee, r1, r2⟩ := vals2 rv
      subst ee
      cases (show v1 = Value.type T from r1)
      cases (show v2 = Value.type W from r2)
      obtain ⟨o2, ho, hc, n, hd⟩ := pl
      obtain ⟨oc, od, odt, osl⟩ := o2
      cases (show oc = Value.type "tuple" from hc)
      cases (show odt = Data.seq _ n from hd)
      refine PySem.W.kia_tup PySem.W.kitx_dict I.kIn ⟨ob, h1, h2.1⟩ ho (b := isSub "dict" T || isSub "dict" W) ?_ (fun z => nomatch z) fun tk => ⟨.bl _, H, I.tok _, rfl, q⟩
      have k1 := kit_bi (K := X.K) (t := "dict") (by simp [tyL]) hT
      have k2 := kit_bi (K := X.K) (t := "dict") (by simp [tyL]) hU
      simp only [PySem.W.kitAny, k1, k2]
      cases isSub "dict" T <;> cases isSub "dict" W <;> rfl
    · exact call_isi2 hT hU pins s σ H _ us Q I r ⟨_, t, p, rfl, hp, h', q⟩
  | _ => exact call_isi2 hT hU pins s σ H _ us Q I r ⟨_, t, p, rfl, hp, ht, q⟩
end
section
variable {X : Cx} {o : Expr} {to : TE} {name : Str} {apos cpos : Pos} {id : String} {r : V → List V → Hp → VK → Prop}
def tBMR (r : V → List V → Hp → VK → Prop) (to : TE) : TE := fun σ H Q => to σ H fun x H1 => (∃ p kvs, x = .ref p ∧ Rd H1 p (.dK kvs)) ∧ r x [] H1 Q
theorem pe_bmR (pa : PlainAttrs "dict") (slot : Slot "dict" name id) (hty : typeOf (.builtin id) = pure (.type "method_descriptor")) (hm : MtR X id r) (ho : PE X o to)
    (hbase : attributeBase o name X.env (eval o X.env) = eval o X.env := by rfl) (hline : (apos.endLine == cpos.line) = true := by rfl) : PE X (.Call (.Attribute o name apos) [] [] cpos) (tBMR r to) := by
  intro pins s σ H Q I h
  refine wpAny_Call_method0_late hbase hline (thn (ho pins s σ H _ I h) fun v s1 ⟨x, H1, I1, r1, ⟨p, kvs, ex, hp⟩, q1⟩ => ?_)
  subst ex
  cases r1
  obtain ⟨_, _, _, _, ob, _, _, e, ex, _⟩ := dk_rd I1.hok hp
  refine ⟨"dict", id, pa, slot, hty, ⟨ob, e, ex.1⟩, (fun a e2 => by cases e2; exact ⟨ob, e, ex.2.1⟩), Calls.callWith_builtin rfl (PySem.evalArgs_none (hm pins s1 σ H1 (.ref p) [] (.ref p) [] Q I1 rfl .nil q1))⟩
end
structure Bl5 (mg : Str → Option Value) : Prop extends Bl2 mg where
  abs : mg "abs" = none
  ord : mg "ord" = none
end L2
namespace L2
open PySem PySem.Spec PyProof.Rows
section
variable {X : Cx} {pins : List (Addr × Obj)} {σ : St} {H : Hp} {s : Shared} {h' : Heap}
end
/-- the lists at l and m, place by place: each pair a new tuple -/
def Itz (K : PySem.W.Frag) (l m : Addr) : It :=
  ⟨fun i H => ∃ xs ys x y, SqL K H l xs ∧ SqL K H m ys ∧ xs[i]? = some x ∧ ys[i]? = some y,
   fun i H v H' => ∃ p x y, H p = none ∧ v = .ref p ∧ (∀ xs, SqL K H l xs → xs[i]? = some x) ∧ (∀ ys, SqL K H m ys → ys[i]? = some y) ∧ H' = upd H p (.tup [x, y]),
   fun i H => ∃ xs ys, SqL K H l xs ∧ SqL K H m ys ∧ (xs.length ≤ i ∨ ys.length ≤ i)⟩
def iZip (K : PySem.W.Frag) (ta : TA) : TI := fun σ H R => ta σ H fun vs H1 => ∃ l m xs ys, vs = [.ref l, .ref m] ∧ SqL K H1 l xs ∧ SqL K H1 m ys ∧ R (Itz K l m) H1
end L2
namespace L2
open PySem PySem.Spec PyProof.Rows
structure Bl6 (mg : Str → Option Value) : Prop extends Bl2 mg where
  zip : mg "zip" = none
section
variable {X : Cx} {a : Expr} {ta : TE}
/-- e is True, where e is a truth -/
def tIsT (ta : TE) : TE := fun σ H Q => ta σ H fun x H1 => ∃ b, x = .bl b ∧ Q (.bl b) H1
end
end L2
namespace HT
open PySem PyProof.Rows
open PySem.SeqAt
open PySem.AutoSeq1 (wpAny_loadPart')
open PySem.MeetsSeq PySem.MeetsSeq2 PySem.MeetsSeq3
section
variable {prog : Program} {w : World} {A : Around} {E : Value → Shared → Prop} {s : Shared}
theorem getItem_tuple_whole {t sl : Addr} {items : Array Value} {vl vu : Value} {lo hi : Option Int} {Q : Value → Shared → Prop} (ht : IsTup s.heap t items) (hs : s.heap.IsSliceOf sl vl vu .none) (pl : IsPart vl lo) (pu : IsPart vu hi)
    (hw : sIx items.size 0 lo = 0 ∧ sIx items.size items.size hi = items.size) (h : Q (.ref t) s) : wpAny (model prog w) A (getItem (.ref t) (.ref sl)) Q E s := by
  obtain ⟨os, hos, hcs, hds⟩ := id hs
  have hTs : s.TypeIs (.ref sl) "slice" := ⟨os, hos, hcs⟩
  unfold getItem
  try with_reducible refine wpAny_holding ?_
  first | refine wpAny_bind (wpAny_pure ?_) | skip
  refine wpAny_bind (wpAny_sequenceKey ht.typeIs (by decide) ?_)
  refine wpAny_bind (wpAny_callSpecial?_slot (name := Str.ofString "__getitem__") ht.typeIs PyProof.Rows.slot_tuple_getitem
    (wpAny_call_entry PyProof.Rows.slot_tuple_getitem ht.typeIs entry_tuple_getitem ?_ (args_tuple_getitem _ _)))
  show wpAny _ _ (Builtin.Tuple.tupleItemsOf (.ref t) >>= _) _ _ s
  refine wpAny_bind (tupleItemsOf_ ht ?_)
  refine wpAny_bind (wpAny_typeOf hTs ?_)
  rw [if_pos (by decide)]
  refine wpAny_bind (sliceApplied_gen hs pl pu ?_)
  show wpAny _ _ (if (((sIx items.size 0 lo : Nat) : Int) == 0 && (1 : Int) == 1 && (sIx items.size items.size hi - sIx items.size 0 lo) == items.size) = true then _ else _) _ _ s
  rw [if_pos (by rw [hw.1, hw.2]; simp)]
  refine wpAny_bind ?_
  have hx : ∀ (Q' : Bool → Shared → Prop), Q' true s → wpAny (model prog w) A.in1 (Builtin.Tuple.tupleIsExact (.ref t)) Q' E s := fun Q' hq => by
    unfold Builtin.Tuple.tupleIsExact
    exact wpAny_bind (wpAny_typeOf ht.typeIs (wpAny_pure hq))
  refine hx _ ?_
  rw [if_pos rfl]
  refine wpAny_bind (wpAny_rule ?_)
  exact wpAny_pure ⟨_, rfl, wpAny_pure h⟩
end
end HT
namespace L2
open PySem PySem.Spec PyProof.Rows
/-- t[lo:hi]: the whole is t itself -/
def rSlTw (K : PySem.W.Frag) : V → Option Int → Option Int → Hp → VK → Prop := fun x lo hi H Q => ∃ a xs, x = .ref a ∧ SqT K H a xs ∧
  ((HT.sIx xs.length 0 lo = 0 ∧ HT.sIx xs.length xs.length hi = xs.length ∧ Q (.ref a) H) ∨ (¬ (HT.sIx xs.length 0 lo = 0 ∧ HT.sIx xs.length xs.length hi = xs.length) ∧ ∀ p, H p = none → Q (.ref p) (upd H p (.tup (cutV xs lo hi)))))
theorem sl_tupw {X : Cx} : SlR X (rSlTw X.K) := by
  intro pins s σ H x v vl vu lo hi sl Q I rx hs pl pu h
  obtain ⟨a, xs, rfl, hx, h⟩ := h
  rcases h with ⟨h1, h2, q⟩ | ⟨hw, q⟩
  · cases rx
    obtain ⟨its, r, ht, hz⟩ := I.tuple hx
    have hlen : its.toArray.size = xs.length := by rw [List.size_toArray]; exact r.length.symm
    refine ⟨"tuple", _, PyProof.Rows.slot_tuple_getitem.lookup, ht.typeIs, ?_⟩
    exact HT.getItem_tuple_whole ht hs pl pu (by rw [hlen]; exact ⟨h1, h2⟩) ⟨.ref a, H, I, rfl, q⟩
  · exact sl_tup pins s σ H _ v vl vu lo hi sl Q I rx hs pl pu ⟨a, xs, rfl, hx, hw, q⟩
end L2
namespace L2
open PySem PySem.Spec PyProof.Rows PySem.Builtin PySem.Builtin.Str
def jn (s : List Nat) : List (List Nat) → List Nat
  | [] => []
  | [x] => x
  | x :: y :: r => x ++ s ++ jn s (y :: r)
theorem ts_app (x y : Str) : ts (x ++ y) = ts x ++ ts y := by
  show (x.cps ++ y.cps).toList = _
  rw [Array.toList_append]
theorem ts_join (sep : Str) : ∀ ps : List Str, ts (sep.join ps) = jn (ts sep) (ps.map ts)
  | [] => rfl
  | [x] => rfl
  | x :: y :: r => by
    show ts (x ++ sep ++ sep.join (y :: r)) = ts x ++ ts sep ++ jn (ts sep) ((y :: r).map ts)
    rw [ts_app, ts_app, ts_join sep (y :: r)]
section
variable {X : Cx}
end
end L2
namespace L2
open PySem PySem.Spec PyProof.Rows
end L2
namespace L2
open PySem PySem.Spec PyProof.Rows
section
variable {X : Cx}
/-- x == a text, x flat or a list -/
def rEqS : R2 := fun x y H Q => ∃ z, y = .str z ∧ ((scal x y = true ∧ Q (.bl (decide (x = .str z))) H) ∨ ∃ a xs, x = .ref a ∧ H a = some (.lst xs) ∧ Q (.bl false) H)
theorem op_eq_S (hu : X.A.units + 1 < cLine) : OpR X (compareOp .Eq) rEqS := by
  intro pins s σ H x y v u Q I rx ry h
  obtain ⟨z, rfl, h⟩ := h
  rcases h with ⟨hs, q⟩ | ⟨a, xs, rfl, ha, q⟩
  · exact op_eq pins s σ H x _ v u Q I rx ry ⟨hs, q⟩
  · cases rx
    obtain ⟨t, rfl⟩ := ry
    obtain ⟨its, n, r, ho, hz⟩ := I.lst ha
    have hT : s.TypeIs (.ref a) "list" := ⟨_, ho, rfl⟩
    refine SeqAt.rc_eq_decline_or (k := false) hT (typeIs_str _ _ _) (by decide) (by kernel_rfl) F.slot_list_eq F.slot_str_eq ?_ ?_ ?_ (.inr (by omega)) ⟨.bl false, H, I, rfl, q⟩
    · intro Q' h'
      exact call_meets F.slot_list_eq hT F.entry_list_eq (F.args_list_eq_2 _ _) (SeqAt.list_eq_declines_str a its.toArray n none #[] z t) ⟨ho, h'⟩
    · intro Q' h'
      exact call_meets F.slot_str_eq (typeIs_str _ _ _) F.entry_str_eq (F.args_str_eq_2 _ _) (SeqAt.str_eq_declines_seq_str z t a _ its.toArray n none #[]) ⟨ho, h'⟩
    · intro Q' h'
      exact wpAny_pure h'
/-- x in a tuple of texts, x flat or a list -/
def rInS (K : PySem.W.Frag) : R2 := fun x y H Q => ∃ (p : Addr) (ys : List Str), y = .ref p ∧ H p = some (.tup (ys.map V.str)) ∧ ((flatV x = true ∧ Q (.bl (inV x (ys.map V.str))) H) ∨ ∃ a xs, x = .ref a ∧ H a = some (.lst xs) ∧ Q (.bl false) H)
theorem flat_all (ys : List Str) : (ys.map V.str).all flatV = true := by
  rw [List.all_map, List.all_eq_true]
  intro _ _
  rfl
theorem op_in_S (hu : X.A.units + 1 < cLine) : OpR X (compareOp .In) (rInS X.K) := by
  intro pins s σ H x y v u Q I rx ry h
  obtain ⟨p, ys, rfl, hp, h⟩ := h
  rcases h with ⟨hf, q⟩ | ⟨a, xs, rfl, ha, q⟩
  · exact op_in_seq pins s σ H x _ v u Q I rx ry ⟨p, _, rfl, .inr (SqT.of hp), hf, flat_all ys, q⟩
  · cases rx
    cases ry
    obtain ⟨its, r, pl, hz⟩ := I.tuple (SqT.of (K := X.K) hp)
    obtain ⟨jts, rv, pl2, hz2⟩ := I.list (SqL.of (K := X.K) ha)
    refine SeqAt.in_tupleAt (fun _ => false) pl (fun w hw => ?_) ⟨.bl false, H, I, ?_, q⟩
    · obtain ⟨z, t, rfl⟩ : ∃ z t, w = .str z t := by
        have hw' : w ∈ its := by simpa using hw
        clear hw pl hz hp
        induction its generalizing ys with
        | nil => cases hw'
        | cons i its ih =>
          cases ys with
          | nil => cases r
          | cons y ys =>
            cases r with
            | cons r1 r2 =>
              rcases List.mem_cons.mp hw' with e | e
              · obtain ⟨t, e'⟩ := r1
                exact ⟨y, t, e.trans e'⟩
              · exact ih ys r2 e
      exact SeqAt.EqAt.str_list z t pl2.isList (by show X.A.units + 1 < cLine; exact hu)
    · show Value.bool (its.toArray.any fun _ => false) = Value.bool false
      congr 1
      simp
/-- an int not in range(n) -/
def rNotRng : R2 := fun x y H Q => ∃ p n i, x = .int i ∧ y = .ref p ∧ H p = some (rngO p n) ∧ Q (.bl (!decide (0 ≤ i ∧ i < n))) H
theorem op_notin_rng : OpR X (compareOp .NotIn) rNotRng := by
  intro pins s σ H x y v u Q I rx ry h
  obtain ⟨p, n, i, rfl, rfl, hp, q⟩ := h
  cases ry
  obtain ⟨t, rfl⟩ := rx
  obtain ⟨⟨t1, u1, v1, hr⟩, _⟩ := (show ObjOk X.prog X.w H s.heap p (rngO p n) from I.hok p _ hp)
  have hT : s.TypeIs (.ref p) "range" := ⟨_, hr, rfl⟩
  refine wpAny_bind (wpAny_contains_slot hT F.slot_range_contains (wpAny_call_entry F.slot_range_contains hT F.entry_range_contains ?_ (F.args_range_contains_2 _ _)))
  show wpAny _ _ (Builtin.«range.__contains__» ⟨[.ref p, .int i t], []⟩) _ _ s
  unfold Builtin.«range.__contains__»
  refine wpAny_bind (wpAny_pure ?_)
  refine wpAny_bind (wpAny_rule ?_)
  refine wpAny_bind ?_
  have hf : ∀ Q' : Int × Int × Int → Shared → Prop, Q' (0, n, 1) s → wpAny (model X.prog X.w) X.A.in1 (Builtin.Range.rangeFields (.ref p)) Q' X.xe s := fun Q' h' => by
    unfold Builtin.Range.rangeFields
    refine wpAny_bind (wpAny_field (i := 0) hr rfl rfl ?_)
    refine wpAny_bind (wpAny_pure ?_)
    refine wpAny_bind (wpAny_field (i := 1) hr rfl rfl ?_)
    refine wpAny_bind (wpAny_pure ?_)
    refine wpAny_bind (wpAny_field (i := 2) hr rfl rfl ?_)
    refine wpAny_bind (wpAny_pure ?_)
    exact wpAny_pure h'
  refine hf _ ?_
  refine wpAny_pure ⟨_, rfl, wpAny_truthy_bool (wpAny_pure ⟨.bl (!decide (0 ≤ i ∧ i < n)), H, I, ?_, q⟩)⟩
  show Value.bool (!(Builtin.Range.rangePlace? 0 n 1 i).isSome) = Value.bool (!decide (0 ≤ i ∧ i < n))
  congr 2
  unfold Builtin.Range.rangePlace?
  by_cases h1 : 0 ≤ i
  · by_cases h2 : i < n
    · simp [h1, h2, Int.emod_one]
    · simp [h1, h2]
  · simp [h1]
/-- len of a list or a dict -/
theorem call_len_ld : CallR X (.builtin "len") (fun xs H Q => ∃ (a : Addr) (n : Nat), xs = [.ref a] ∧ ((∃ ys, SqL X.K H a ys ∧ n = ys.length) ∨ ∃ kvs, H a = some (.dK kvs) ∧ n = kvs.length) ∧ Q (.int n) H) := by
  intro pins s σ H xs us Q I r h
  obtain ⟨a, n, rfl, h, q⟩ := h
  rcases h with ⟨ys, hy, rfl⟩ | ⟨kvs, hk, rfl⟩
  · exact call_len_l pins s σ H _ us Q I r ⟨a, rfl, ys, hy, q⟩
  · exact call_lenD pins s σ H _ us Q I r ⟨a, kvs, rfl, hk, q⟩
/-- text.count(y) -/
def rCount : V → List V → Hp → VK → Prop := fun x vs H Q => ∃ (z y : Str), x = .str z ∧ vs = [.str y] ∧ Q (.int (Builtin.Str.occurrences z y 0 z.length (z.length + 1)).length) H
theorem mt_count : MtR X "str.count" rCount := by
  intro pins s σ H x vs v us Q I rx rv h
  obtain ⟨z, y, rfl, rfl, q⟩ := h
  obtain ⟨t, rfl⟩ := rx
  obtain ⟨u, rfl, t', rfl⟩ := rv.one
  exact call_gives F.slot_str_count (typeIs_str _ _ _) F.entry_str_count (F.args_str_count_2 _ _) (gives_str_count z y t t') ⟨.int _, H, I.tok _, ⟨_, rfl⟩, q⟩
end
end L2
namespace K41
open PySem L2
local macro_rules | `(tactic| walk_at "rd") => `(tactic| simp only [cxOf_K, nox_K, compCx_K, tSeq, tNext, tAsg, gName, tRet, tRetN, tIfS, tDrop, tOp, tUn, tVar, tC, tCall, tCons, tNil, tTest, tB, tAnd, tOr, tNot, tAndV, tOrV, tNotV, tIf, tCB, tBM, tComp, tTrue, tPart, tNoPart, tSl, tChain, tIsN, tNotN, tLst, tTup, tFor_eq, sDPut, tDNewK, tNever, rI0, rI, rU, rEq, rNe, rMulS, rInC, iRng1, iStr, CDiv, CMul, CPow, scal, List.append_nil, List.getElem?_cons_zero, List.getElem?_cons_succ, List.set_cons_zero, List.set_cons_succ, List.map_cons, List.map_nil, List.length_cons, List.length_nil, sizeLine_eq, Nat.reduceAdd, Nat.reduceLeDiff, Option.join_some, Option.join_none, Option.some.injEq, V.int.injEq, V.str.injEq, V.bl.injEq, V.ref.injEq, V.ty.injEq, List.cons.injEq, and_true, true_and, and_self, exists_eq_left', exists_eq_left, exists_and_left, exists_and_right, decide_eq_true_eq, Bool.not_eq_eq_eq_not, Bool.not_true, Bool.not_false, decide_eq_false_iff_not, Int.reduceLT, Int.reduceLE, Int.reduceNeg, Int.reducePow, Int.reduceAdd, Int.reduceSub, Int.reduceMul, Int.reduceToNat, natAbs10, Nat.reduceLT, Nat.reducePow, or_true, true_or, if_true, if_false, Bool.false_eq_true, ite_true, ite_false, reduceCtorEq])
seal L2.PSs L2.PS L2.PE L2.PT L2.PW L2.PA L2.PI L2.PG L2.PGs L2.PPs L2.PTs
def top (i : Nat) : Stmt := PySem.Challenge.pw_cabinet_k41_papers_known.main.body.getD i (.Pass ⟨0, 0, 0, 0⟩)
abbrev sCell : Stmt := top 26
abbrev sNum : Stmt := top 30
def cellF (ns : List Int) (k : Int) : Int :=
  let m := if ns = [] then k * 7919 else (k * 7919 + k / ns.length * 104729 + ns.getD (k % ns.length).toNat 0 * 48271) % 1000003
  (m * m / 11 + 13 * m) % 1000003
theorem cellF_lo (ns : List Int) (k : Int) : 0 ≤ cellF ns k := Int.emod_nonneg _ (by decide)
theorem cellF_hi (ns : List Int) (k : Int) : cellF ns k < 1000003 := Int.emod_lt_of_pos _ (by decide)
def spCell (K : PySem.W.Frag) : Sp := fun vs H Q _ => ∃ (a : Addr) (ns : List Int) (k : Int), vs = [.ref a, .int k] ∧ SqL K H a (ns.map V.int) ∧ ns.length ≤ 63 ∧ 0 ≤ k ∧ k < 1000000 ∧ ∀ H', Same H H' → Q (.int (cellF ns k)) H'
theorem spCell_i {K : PySem.W.Frag} {H : Hp} {Q : VK} {E : XK} {a : Addr} {ns : List Int} {k : Int} (hS : SqL K H a (ns.map V.int)) (h63 : ns.length ≤ 63) (h0 : 0 ≤ k) (h1 : k < 1000000) (q : ∀ H', Same H H' → Q (.int (cellF ns k)) H') :
    spCell K [.ref a, .int k] H Q E := ⟨a, ns, k, rfl, hS, h63, h0, h1, q⟩
section
variable {P : Program} {w : World} {K : PySem.W.Frag} {mg : Str → Option Value} {base : Heap} {f : Addr} {fd : FuncData}
theorem scCell : FnScope ["_law_script", "_law_k", "_law_more"] ["_law_script", "_law_k"] (defScope sCell) := ⟨rfl, rfl, rfl, by decide +kernel, rfl, by decide +kernel, by decide +kernel⟩
theorem ok_cell (F : Fun K "_law_cell" "_law_cell" sCell f fd) (B : Bl mg) : FnOk P w K mg base CX0 1 f fd ["_law_script", "_law_k"] (spCell K) := by
  refine F.ok scCell (fun vs H Q E h => ?_) (fun cdv A outer s H vs Q E hr h => ?_)
  · obtain ⟨a, ns, k, rfl, _⟩ := h
    rfl
  obtain ⟨a, ns, k, rfl, hS, h63, h0, h1, q⟩ := h
  have nd := scCell.nd
  have hu0 := hr.units0
  refine ⟨_, (pss_cons (ps_set (i := 2) nd rfl (Or.inl rfl) (pe_op op_mul (pv 1) pe_int))
    (pss_cons (ps_if (pt_cmpR (op_ne_l hu0) (pv 0) (pe_lst pa_nil) (nomark _)) (pss_cons (ps_set (i := 2) nd rfl (Or.inl rfl) (pe_op op_add (pv 2) (pe_op op_mul (pe_op op_fdiv (pv 1) (pe_callB call_len_l rfl B.len bt_len (pa_cons (pv 0) pa_nil))) pe_int)))
    (pss_one (ps_set (i := 2) nd rfl (Or.inl rfl) (pe_op op_mod (pe_op op_add (pv 2) (pe_op op_mul (pe_ix ix_list (pv 0) (pe_op op_mod (pv 1) (pe_callB call_len_l rfl B.len bt_len (pa_cons (pv 0) pa_nil))) (fun _ _ => rfl)) pe_int)) pe_int)))) pss_nil)
    (pss_one (ps_ret (pe_op op_mod (pe_op op_add (pe_op op_fdiv (pe_op op_mul (pv 2) (pv 2)) pe_int) (pe_op op_mul pe_int (pv 2))) pe_int))))), ?_⟩
  rw [show start ["_law_script", "_law_k", "_law_more"] [.ref a, .int k] = [some (.ref a), some (.int k), none] from rfl]
  walk_at "rd"
  intro p hp
  have hS' := (same_new hp (.lst [])).seq hS
  refine rEqL_i hS' (SqL.of upd_same) (flat_ints ns) rfl ⟨_, rfl, ?_⟩
  rw [eqLs_nil]
  by_cases hn : ns = []
  · subst hn
    refine iteF ⟨.inl (by omega), ?_⟩
    exact q _ (same_new hp _)
  · have hpos : 0 < ns.length := List.length_pos_iff.mpr hn
    have e1 : (ns.map V.int).isEmpty = false := by cases ns with | nil => exact absurd rfl hn | cons _ _ => rfl
    rw [if_pos rfl, e1]
    have hl : (ns.map V.int).length = ns.length := List.length_map _
    have hm0 : 0 ≤ k % (ns.length : Int) := Int.emod_nonneg _ (by omega)
    have hm1 : k % (ns.length : Int) < ns.length := Int.emod_lt_of_pos _ (by omega)
    refine iteT ⟨ns.map V.int, hS', by rw [hl]; omega, ns.map V.int, hS', by rw [hl]; omega, ?_⟩
    rw [hl]
    refine rIxL_i hS' (atI_getD (d := .int 0) hm0 (by rw [hl]; exact hm1)) ⟨ns.getD (k % ns.length).toNat 0, ?_, .inl ?_, ?_⟩
    · simp [List.getD, List.getElem?_map]
    · generalize (k * 7919 + k / ns.length * 104729 + ns.getD (k % ns.length).toNat 0 * 48271) = z
      omega
    · have e : cellF ns k = _ := rfl
      have e2 : cellF ns k = (((k * 7919 + k / ns.length * 104729 + ns.getD (k % ns.length).toNat 0 * 48271) % 1000003 * ((k * 7919 + k / ns.length * 104729 + ns.getD (k % ns.length).toNat 0 * 48271) % 1000003) / 11 + 13 * ((k * 7919 + k / ns.length * 104729 + ns.getD (k % ns.length).toNat 0 * 48271) % 1000003)) % 1000003) := by
        unfold cellF; rw [if_neg hn]
      rw [← e2]
      exact q _ (same_new hp _)
def spNum : Sp := fun vs H Q _ => ∃ (m : Int), vs = [.int m] ∧ 0 ≤ m ∧ m < 2000000 ∧ ∀ (i : Int), -(10 ^ 12) ≤ i → i ≤ 10 ^ 12 → ∀ H', Same H H' → Q (.int i) H'
theorem scNum : FnScope ["_law_more"] ["_law_more"] (defScope sNum) := ⟨rfl, rfl, rfl, by decide +kernel, rfl, by decide +kernel, by decide +kernel⟩
theorem ok_num (F : Fun K "_law_number_by" "_law_number_by" sNum f fd) : FnOk P w K mg base CX0 1 f fd ["_law_more"] spNum := by
  refine F.ok scNum (fun vs H Q E h => ?_) (fun cdv A outer s H vs Q E hr h => ?_)
  · obtain ⟨m, rfl, _⟩ := h
    rfl
  obtain ⟨m, rfl, h0, h1, q⟩ := h
  have nd := scNum.nd
  refine ⟨_, (pss_cons (ps_if (pt_cmpR op_eq (pe_op op_mod (pv 0) pe_int) pe_int (nomark _)) (pss_one (ps_ret (pe_op op_sub (pe_op op_mod (pe_op op_fdiv (pv 0) pe_int) pe_int) pe_int))) pss_nil)
    (pss_cons (ps_if (pt_cmpR op_eq (pe_op op_mod (pv 0) pe_int) pe_int (nomark _)) (pss_one (ps_ret (pe_op op_sub (pe_op op_mod (pe_op op_pow (pv 0) pe_int) (pe_op op_add (pe_op op_mul pe_int (pe_op op_pow pe_int pe_int)) pe_int)) (pe_op op_pow pe_int pe_int)))) pss_nil)
    (pss_one (ps_ret (pe_ix ix_list (pe_lst (pa_cons (pe_op op_pow pe_int pe_int) (pa_cons (pe_un un_neg (pe_op op_pow pe_int pe_int)) (pa_cons (pe_op op_sub (pe_op op_pow pe_int pe_int) pe_int) (pa_cons pe_int (pa_cons pe_int (pa_cons (pe_un un_neg pe_int) (pa_cons (pe_op op_pow pe_int pe_int) (pa_cons pe_int pa_nil))))))))) (pe_op op_mod (pe_op op_fdiv (pv 0) pe_int) pe_int) (fun _ _ => rfl)))))), ?_⟩
  rw [show start ["_law_more"] [.int m] = [some (.int m)] from rfl]
  walk_at "rd"
  split
  · exact q _ (by omega) (by omega) _ (Same.refl H)
  · split
    · refine ⟨by omega, q _ ?_ ?_ _ (Same.refl H)⟩
      · have := Int.emod_nonneg (m ^ 4) (show (2000000000001 : Int) ≠ 0 by decide)
        omega
      · have := Int.emod_lt_of_pos (m ^ 4) (show (0 : Int) < 2000000000001 by decide)
        omega
    · intro p hp
      obtain ⟨v, hv, hm⟩ := atI_of (xs := [V.int 1000000000000, V.int (-1000000000000), V.int 999999999999, V.int 0, V.int 1, V.int (-1), V.int 100000000000, V.int 999]) (i := m / 3 % 8) (by omega) (by simp only [List.length_cons, List.length_nil]; omega)
      refine rIxL_i (SqL.of upd_same) hv ?_
      simp only [List.mem_cons, List.not_mem_nil, or_false] at hm
      rcases hm with rfl | rfl | rfl | rfl | rfl | rfl | rfl | rfl <;> exact q _ (by decide) (by decide) _ (same_new hp _)
end
section
variable {P : Program} {w : World} {K : PySem.W.Frag} {mg : Str → Option Value} {base : Heap} {f : Addr} {fd : FuncData}
abbrev sName : Stmt := top 27
def spName : Sp := fun vs H Q _ => ∃ (m : Int), vs = [.int m] ∧ 0 ≤ m ∧ m < 2000000 ∧ ∀ (x : List Nat), okName x = true → ∀ H', Same H H' → Q (.str (tx x)) H'
theorem scName : FnScope ["_law_more", "_law_letters", "_law_size_here", "_law_at", "_law_word", "_law_by", "_law_signs_here"] ["_law_more"] (defScope sName) := ⟨rfl, rfl, rfl, by decide +kernel, rfl, by decide +kernel, by decide +kernel⟩
theorem ok_name (F : Fun K "_law_name_by" "_law_name_by" sName f fd) (B : Bl mg) : FnOk P w K mg base CX0 1 f fd ["_law_more"] spName := by
  refine F.ok scName (fun vs H Q E h => ?_) (fun cdv A outer s H vs Q E hr h => ?_)
  · obtain ⟨m, rfl, _⟩ := h
    rfl
  obtain ⟨m, rfl, h0, h1, q⟩ := h
  have nd := scName.nd
  refine ⟨_, (pss_cons (ps_set (i := 1) nd rfl (Or.inr rfl) pe_str)
    (pss_cons (ps_set (i := 2) nd rfl (Or.inl rfl) (pe_ix ix_list (pe_lst (pa_cons pe_int (pa_cons (pe_op op_add pe_int (pe_op op_mod (pe_op op_fdiv (pv 0) pe_int) pe_int)) (pa_cons (pe_op op_add pe_int (pe_op op_mod (pe_op op_fdiv (pv 0) pe_int) pe_int)) pa_nil)))) (pe_op op_mod (pv 0) pe_int) (fun _ _ => rfl)))
    (pss_cons (ps_if (pt_cmpR op_eq (pe_op op_mod (pe_op op_fdiv (pv 0) pe_int) pe_int) pe_int (nomark _)) (pss_cons (ps_set (i := 3) nd rfl (Or.inl rfl) (pe_op op_mod (pe_op op_fdiv (pv 0) pe_int) (pv 2)))
    (pss_cons (ps_set (i := 4) nd rfl (Or.inl rfl) (pe_op op_add_str (pe_op op_add_str (pe_op op_mul_str pe_str (pv 3)) (pe_ix ix_str (pv 1) (pe_op op_mod (pe_op op_fdiv (pv 0) pe_int) pe_int) (fun _ _ => rfl))) (pe_op op_mul_str pe_str (pe_op op_sub (pe_op op_sub (pv 2) (pv 3)) pe_int))))
    (pss_one (ps_ret (pv 4))))) pss_nil)
    (pss_cons (ps_set (i := 5) nd rfl (Or.inr rfl) (pe_op op_add pe_int (pe_op op_mod (pe_op op_fdiv (pv 0) pe_int) pe_int)))
    (pss_cons (ps_comp (i := 6) nd rfl (Or.inl rfl) (own := ["_law_j"]) (F := [("_law_letters", 1), ("_law_more", 0), ("_law_by", 5)]) ⟨rfl, by with_unfolding_all rfl, by with_unfolding_all rfl, by with_unfolding_all rfl, (.cons rfl rfl rfl (.cons rfl rfl rfl (.cons rfl rfl rfl .nil)))⟩ rfl (pi_range1 rfl B.range (pa_cons (pe_op op_sub (pv 2) pe_int) pa_nil)) (fun _ _ _ _ => pg_name (i := 0) (by show (compN ["_law_j"] [("_law_letters", 1), ("_law_more", 0), ("_law_by", 5)]).Nodup; decide +kernel) rfl (Or.inl rfl)) (fun _ _ _ _ => pts_nil) (fun _ _ _ _ => (pe_ix ix_str (pv 1) (pe_op op_mod (pe_op op_add (pe_op op_fdiv (pv 2) pe_int) (pe_op op_mul (pv 0) (pv 3))) pe_int) (fun _ _ => rfl))))
    (pss_one (ps_ret (pe_op op_add_str (pe_ix ix_str (pv 1) (pe_op op_mod (pe_op op_fdiv (pv 0) pe_int) pe_int) (fun _ _ => rfl)) (pe_bm PySem.F.plainAttrs_str PySem.F.slot_str_join PySem.F.type_str_join mt_join pe_str (pa_cons (pv 6) pa_nil)))))))))), ?_⟩
  rw [show start ["_law_more", "_law_letters", "_law_size_here", "_law_at", "_law_word", "_law_by", "_law_signs_here"] [.int m] = [some (.int m), none, none, none, none, none, none] from rfl]
  walk_at "rd"
  intro p hp
  obtain ⟨v, hv, hm⟩ := atI_of (xs := [V.int 1, V.int (1 + m / 3 % 4), V.int (1 + m / 3 % 12)]) (i := m % 3) (by omega) (by simp only [List.length_cons, List.length_nil]; omega)
  obtain ⟨n, rfl, n1, n12⟩ : ∃ n : Int, v = .int n ∧ 1 ≤ n ∧ n ≤ 12 := by
    simp only [List.mem_cons, List.not_mem_nil, or_false] at hm
    rcases hm with rfl | rfl | rfl <;> exact ⟨_, rfl, by omega, by omega⟩
  refine rIxL_i (SqL.of upd_same) hv ?_
  simp only [ts_a, rep_one, of_nil]
  split
  · have a0 := Int.emod_nonneg (m / 72) (show n ≠ 0 by omega)
    have a1 := Int.emod_lt_of_pos (m / 72) (show 0 < n by omega)
    obtain ⟨c, hc, hcl⟩ := at_l26 (i := m / 864 % 26) (by omega) (by omega)
    refine ⟨n, rfl, by omega, by decide, by omega, by omega, rIxS_i (by decide) (by rw [ts_l36]; exact hc) ⟨_, rfl, ?_, n, rfl, by decide, by omega, by omega, ?_, ?_⟩⟩
    · rw [tx_len, tx_len]; simp only [List.length_replicate, List.length_singleton]; omega
    · rw [app_tx, tx_len, tx_len]; simp only [List.length_append, List.length_replicate, List.length_singleton]; omega
    · have e : tx (List.replicate (m / 72 % n).toNat 97) ++ tx [c] ++ tx (List.replicate (n - m / 72 % n - 1).toNat 97) = tx (List.replicate (m / 72 % n).toNat 97 ++ [c] ++ List.replicate (n - m / 72 % n - 1).toNat 97) := by rw [app_tx, app_tx]
      rw [e]
      refine q _ (okName_of ?_ ?_ ?_) _ (same_new hp _)
      · simp only [List.length_append, List.length_replicate, List.length_singleton]; omega
      · cases e : (m / 72 % n).toNat with
        | zero => exact ⟨c, _, rfl, hcl⟩
        | succ k => exact ⟨97, _, rfl, a_letL⟩
      · intro d hd
        simp only [List.mem_append, List.mem_replicate, List.mem_singleton] at hd
        rcases hd with (⟨_, rfl⟩ | rfl) | ⟨_, rfl⟩
        · exact letL_sub a_letL
        · exact letL_sub hcl
        · exact letL_sub a_letL
  · refine ⟨n, rfl, by omega, by omega, comp_rng (fun i ys H' => Same (upd H p (.lst [V.int 1, V.int (1 + m / 3 % 4), V.int (1 + m / 3 % 12)])) H' ∧ ∃ cs : List Nat, ys = (cs.map fun c => tx [c]).map V.str ∧ cs.length = i ∧ ∀ c ∈ cs, c ∈ letL ++ figL) (by rw [sizeLine_eq]; omega) ⟨Same.refl _, [], rfl, rfl, fun _ h => nomatch h⟩ ?_ ?_⟩
    · rintro i ys H' hi _ ⟨hs, cs, rfl, hl, hcs⟩
      walk_at "rd"
      obtain ⟨c, hc, hcl⟩ := at_l36 (i := (m / 7 + (0 + (i : Int)) * (1 + m / 11 % 35)) % 36) (by omega) (by omega)
      refine ⟨.inl (by omega), rIxS_i (by decide) (by rw [ts_l36]; exact hc) ⟨hs, cs ++ [c], by simp, by simp [hl], ?_⟩⟩
      intro d hd
      rcases List.mem_append.mp hd with z | z
      · exact hcs d z
      · rw [List.mem_singleton.mp z]; exact hcl
    · rintro ys H' hl ⟨hs, cs, rfl, hlen, hcs⟩ p' hp'
      obtain ⟨c, hc, hcl⟩ := at_l26 (i := m / 72 % 26) (by omega) (by omega)
      have hfl : ((cs.map fun c => tx [c]).map ts).flatten = cs := by
        clear hlen hl hcs
        induction cs with
        | nil => rfl
        | cons d r ih => simp only [List.map_cons, List.flatten_cons, ih, ts_tx]; rfl
      refine rIxS_i (by decide) (by rw [ts_l36]; exact hc) ⟨rfl, p', cs.map fun c => tx [c], rfl, rfl, SqL.of upd_same, by rw [hfl]; omega, _, rfl, _, rfl, ?_, ?_⟩
      · rw [hfl, tx_len, tx_len, List.length_singleton]; omega
      · rw [hfl, app_tx]
        refine q _ (okName_of ?_ ⟨c, cs, rfl, hcl⟩ ?_) _ ((same_new hp _).trans (hs.trans (same_new hp' _)))
        · show (c :: cs).length ≤ 12
          rw [List.length_cons]; omega
        · intro d hd
          rcases List.mem_cons.mp hd with z | z
          · rw [z]; exact letL_sub hcl
          · exact hcs d z
end
end K41
namespace K41
open PySem L2
local macro_rules | `(tactic| walk_at "rd") => `(tactic| simp only [cxOf_K, nox_K, compCx_K, tSeq, tNext, tAsg, gName, tRet, tRetN, tIfS, tDrop, tOp, tUn, tVar, tC, tCall, tCons, tNil, tTest, tB, tAnd, tOr, tNot, tAndV, tOrV, tNotV, tIf, tCB, tBM, tComp, tTrue, tPart, tNoPart, tSl, tChain, tIsN, tNotN, tLst, tTup, tFor_eq, sDPut, tDNewK, tNever, rI0, rI, rU, rEq, rNe, rMulS, rInC, iRng1, iStr, CDiv, CMul, CPow, scal, List.append_nil, List.getElem?_cons_zero, List.getElem?_cons_succ, List.set_cons_zero, List.set_cons_succ, List.map_cons, List.map_nil, List.length_cons, List.length_nil, sizeLine_eq, Nat.reduceAdd, Nat.reduceLeDiff, Option.join_some, Option.join_none, Option.some.injEq, V.int.injEq, V.str.injEq, V.bl.injEq, V.ref.injEq, V.ty.injEq, List.cons.injEq, and_true, true_and, and_self, exists_eq_left', exists_eq_left, exists_and_left, exists_and_right, decide_eq_true_eq, Bool.not_eq_eq_eq_not, Bool.not_true, Bool.not_false, decide_eq_false_iff_not, Int.reduceLT, Int.reduceLE, Int.reduceNeg, Int.reducePow, Int.reduceAdd, Int.reduceSub, Int.reduceMul, Int.reduceToNat, natAbs10, Nat.reduceLT, Nat.reducePow, or_true, true_or, if_true, if_false, Bool.false_eq_true, ite_true, ite_false, reduceCtorEq])
seal L2.PSs L2.PS L2.PE L2.PT L2.PW L2.PA L2.PI L2.PG L2.PGs L2.PPs L2.PTs
abbrev sSigns : Stmt := top 28
abbrev sText : Stmt := top 29
section
variable {P : Program} {w : World} {K : PySem.W.Frag} {mg : Str → Option Value} {base : Heap} {f : Addr} {fd : FuncData}
def spSigns : Sp := fun vs H Q _ => vs = [] ∧ Q (.str (tx sgnL)) H
theorem scSigns : FnScope ["_law_some"] [] (defScope sSigns) := ⟨rfl, rfl, rfl, by decide +kernel, rfl, by decide +kernel, by decide +kernel⟩
theorem ok_signs (F : Fun K "_law_signs" "_law_signs" sSigns f fd) : FnOk P w K mg base CX0 1 f fd [] spSigns := by
  refine F.ok scSigns (fun vs H Q E h => ?_) (fun cdv A outer s H vs Q E hr h => ?_)
  · obtain ⟨rfl, _⟩ := h
    rfl
  obtain ⟨rfl, q⟩ := h
  have nd := scSigns.nd
  refine ⟨_, (pss_cons (ps_set (i := 0) nd rfl (Or.inl rfl) pe_str)
    (pss_one (ps_ret (pe_op op_add_str (pv 0) pe_str)))), ?_⟩
  rw [show start ["_law_some"] [] = [none] from rfl]
  walk_at "rd"
  refine ⟨by decide, ?_⟩
  rw [ts_sgn]; exact q
def spText : Sp := fun vs H Q _ => ∃ (m : Int), vs = [.int m] ∧ 0 ≤ m ∧ m < 2000000 ∧ ∀ (x : List Nat), okText x = true → ∀ H', Same H H' → Q (.str (tx x)) H'
theorem scText : FnScope ["_law_more", "_law_signs_here", "_law_size_here", "_law_half", "_law_sign", "_law_by"] ["_law_more"] (defScope sText) := ⟨rfl, rfl, rfl, by decide +kernel, rfl, by decide +kernel, by decide +kernel⟩
theorem ok_text (F : Fun K "_law_text_by" "_law_text_by" sText f fd) (B : Bl mg) (G_law_signs : Dn P w K mg base 1 "_law_signs" [] spSigns) : FnOk P w K mg base CX0 2 f fd ["_law_more"] spText := by
  refine F.ok scText (fun vs H Q E h => ?_) (fun cdv A outer s H vs Q E hr h => ?_)
  · obtain ⟨m, rfl, _⟩ := h
    rfl
  obtain ⟨m, rfl, h0, h1, q⟩ := h
  have nd := scText.nd
  refine ⟨_, (pss_cons (ps_set (i := 1) nd rfl (Or.inr rfl) (pe_cd0 G_law_signs hr (by omega) rfl))
    (pss_cons (ps_set (i := 2) nd rfl (Or.inl rfl) (pe_ix ix_list (pe_lst (pa_cons (pe_op op_mod (pe_op op_fdiv (pv 0) pe_int) pe_int) (pa_cons (pe_op op_mod (pe_op op_fdiv (pv 0) pe_int) pe_int) (pa_cons (pe_op op_mod (pe_op op_fdiv (pv 0) pe_int) pe_int) pa_nil)))) (pe_op op_mod (pv 0) pe_int) (fun _ _ => rfl)))
    (pss_cons (ps_if (pt_cmpR op_eq (pe_op op_mod (pe_op op_fdiv (pv 0) pe_int) pe_int) pe_int (nomark _)) (pss_cons (ps_set (i := 3) nd rfl (Or.inl rfl) (pe_op op_fdiv (pv 2) pe_int))
    (pss_cons (ps_set (i := 4) nd rfl (Or.inl rfl) (pe_ix ix_str (pv 1) (pe_op op_mod (pe_op op_fdiv (pv 0) pe_int) pe_int) (fun _ _ => rfl)))
    (pss_one (ps_ret (pe_op op_add_str (pe_op op_mul_str pe_str (pv 3)) (pe_op op_mul_str (pv 4) (pe_op op_sub (pv 2) (pv 3)))))))) pss_nil)
    (pss_cons (ps_set (i := 5) nd rfl (Or.inr rfl) (pe_op op_add pe_int (pe_op op_mod (pe_op op_fdiv (pv 0) pe_int) pe_int)))
    (pss_one (ps_ret (pe_bm PySem.F.plainAttrs_str PySem.F.slot_str_join PySem.F.type_str_join mt_join pe_str (pa_cons (pe_comp (own := ["_law_j"]) (F := [("_law_signs_here", 1), ("_law_more", 0), ("_law_by", 5)]) ⟨rfl, by with_unfolding_all rfl, by with_unfolding_all rfl, by with_unfolding_all rfl, (.cons rfl rfl rfl (.cons rfl rfl rfl (.cons rfl rfl rfl .nil)))⟩ rfl (pi_range1 rfl B.range (pa_cons (pv 2) pa_nil)) (fun _ _ _ _ => pg_name (i := 0) (by show (compN ["_law_j"] [("_law_signs_here", 1), ("_law_more", 0), ("_law_by", 5)]).Nodup; decide +kernel) rfl (Or.inl rfl)) (fun _ _ _ _ => pts_nil) (fun _ _ _ _ => (pe_ix ix_str (pv 1) (pe_op op_mod (pe_op op_add (pe_op op_fdiv (pv 2) pe_int) (pe_op op_mul (pv 0) (pv 3))) pe_int) (fun _ _ => rfl)))) pa_nil)))))))), ?_⟩
  rw [show start ["_law_more", "_law_signs_here", "_law_size_here", "_law_half", "_law_sign", "_law_by"] [.int m] = [some (.int m), none, none, none, none, none] from rfl]
  walk_at "rd"
  refine ⟨rfl, fun p hp => ?_⟩
  obtain ⟨v, hv, hm⟩ := atI_of (xs := [V.int (m / 5 % 4), V.int (m / 5 % 9), V.int (m / 5 % 31)]) (i := m % 3) (by omega) (by simp only [List.length_cons, List.length_nil]; omega)
  obtain ⟨n, rfl, n0, n30⟩ : ∃ n : Int, v = .int n ∧ 0 ≤ n ∧ n ≤ 30 := by
    simp only [List.mem_cons, List.not_mem_nil, or_false] at hm
    rcases hm with rfl | rfl | rfl <;> exact ⟨_, rfl, by omega, by omega⟩
  refine rIxL_i (SqL.of upd_same) hv ?_
  simp only [ts_q, rep_one, of_nil]
  split
  · obtain ⟨c, hc, hcl⟩ := at_sgn (i := m / 465 % 94) (by omega) (by omega)
    refine ⟨n, rfl, rIxS_i (by decide) hc ⟨by decide, by omega, by omega, n, rfl, _, rfl, (show (1 : Nat) ≤ 1000 by decide), by omega, by omega, ?_, ?_⟩⟩
    · rw [ts_tx, rep_one, tx_len, tx_len]; simp only [List.length_replicate]; omega
    · rw [ts_tx, rep_one, app_tx]
      refine q _ (okText_of ?_ ?_) _ (same_new hp _)
      · simp only [List.length_append, List.length_replicate]; omega
      · intro d hd
        simp only [List.mem_append, List.mem_replicate] at hd
        rcases hd with ⟨_, rfl⟩ | ⟨_, rfl⟩
        · exact q_sgnL
        · exact hcl
  · refine ⟨rfl, n, rfl, by omega, by omega, comp_rng (fun i ys H' => Same (upd H p (.lst [V.int (m / 5 % 4), V.int (m / 5 % 9), V.int (m / 5 % 31)])) H' ∧ ∃ cs : List Nat, ys = (cs.map fun c => tx [c]).map V.str ∧ cs.length = i ∧ ∀ c ∈ cs, c ∈ sgnL) (by rw [sizeLine_eq]; omega) ⟨Same.refl _, [], rfl, rfl, fun _ h => nomatch h⟩ ?_ ?_⟩
    · rintro i ys H' hi _ ⟨hs, cs, rfl, hl, hcs⟩
      walk_at "rd"
      obtain ⟨c, hc, hcl⟩ := at_sgn (i := (m / 7 + (0 + (i : Int)) * (1 + m / 13 % 93)) % 94) (by omega) (by omega)
      refine ⟨.inl (by omega), rIxS_i (by decide) hc ⟨hs, cs ++ [c], by simp, by simp [hl], ?_⟩⟩
      intro d hd
      rcases List.mem_append.mp hd with z | z
      · exact hcs d z
      · rw [List.mem_singleton.mp z]; exact hcl
    · rintro ys H' hl ⟨hs, cs, rfl, hlen, hcs⟩ p' hp'
      refine ⟨p', cs.map fun c => tx [c], rfl, rfl, SqL.of upd_same, by rw [flat_one]; omega, ?_⟩
      rw [flat_one]
      exact q _ (okText_of (by omega) hcs) _ ((same_new hp _).trans (hs.trans (same_new hp' _)))
end
end K41
namespace K41
open PySem L2
local macro_rules | `(tactic| walk_at "rd") => `(tactic| simp only [cxOf_K, nox_K, compCx_K, tSeq, tNext, tAsg, gName, tRet, tRetN, tIfS, tDrop, tOp, tUn, tVar, tC, tCall, tCons, tNil, tTest, tB, tAnd, tOr, tNot, tAndV, tOrV, tNotV, tIf, tCB, tBM, tComp, tTrue, tPart, tNoPart, tSl, tChain, tIsN, tNotN, tLst, tTup, tFor_eq, sDPut, tDNewK, tNever, rI0, rI, rU, rEq, rNe, rMulS, rInC, iRng1, iStr, CDiv, CMul, CPow, scal, List.append_nil, List.getElem?_cons_zero, List.getElem?_cons_succ, List.set_cons_zero, List.set_cons_succ, List.map_cons, List.map_nil, List.length_cons, List.length_nil, sizeLine_eq, Nat.reduceAdd, Nat.reduceLeDiff, Option.join_some, Option.join_none, Option.some.injEq, V.int.injEq, V.str.injEq, V.bl.injEq, V.ref.injEq, V.ty.injEq, List.cons.injEq, and_true, true_and, and_self, exists_eq_left', exists_eq_left, exists_and_left, exists_and_right, decide_eq_true_eq, Bool.not_eq_eq_eq_not, Bool.not_true, Bool.not_false, decide_eq_false_iff_not, Int.reduceLT, Int.reduceLE, Int.reduceNeg, Int.reducePow, Int.reduceAdd, Int.reduceSub, Int.reduceMul, Int.reduceToNat, natAbs10, Nat.reduceLT, Nat.reducePow, or_true, true_or, if_true, if_false, Bool.false_eq_true, ite_true, ite_false, reduceCtorEq])
seal L2.PSs L2.PS L2.PE L2.PT L2.PW L2.PA L2.PI L2.PG L2.PGs L2.PPs L2.PTs
abbrev sThing : Stmt := top 31
def spThing (K : PySem.W.Frag) (d : Nat) : Sp := fun vs H Q _ => ∃ (a : Addr) (ns : List Int) (k : Int), vs = [.ref a, .int k, .int d] ∧ SqL K H a (ns.map V.int) ∧ ns.length ≤ 63 ∧ 0 ≤ k ∧ (k + 2) * 5 ^ d ≤ 1000000 ∧
  ∀ v H' t, Same H H' → Rep H' v t → Nice d t → Q v H'
section
variable {P : Program} {w : World} {K : PySem.W.Frag} {mg : Str → Option Value} {base : Heap} {f : Addr} {fd : FuncData}
theorem scThing : FnScope ["_law_script", "_law_k", "_law_deep", "_law_more", "_law_kind", "_law_some", "_law_result", "_law_j"] ["_law_script", "_law_k", "_law_deep"] (defScope sThing) := ⟨rfl, rfl, rfl, by decide +kernel, rfl, by decide +kernel, by decide +kernel⟩
/-- the record so far: at p2, its things out of ts, all of them in Hl -/
def DInv (Hl : Hp) (p2 : Addr) (ts : List T) (i : Nat) (H2 : Hp) : Prop := ∃ (ps : List (Key × V)) (ks : List (List Nat)) (us : List T), H2 p2 = some (.dK ps) ∧ ps.map (·.1) = ks.map nK ∧ Reps Hl (ps.map (·.2)) us ∧ ks.Nodup ∧ (∀ n ∈ ks, okName n = true) ∧ (∀ u ∈ us, u ∈ ts) ∧ ks.length ≤ i
theorem pow5 (e : Nat) : (1 : Int) ≤ 5 ^ e := by
  induction e with
  | zero => decide
  | succ n ih => rw [Int.pow_succ]; omega
theorem ok_thing0 (F : Fun K "_law_thing_by" "_law_thing_by" sThing f fd) (B : Bl mg) (G_law_cell : Dn P w K mg base 1 "_law_cell" ["_law_script", "_law_k"] (spCell K)) (G_law_number_by : Dn P w K mg base 1 "_law_number_by" ["_law_more"] spNum)
    (G_law_text_by : Dn P w K mg base 2 "_law_text_by" ["_law_more"] spText) : FnOk P w K mg base CX0 3 f fd ["_law_script", "_law_k", "_law_deep"] (spThing K 0) := by
  refine F.ok scThing (fun vs H Q E h => ?_) (fun cdv A outer s H vs Q E hr h => ?_)
  · obtain ⟨a, ns, k, rfl, _⟩ := h
    rfl
  obtain ⟨a, ns, k, rfl, hS, h63, h0, h1, q⟩ := h
  have nd := scThing.nd
  refine ⟨_, (pss_cons (ps_set (i := 3) nd rfl (Or.inl rfl) (pe_cd G_law_cell hr (by omega) rfl (pa_cons (pv 0) (pa_cons (pv 1) pa_nil))))
    (pss_cons (ps_set (i := 4) nd rfl (Or.inl rfl) (pe_op op_mod (pv 3) (pe_ix ix_list (pe_lst (pa_cons pe_int (pa_cons pe_int pa_nil))) (pe_callTy call_intB rfl B.int bt_int (pa_cons (pe_cmpR op_gt (pv 2) pe_int (nomark _)) pa_nil)) (fun _ _ => rfl))))
    (pss_cons (ps_if (pt_cmpR op_eq (pv 4) pe_int (nomark _)) (pss_one (ps_ret (pe_ix ix_list (pe_lst (pa_cons pe_non (pa_cons pe_bl (pa_cons pe_bl pa_nil)))) (pe_op op_mod (pe_op op_fdiv (pv 3) pe_int) pe_int) (fun _ _ => rfl)))) pss_nil)
    (pss_cons (ps_if (pt_cmpR op_lt (pv 4) pe_int (nomark _)) (pss_one (ps_ret (pe_cd G_law_number_by hr (by omega) rfl (pa_cons (pe_op op_fdiv (pv 3) pe_int) pa_nil)))) pss_nil)
    (pss_cons (ps_if (pt_cmpR op_lt (pv 4) pe_int (nomark _)) (pss_one (ps_ret (pe_cd G_law_text_by hr (by omega) rfl (pa_cons (pe_op op_fdiv (pv 3) pe_int) pa_nil)))) pss_nil)
    pss_never))))), ?_⟩
  rw [show start ["_law_script", "_law_k", "_law_deep", "_law_more", "_law_kind", "_law_some", "_law_result", "_law_j"] [.ref a, .int k, .int ((0 : Nat) : Int)] = [some (.ref a), some (.int k), some (.int ((0 : Nat) : Int)), none, none, none, none, none] from rfl]
  walk_at "rd"
  refine spCell_i hS h63 h0 (by omega) fun H1 g1 p hp => rIxL_i (SqL.of upd_same) (v := .int 5) rfl ⟨_, rfl, 5, rfl, by decide, ?_⟩
  have c0 := cellF_lo ns k
  have c1 := cellF_hi ns k
  have gp := g1.trans (same_new hp (.lst [V.int 5, V.int 9]))
  split
  · intro p2 hp2
    refine ⟨_, rfl, ?_⟩
    obtain ⟨v, hv, hm⟩ := atI_of (xs := [V.non, V.bl true, V.bl false]) (i := cellF ns k / 9 % 3) (by omega) (by simp only [List.length_cons, List.length_nil]; omega)
    refine rIxL_i (SqL.of upd_same) hv ?_
    simp only [List.mem_cons, List.not_mem_nil, or_false] at hm
    rcases hm with rfl | rfl | rfl
    · exact q _ _ .non (gp.trans (same_new hp2 _)) rfl trivial
    · exact q _ _ (.bl true) (gp.trans (same_new hp2 _)) rfl trivial
    · exact q _ _ (.bl false) (gp.trans (same_new hp2 _)) rfl trivial
  · split
    · exact ⟨_, rfl, _, rfl, by omega, by omega, fun i i0 i1 H2 g2 => q _ _ (.int i) (gp.trans g2) rfl ⟨i0, i1⟩⟩
    · rw [if_pos (by omega)]
      exact ⟨_, rfl, _, rfl, by omega, by omega, fun x hx H2 g2 => q _ _ (.str x) (gp.trans g2) rfl hx⟩
theorem ok_thingS {e : Nat} (F : Fun K "_law_thing_by" "_law_thing_by" sThing f fd) (B : Bl mg) (G_law_cell : Dn P w K mg base 1 "_law_cell" ["_law_script", "_law_k"] (spCell K)) (G_law_number_by : Dn P w K mg base 1 "_law_number_by" ["_law_more"] spNum)
    (G_law_text_by : Dn P w K mg base 2 "_law_text_by" ["_law_more"] spText) (G_law_name_by : Dn P w K mg base 1 "_law_name_by" ["_law_more"] spName)
    (G_law_thing_by : Dn P w K mg base (3 + e) "_law_thing_by" ["_law_script", "_law_k", "_law_deep"] (spThing K e)) : FnOk P w K mg base CX0 (3 + e + 1) f fd ["_law_script", "_law_k", "_law_deep"] (spThing K (e + 1)) := by
  refine F.ok scThing (fun vs H Q E h => ?_) (fun cdv A outer s H vs Q E hr h => ?_)
  · obtain ⟨a, ns, k, rfl, _⟩ := h
    rfl
  obtain ⟨a, ns, k, rfl, hS, h63, h0, h1, q⟩ := h
  have nd := scThing.nd
  have hu := hu_of hr
  refine ⟨_, (pss_cons (ps_set (i := 3) nd rfl (Or.inl rfl) (pe_cd G_law_cell hr (by omega) rfl (pa_cons (pv 0) (pa_cons (pv 1) pa_nil))))
    (pss_cons (ps_set (i := 4) nd rfl (Or.inl rfl) (pe_op op_mod (pv 3) (pe_ix ix_list (pe_lst (pa_cons pe_int (pa_cons pe_int pa_nil))) (pe_callTy call_intB rfl B.int bt_int (pa_cons (pe_cmpR op_gt (pv 2) pe_int (nomark _)) pa_nil)) (fun _ _ => rfl))))
    (pss_cons (ps_if (pt_cmpR op_eq (pv 4) pe_int (nomark _)) (pss_one (ps_ret (pe_ix ix_list (pe_lst (pa_cons pe_non (pa_cons pe_bl (pa_cons pe_bl pa_nil)))) (pe_op op_mod (pe_op op_fdiv (pv 3) pe_int) pe_int) (fun _ _ => rfl)))) pss_nil)
    (pss_cons (ps_if (pt_cmpR op_lt (pv 4) pe_int (nomark _)) (pss_one (ps_ret (pe_cd G_law_number_by hr (by omega) rfl (pa_cons (pe_op op_fdiv (pv 3) pe_int) pa_nil)))) pss_nil)
    (pss_cons (ps_if (pt_cmpR op_lt (pv 4) pe_int (nomark _)) (pss_one (ps_ret (pe_cd G_law_text_by hr (by omega) rfl (pa_cons (pe_op op_fdiv (pv 3) pe_int) pa_nil)))) pss_nil)
    (pss_cons (ps_comp (i := 5) nd rfl (Or.inl rfl) (own := ["_law_j"]) (F := [("_law_script", 0), ("_law_k", 1), ("_law_deep", 2)]) ⟨rfl, by with_unfolding_all rfl, by with_unfolding_all rfl, by with_unfolding_all rfl, (.cons rfl rfl rfl (.cons rfl rfl rfl (.cons rfl rfl rfl .nil)))⟩ rfl (pi_range1 rfl B.range (pa_cons (pe_op op_mod (pe_op op_fdiv (pv 3) pe_int) pe_int) pa_nil)) (fun _ _ _ _ => pg_name (i := 0) (by show (compN ["_law_j"] [("_law_script", 0), ("_law_k", 1), ("_law_deep", 2)]).Nodup; decide +kernel) rfl (Or.inl rfl)) (fun _ _ _ _ => pts_nil) (fun _ _ _ _ => (pe_cd G_law_thing_by hr (by omega) rfl (pa_cons (pv 1) (pa_cons (pe_op op_add (pe_op op_add (pe_op op_mul (pv 2) pe_int) pe_int) (pv 0)) (pa_cons (pe_op op_sub (pv 3) pe_int) pa_nil))))))
    (pss_cons (ps_if (pt_cmpR op_lt (pv 4) pe_int (nomark _)) (pss_one (ps_ret (pv 5))) pss_nil)
    (pss_cons (ps_set (i := 6) nd rfl (Or.inl rfl) pe_dnewK)
    (pss_cons (ps_for PassesOwn.never rfl (pi_range1 rfl B.range (pa_cons (pe_callB call_len_l rfl B.len bt_len (pa_cons (pv 5) pa_nil)) pa_nil)) (pg_name (i := 7) nd rfl (Or.inl rfl)) (pss_one (ps_dput hu (pv 6) (pe_cd G_law_name_by hr (by omega) rfl (pa_cons (pe_op op_add (pe_op op_fdiv (pe_cd G_law_cell hr (by omega) rfl (pa_cons (pv 0) (pa_cons (pe_op op_add (pe_op op_add (pe_op op_mul (pv 1) pe_int) pe_int) (pv 7)) pa_nil))) pe_int) (pv 7)) pa_nil)) (pe_ix ix_list (pv 5) (pv 7) (fun _ _ => rfl)) rfl)))
    (pss_one (ps_ret (pv 6)))))))))))), ?_⟩
  rw [show start ["_law_script", "_law_k", "_law_deep", "_law_more", "_law_kind", "_law_some", "_law_result", "_law_j"] [.ref a, .int k, .int ((e + 1 : Nat) : Int)] = [some (.ref a), some (.int k), some (.int ((e + 1 : Nat) : Int)), none, none, none, none, none] from rfl]
  walk_at "rd"
  have hpow : (1 : Int) ≤ 5 ^ e := pow5 e
  have hpow2 : (5 : Int) ^ (e + 1) = 5 ^ e * 5 := Int.pow_succ ..
  have h2 : (k + 2) * 5 * 5 ^ e ≤ 1000000 := by rw [Int.mul_assoc, Int.mul_comm 5 (5 ^ e), ← hpow2]; exact h1
  have h3 : (k + 2) * 5 ≤ 1000000 := by
    have : (k + 2) * 5 * 1 ≤ (k + 2) * 5 * 5 ^ e := Int.mul_le_mul_of_nonneg_left hpow (by omega)
    omega
  refine spCell_i hS h63 h0 (by omega) fun H1 g1 p hp => rIxL_i (SqL.of upd_same) (v := .int 9) ?_ ⟨_, rfl, 9, rfl, by decide, ?_⟩
  · rw [if_pos (by omega)]; rfl
  have c0 := cellF_lo ns k
  have c1 := cellF_hi ns k
  have gp := g1.trans (same_new hp (.lst [V.int 5, V.int 9]))
  split
  · intro p2 hp2
    refine ⟨_, rfl, ?_⟩
    obtain ⟨v, hv, hm⟩ := atI_of (xs := [V.non, V.bl true, V.bl false]) (i := cellF ns k / 9 % 3) (by omega) (by simp only [List.length_cons, List.length_nil]; omega)
    refine rIxL_i (SqL.of upd_same) hv ?_
    simp only [List.mem_cons, List.not_mem_nil, or_false] at hm
    rcases hm with rfl | rfl | rfl
    · exact q _ _ .non (gp.trans (same_new hp2 _)) rfl trivial
    · exact q _ _ (.bl true) (gp.trans (same_new hp2 _)) rfl trivial
    · exact q _ _ (.bl false) (gp.trans (same_new hp2 _)) rfl trivial
  · split
    · exact ⟨_, rfl, _, rfl, by omega, by omega, fun i i0 i1 H2 g2 => q _ _ (.int i) (gp.trans g2) rfl ⟨i0, i1⟩⟩
    · split
      · exact ⟨_, rfl, _, rfl, by omega, by omega, fun x hx H2 g2 => q _ _ (.str x) (gp.trans g2) rfl hx⟩
      · refine ⟨_, rfl, by omega, by omega, comp_rng (fun i ys H' => Same (upd H1 p (.lst [V.int 5, V.int 9])) H' ∧ ∃ ts, Reps H' ys ts ∧ ts.length = i ∧ NiceL e ts) (by rw [sizeLine_eq]; omega) ⟨Same.refl _, [], rfl, rfl, trivial⟩ ?_ ?_⟩
        · rintro i ys H' hi _ ⟨hs, ts, hR, hl, hN⟩
          walk_at "rd"
          refine ⟨a, ns, k * 5 + 1 + (0 + (i : Int)), ?_, hs.seq (gp.seq hS), h63, by omega, ?_, fun v H2 t g2 hv hn => ⟨hs.trans g2, ts ++ [t], Reps.snoc hv (Reps.same g2 _ _ hR), by simp [hl], NiceL.snoc hn hN⟩⟩
          · rw [show ((e + 1 : Nat) : Int) - 1 = (e : Int) by omega]
          · have : (k * 5 + 1 + (0 + (i : Int)) + 2) * 5 ^ e ≤ (k + 2) * 5 * 5 ^ e := Int.mul_le_mul_of_nonneg_right (by omega) (by omega)
            omega
        · rintro ys H' hl ⟨hs, ts, hR, hlen, hN⟩ p' hp'
          have gl := gp.trans (hs.trans (same_new hp' (.lst ys)))
          have hR' : Reps (upd H' p' (.lst ys)) ys ts := Reps.same (same_new hp' _) _ _ hR
          by_cases h7 : cellF ns k % 9 < 7
          · rw [if_pos h7]
            exact q _ _ (.lst ts) gl ⟨p', ys, rfl, upd_same, hR'⟩ ⟨by omega, by omega, hN⟩
          rw [if_neg h7]
          intro p2 hp2
          have gd := same_new hp2 (.dK [])
          have hys := hR.length
          have hSl : SqL K (upd (upd H' p' (.lst ys)) p2 (.dK [])) p' ys := SqL.of (gd _ _ upd_same)
          refine ⟨p', rfl, ys, hSl, by omega, by omega, ?_⟩
          rw [Int.toNat_natCast]
          refine forB_rng (fun i σ H2 => (∃ o, σ = [some (V.ref a), some (V.int k), some (V.int ((e + 1 : Nat) : Int)), some (V.int (cellF ns k)), some (V.int (cellF ns k % 9)), some (V.ref p'), some (V.ref p2), o]) ∧ Same (upd H' p' (.lst ys)) H2 ∧ DInv (upd H' p' (.lst ys)) p2 ts i H2) ⟨⟨_, rfl⟩, gd, [], [], [], upd_same, rfl, rfl, List.nodup_nil, fun _ h => (nomatch h), fun _ h => (nomatch h), Nat.le_refl _⟩ ?_ ?_
          · rintro i σ H2 hi ⟨⟨o, rfl⟩, g2, ps, ks, us, hd, hk, hU, hnd, hok, hsub, hlk⟩
            walk_at "rd"
            obtain ⟨v, hv⟩ : ∃ v, ys[i]? = some v := ⟨ys[i], by simp [hi]⟩
            obtain ⟨t, ht, hvt⟩ := hR'.get hv
            refine rIxL_i (SqL.of (g2 _ _ upd_same)) (by rw [Int.zero_add]; exact atI_nat hv) (spCell_i (g2.seq (gl.seq hS)) h63 (by omega) (by omega) fun H3 g3 => ?_)
            have c0' := cellF_lo ns (k * 5 + 1 + (0 + (i : Int)))
            have c1' := cellF_hi ns (k * 5 + 1 + (0 + (i : Int)))
            refine ⟨_, rfl, _, rfl, by omega, by omega, fun x hx H4 g4 => ⟨_, DPut.k (k := nK x) (g4 _ _ (g3 _ _ hd)) ?_, ⟨_, rfl⟩, ?_, ?_⟩⟩
            · have := congrArg List.length hk
              simp only [List.length_map] at this
              rw [sizeLine_eq]; omega
            · intro b o' hb
              have hne : b ≠ p2 := fun z => by rw [z, hp2] at hb; cases hb
              rw [upd_ne hne]
              exact g4 _ _ (g3 _ _ (g2 _ _ hb))
            · obtain ⟨ks', us', e1, e2, e3, e4, e5, e6⟩ := put_rep (n := x) hk hU hnd hvt
              refine ⟨_, ks', us', upd_same, e1, e2, e3, fun n hn => ?_, fun u hu => ?_, by omega⟩
              · rcases e4 n hn with z | z
                · exact hok n z
                · rw [z]; exact hx
              · rcases e5 u hu with z | z
                · exact hsub u z
                · rw [z]; exact List.mem_of_getElem? ht
          · rintro σ H2 ⟨⟨o, rfl⟩, g2, ps, ks, us, hd, hk, hU, hnd, hok, hsub, hlk⟩
            walk_at "rd"
            have l1 := congrArg List.length hk
            simp only [List.length_map] at l1
            have l2 := hU.length
            simp only [List.length_map] at l2
            refine q _ _ (.dic ks us) (gl.trans g2) ⟨p2, ps, rfl, hd, hk, Reps.same g2 _ _ hU⟩ ⟨by omega, by omega, by omega, hnd, hok, NiceL_iff.mpr fun u hu => NiceL_iff.mp hN u (hsub u hu)⟩
end
end K41
namespace K41
open PySem L2
local macro_rules | `(tactic| walk_at "rd") => `(tactic| simp only [cxOf_K, nox_K, compCx_K, tSeq, tNext, tAsg, gName, tRet, tRetN, tIfS, tDrop, tOp, tUn, tVar, tC, tCall, tCons, tNil, tTest, tB, tAnd, tOr, tNot, tAndV, tOrV, tNotV, tIf, tCB, tBM, tComp, tTrue, tPart, tNoPart, tSl, tChain, tIsN, tNotN, tLst, tTup, tFor_eq, sDPut, tDNewK, tNever, rI0, rI, rU, rEq, rNe, rMulS, rInC, iRng1, iStr, CDiv, CMul, CPow, scal, List.append_nil, List.getElem?_cons_zero, List.getElem?_cons_succ, List.set_cons_zero, List.set_cons_succ, List.map_cons, List.map_nil, List.length_cons, List.length_nil, sizeLine_eq, Nat.reduceAdd, Nat.reduceLeDiff, Option.join_some, Option.join_none, Option.some.injEq, V.int.injEq, V.str.injEq, V.bl.injEq, V.ref.injEq, V.ty.injEq, List.cons.injEq, and_true, true_and, and_self, exists_eq_left', exists_eq_left, exists_and_left, exists_and_right, decide_eq_true_eq, Bool.not_eq_eq_eq_not, Bool.not_true, Bool.not_false, decide_eq_false_iff_not, Int.reduceLT, Int.reduceLE, Int.reduceNeg, Int.reducePow, Int.reduceAdd, Int.reduceSub, Int.reduceMul, Int.reduceToNat, natAbs10, Nat.reduceLT, Nat.reducePow, or_true, true_or, if_true, if_false, Bool.false_eq_true, ite_true, ite_false, reduceCtorEq])
seal L2.PSs L2.PS L2.PE L2.PT L2.PW L2.PA L2.PI L2.PG L2.PGs L2.PPs L2.PTs
section
variable {P : Program} {w : World} {K : PySem.W.Frag} {mg : Str → Option Value} {base : Heap} {f : Addr} {fd : FuncData}
abbrev sGood : Stmt := top 32
def nameV : V → Bool
  | .str x => okName (ts x)
  | _ => false
def spGood : Sp := fun vs H Q _ => ∃ (v : V) (t : String), vs = [v] ∧ tyS H v = some t ∧ (∀ x, v = .str x → x.length ≤ 1000) ∧ ∀ H', Same H H' → Q (.bl (nameV v)) H'
theorem not_str {H : Hp} {v : V} {t : String} (ht : tyS H v = some t) (h : isSub t "str" = false) : nameV v = false := by
  cases v with
  | str x => cases ht; exact absurd h (by decide)
  | _ => rfl
theorem str_of {H : Hp} {v : V} {t : String} (ht : tyS H v = some t) (h : ¬ isSub t "str" = false) : ∃ x, v = .str x := by
  cases v with
  | str x => exact ⟨x, rfl⟩
  | ref a =>
    have h' : (match H a with | some (.lst _) => some "list" | some (.tup _) => some "tuple" | some (.dK _) => some "dict" | _ => none) = some t := ht
    split at h' <;> first | (cases h'; exact absurd (by decide) h) | cases h'
  | non => cases ht; exact absurd (by decide) h
  | bl b => cases ht; exact absurd (by decide) h
  | int b => cases ht; exact absurd (by decide) h
  | byt b => cases ht
  | flt b => cases ht
  | ty b => cases ht
theorem scGood : FnScope ["_law_word", "_law_small"] ["_law_word"] (defScope sGood) := ⟨rfl, rfl, rfl, by decide +kernel, rfl, by decide +kernel, by decide +kernel⟩
theorem ok_good (F : Fun K "_law_good_name" "_law_good_name" sGood f fd) (B : Bl mg) : FnOk P w K mg base CX0 1 f fd ["_law_word"] spGood := by
  refine F.ok scGood (fun vs H Q E h => ?_) (fun cdv A outer s H vs Q E hr h => ?_)
  · obtain ⟨v, t, rfl, _⟩ := h
    rfl
  obtain ⟨v, t, rfl, ht, hl, q⟩ := h
  have nd := scGood.nd
  have hu0 := hr.units0
  refine ⟨_, (pss_cons (ps_if (PW.pt (pw_or (pt_not (pt_val (pe_callB (call_isi (T := "str") (by decide)) rfl B.isinstance bt_isinstance (pa_cons (pv 0) (pa_cons (pe_bltn (v := .ty "str") rfl B.str bt_str rfl) pa_nil))))) (pw_or (pt_cmpR op_lt (pe_callB call_len_str rfl B.len bt_len (pa_cons (pv 0) pa_nil)) pe_int (nomark _)) (pw_or1 (pt_cmpR op_gt (pe_callB call_len_str rfl B.len bt_len (pa_cons (pv 0) pa_nil)) pe_int (nomark _)))))) (pss_one (ps_ret pe_bl)) pss_nil)
    (pss_cons (ps_set (i := 1) nd rfl (Or.inr rfl) pe_str)
    (pss_one (ps_ret (pe_and (pe_cmpR op_in_c (pe_ix ix_str (pv 0) pe_int (fun _ _ => rfl)) (pv 1) (by with_unfolding_all rfl)) (pe_one (pe_cmpR (op_eq_l hu0) (pe_comp (own := ["_law_sign"]) (F := [("_law_small", 1)]) ⟨rfl, by with_unfolding_all rfl, by with_unfolding_all rfl, by with_unfolding_all rfl, (.cons rfl rfl rfl .nil)⟩ rfl (pi_str (pv 0)) (fun _ _ _ _ => pg_name (i := 0) (by show (compN ["_law_sign"] [("_law_small", 1)]).Nodup; decide +kernel) rfl (Or.inl rfl)) (fun _ _ _ _ => (pts_one (pt_cmpR op_notin_c (pv 0) (pe_op op_add_str (pv 1) pe_str) (by with_unfolding_all rfl)))) (fun _ _ _ _ => (pv 0))) (pe_lst pa_nil) (nomark _)))))))), ?_⟩
  rw [show start ["_law_word", "_law_small"] [v] = [some v, none] from rfl]
  walk_at "rd"
  refine ⟨t, ht, ?_⟩
  by_cases hs : isSub t "str" = false
  · rw [if_pos hs]
    have e : nameV v = false := not_str ht hs
    rw [← e]; exact q H (Same.refl H)
  · rw [if_neg hs]
    obtain ⟨x, rfl⟩ := str_of ht hs
    have hx := hl x rfl
    have hlen := ts_len x
    refine ⟨x, rfl, by omega, ?_⟩
    by_cases h1 : (x.length : Int) < 1
    · rw [if_pos h1]
      have e : nameV (.str x) = false := by
        have : ts x = [] := List.eq_nil_of_length_eq_zero (by omega)
        show okName (ts x) = false
        rw [this]; rfl
      rw [← e]; exact q H (Same.refl H)
    rw [if_neg h1]
    refine ⟨x, rfl, by omega, ?_⟩
    by_cases h12 : 12 < (x.length : Int)
    · rw [if_pos h12]
      have e : nameV (.str x) = false := by
        show okName (ts x) = false
        unfold okName
        rw [show decide ((ts x).length ≤ 12) = false from decide_eq_false (by omega)]
        simp
      rw [← e]; exact q H (Same.refl H)
    rw [if_neg h12]
    obtain ⟨c, r, hc⟩ : ∃ c r, ts x = c :: r := by
      cases e : ts x with
      | nil => rw [e] at hlen; simp at hlen; omega
      | cons c r => exact ⟨c, r, rfl⟩
    refine rIxS_i (by rw [sizeLine_eq]; omega) (c := c) (by rw [hc]; exact atI_nat (j := 0) rfl) ⟨c, rfl, ?_⟩
    have en : nameV (.str x) = (decide (c ∈ letL) && (ts x).all fun c => decide (c ∈ letL ++ figL)) := by
      show okName (ts x) = _
      unfold okName
      rw [show decide ((ts x).length ≤ 12) = true from decide_eq_true (by omega), show decide (1 ≤ (ts x).length) = true from decide_eq_true (by omega), hc]
      simp
    simp only [ts_l26, ts_f10]
    by_cases hcl : c ∈ letL
    · rw [if_pos hcl]
      refine ⟨x, rfl, comp_str (fun i ys H' => Same H H' ∧ ∃ cs : List Nat, ys = (cs.map fun c => tx [c]).map V.str ∧ cs = ((ts x).take i).filter fun c => !decide (c ∈ letL ++ figL)) (by rw [sizeLine_eq]; omega) ⟨Same.refl _, [], rfl, by simp⟩ ?_ ?_⟩
      · rintro i d ys H' hd _ ⟨hS, cs, rfl, hcs⟩
        walk_at "rd"
        refine ⟨by decide, d, rfl, !decide (d ∈ letL ++ figL), ?_, ?_⟩
        · have e : ts (Str.ofString "abcdefghijklmnopqrstuvwxyz" ++ Str.ofString "0123456789") = letL ++ figL := by decide +kernel
          rw [e, Bool.not_not]
        · have e : (ts x).take (i + 1) = (ts x).take i ++ [d] := by rw [List.take_add_one, hd]; rfl
          by_cases hm : d ∈ letL ++ figL
          · rw [decide_eq_true hm]
            refine iteF ⟨hS, cs, rfl, ?_⟩
            rw [e, List.filter_append, ← hcs]
            simp only [List.filter_cons, decide_eq_true hm, Bool.not_true, Bool.false_eq_true, if_false, List.filter_nil, List.append_nil]
          · rw [decide_eq_false hm]
            refine iteT ⟨hS, cs ++ [d], by simp, ?_⟩
            rw [e, List.filter_append, ← hcs]
            simp only [List.filter_cons, decide_eq_false hm, Bool.not_false, if_true, List.filter_nil]
      · rintro ys H' hl' ⟨hS, cs, rfl, hcs⟩ p hp p' hp'
        refine rEqL_i (SqL.of (by rw [upd_ne (ne_of_none upd_same hp')]; exact upd_same)) (SqL.of upd_same) (flat_strs _) rfl ?_
        rw [eqLs_nil]
        have e : nameV (.str x) = (List.map V.str (List.map (fun c => tx [c]) cs)).isEmpty := by
          rw [en, decide_eq_true hcl, Bool.true_and, List.isEmpty_map, List.isEmpty_map, hcs, List.take_length, all_filter]
        show Q (V.bl (List.map V.str (List.map (fun c => tx [c]) cs)).isEmpty) _
        rw [← e]
        exact q _ (hS.trans ((same_new hp _).trans (same_new hp' _)))
    · rw [if_neg hcl]
      have e : nameV (.str x) = false := by rw [en, decide_eq_false hcl]; rfl
      rw [← e]; exact q H (Same.refl H)
structure Ms (mg : Str → Option Value) : Prop where
  LETTERS : ∃ t, mg "LETTERS" = some (.str (Str.ofString "abcdefghijklmnopqrstuvwxyz") t)
  NAME_SIGNS : ∃ t, mg "NAME_SIGNS" = some (.str (Str.ofString "abcdefghijklmnopqrstuvwxyz0123456789") t)
  MOST_IN_NAME : ∃ t, mg "MOST_IN_NAME" = some (.int 12 t)
  MOST_IN_TEXT : ∃ t, mg "MOST_IN_TEXT" = some (.int 30 t)
  MOST_IN_ROW : ∃ t, mg "MOST_IN_ROW" = some (.int 60 t)
  MOST_IN_RECORD : ∃ t, mg "MOST_IN_RECORD" = some (.int 30 t)
  MOST_DEPTH : ∃ t, mg "MOST_DEPTH" = some (.int 8 t)
  MOST_SIZE : ∃ t, mg "MOST_SIZE" = some (.int 200 t)
  MOST_STEPS : ∃ t, mg "MOST_STEPS" = some (.int 8 t)
  MOST_DEEDS : ∃ t, mg "MOST_DEEDS" = some (.int 400 t)
abbrev sIsName : Stmt := top 10
theorem scIsName : FnScope ["thing"] ["thing"] (defScope sIsName) := ⟨rfl, rfl, rfl, by decide +kernel, rfl, by decide +kernel, by decide +kernel⟩
theorem ok_is_name (F : Fun K "is_name" "is_name" sIsName f fd) (B : Bl mg) (M : Ms mg) : FnOk P w K mg base CX0 1 f fd ["thing"] spGood := by
  refine F.ok scIsName (fun vs H Q E h => ?_) (fun cdv A outer s H vs Q E hr h => ?_)
  · obtain ⟨v, t, rfl, _⟩ := h
    rfl
  obtain ⟨v, t, rfl, ht, hl, q⟩ := h
  have nd := scIsName.nd
  refine ⟨_, (pss_cons (ps_if (PW.pt (pw_or (pt_not (pt_val (pe_callB (call_isi (T := "str") (by decide)) rfl B.isinstance bt_isinstance (pa_cons (pv 0) (pa_cons (pe_bltn (v := .ty "str") rfl B.str bt_str rfl) pa_nil))))) (pw_or1 (pt_not (pt_chain op_le op_le pe_int (pe_callB call_len_str rfl B.len bt_len (pa_cons (pv 0) pa_nil)) (pe_gi rfl M.MOST_IN_NAME)))))) (pss_one (ps_ret pe_bl)) pss_nil)
    (pss_one (ps_ret (pe_and (pe_cmpR op_in_c (pe_ix ix_str (pv 0) pe_int (fun _ _ => rfl)) (pe_gs rfl M.LETTERS) (by with_unfolding_all rfl)) (pe_one (pe_callB (call_all rfl) rfl B.all bt_all (pa_cons (pe_comp (own := ["sign"]) (F := []) ⟨rfl, by with_unfolding_all rfl, by with_unfolding_all rfl, by with_unfolding_all rfl, .nil⟩ rfl (pi_str (pv 0)) (fun _ _ _ _ => pg_name (i := 0) (by show (compN ["sign"] []).Nodup; decide +kernel) rfl (Or.inl rfl)) (fun _ _ _ _ => pts_nil) (fun _ _ _ _ => (pe_cmpR op_in_c (pv 0) (pe_gs rfl M.NAME_SIGNS) (by with_unfolding_all rfl)))) pa_nil))))))), ?_⟩
  rw [show start ["thing"] [v] = [some v] from rfl]
  walk_at "rd"
  refine ⟨t, ht, ?_⟩
  by_cases hs : isSub t "str" = false
  · rw [if_pos hs]
    have e : nameV v = false := not_str ht hs
    rw [← e]; exact q H (Same.refl H)
  · rw [if_neg hs]
    obtain ⟨x, rfl⟩ := str_of ht hs
    have hx := hl x rfl
    have hlen := ts_len x
    refine ⟨x, rfl, by omega, ?_⟩
    by_cases h1 : (1 : Int) ≤ (x.length : Int)
    · rw [if_pos h1]
      by_cases h12 : ¬ (x.length : Int) ≤ 12
      · rw [if_pos h12]
        have e : nameV (.str x) = false := by
          show okName (ts x) = false
          unfold okName
          rw [show decide ((ts x).length ≤ 12) = false from decide_eq_false (by omega)]
          simp
        rw [← e]; exact q H (Same.refl H)
      rw [if_neg h12]
      obtain ⟨c, r, hc⟩ : ∃ c r, ts x = c :: r := by
        cases e : ts x with
        | nil => rw [e] at hlen; simp at hlen; omega
        | cons c r => exact ⟨c, r, rfl⟩
      refine rIxS_i (by rw [sizeLine_eq]; omega) (c := c) (by rw [hc]; exact atI_nat (j := 0) rfl) ⟨c, rfl, ?_⟩
      have en : nameV (.str x) = (decide (c ∈ letL) && (ts x).all fun c => decide (c ∈ letL ++ figL)) := by
        show okName (ts x) = _
        unfold okName
        rw [show decide ((ts x).length ≤ 12) = true from decide_eq_true (by omega), show decide (1 ≤ (ts x).length) = true from decide_eq_true (by omega), hc]
        simp
      simp only [ts_l26]
      by_cases hcl : c ∈ letL
      · rw [if_pos hcl]
        refine ⟨x, rfl, comp_str (fun i ys H' => Same H H' ∧ ys = (((ts x).take i).map fun c => decide (c ∈ letL ++ figL)).map V.bl) (by rw [sizeLine_eq]; omega) ⟨Same.refl _, rfl⟩ ?_ ?_⟩
        · rintro i d ys H' hd _ ⟨hS, rfl⟩
          walk_at "rd"
          refine ⟨d, rfl, hS, ?_⟩
          have e : (ts x).take (i + 1) = (ts x).take i ++ [d] := by rw [List.take_add_one, hd]; rfl
          rw [e, ts_l36]
          simp only [List.map_append, List.map_cons, List.map_nil]
        · rintro ys H' hl' ⟨hS, rfl⟩ p hp
          refine ⟨p, rfl, _, SqL.of upd_same, ?_⟩
          have e : nameV (.str x) = ((((ts x).take (ts x).length).map fun c => decide (c ∈ letL ++ figL)).all id) := by
            rw [en, decide_eq_true hcl, Bool.true_and, List.take_length, List.all_map]; rfl
          rw [← e]
          exact q _ (hS.trans (same_new hp _))
      · rw [if_neg hcl]
        have e : nameV (.str x) = false := by rw [en, decide_eq_false hcl]; rfl
        rw [← e]; exact q H (Same.refl H)
    · rw [if_neg h1]
      have e : nameV (.str x) = false := by
        have : ts x = [] := List.eq_nil_of_length_eq_zero (by omega)
        show okName (ts x) = false
        rw [this]; rfl
      rw [← e]; exact q H (Same.refl H)
end
end K41
namespace K41
open PySem L2
local macro_rules | `(tactic| walk_at "rd") => `(tactic| simp only [cxOf_K, nox_K, compCx_K, tSeq, tNext, tAsg, gName, tRet, tRetN, tIfS, tDrop, tOp, tUn, tVar, tC, tCall, tCons, tNil, tTest, tB, tAnd, tOr, tNot, tAndV, tOrV, tNotV, tIf, tCB, tBM, tComp, tTrue, tPart, tNoPart, tSl, tChain, tIsN, tNotN, tLst, tTup, tFor_eq, sDPut, tDNewK, tNever, rI0, rI, rU, rEq, rNe, rMulS, rInC, iRng1, iStr, CDiv, CMul, CPow, scal, List.append_nil, List.getElem?_cons_zero, List.getElem?_cons_succ, List.set_cons_zero, List.set_cons_succ, List.map_cons, List.map_nil, List.length_cons, List.length_nil, sizeLine_eq, Nat.reduceAdd, Nat.reduceLeDiff, Option.join_some, Option.join_none, Option.some.injEq, V.int.injEq, V.str.injEq, V.bl.injEq, V.ref.injEq, V.ty.injEq, List.cons.injEq, and_true, true_and, and_self, exists_eq_left', exists_eq_left, exists_and_left, exists_and_right, decide_eq_true_eq, Bool.not_eq_eq_eq_not, Bool.not_true, Bool.not_false, decide_eq_false_iff_not, Int.reduceLT, Int.reduceLE, Int.reduceNeg, Int.reducePow, Int.reduceAdd, Int.reduceSub, Int.reduceMul, Int.reduceToNat, natAbs10, Nat.reduceLT, Nat.reducePow, or_true, true_or, if_true, if_false, Bool.false_eq_true, ite_true, ite_false, reduceCtorEq])
local macro_rules | `(tactic| walk_at "rd2") => `(tactic| simp only [tDisp, tPairs, tBM0, iList, iDict, tThaw, tMaxD, rMaxD, tDGet, rVals, tComp, cxOf_K, nox_K, compCx_K, tSeq, tNext, tAsg, gName, tRet, tRetN, tIfS, tDrop, tOp, tUn, tVar, tC, tCall, tCons, tNil, tTest, tB, tAnd, tOr, tNot, tAndV, tOrV, tNotV, tIf, tCB, tBM, tComp, tTrue, tPart, tNoPart, tSl, tChain, tIsN, tNotN, tLst, tTup, tFor_eq, sDPut, tDNewK, tNever, rI0, rI, rU, rEq, rNe, rMulS, rInC, iRng1, iStr, CDiv, CMul, CPow, scal, List.append_nil, List.getElem?_cons_zero, List.getElem?_cons_succ, List.set_cons_zero, List.set_cons_succ, List.map_cons, List.map_nil, List.length_cons, List.length_nil, sizeLine_eq, Nat.reduceAdd, Nat.reduceLeDiff, Option.join_some, Option.join_none, Option.some.injEq, V.int.injEq, V.str.injEq, V.bl.injEq, V.ref.injEq, V.ty.injEq, List.cons.injEq, and_true, true_and, and_self, exists_eq_left', exists_eq_left, exists_and_left, exists_and_right, decide_eq_true_eq, Bool.not_eq_eq_eq_not, Bool.not_true, Bool.not_false, decide_eq_false_iff_not, Int.reduceLT, Int.reduceLE, Int.reduceNeg, Int.reducePow, Int.reduceAdd, Int.reduceSub, Int.reduceMul, Int.reduceToNat, natAbs10, Nat.reduceLT, Nat.reducePow, or_true, true_or, if_true, if_false, Bool.false_eq_true, ite_true, ite_false, reduceCtorEq])
seal L2.PSs L2.PS L2.PE L2.PT L2.PW L2.PA L2.PI L2.PG L2.PGs L2.PPs L2.PTs
abbrev sKindOf : Stmt := top 9
abbrev sSgn : Stmt := top 11
abbrev sSnd : Stmt := top 13
def kindV (t : String) : V := if t = "NoneType" then .str "nothing" else if t = "bool" then .str "truth" else if t = "int" then .str "number" else if t = "str" then .str "text" else if t = "list" then .str "row" else if t = "dict" then .str "record" else .non
section
variable {P : Program} {w : World} {K : PySem.W.Frag} {mg : Str → Option Value} {base : Heap} {f : Addr} {fd : FuncData}
theorem iP {c A B : Prop} [Decidable c] (h : c) (a : A) : if c then A else B := by rw [if_pos h]; exact a
theorem iN {c A B : Prop} [Decidable c] (h : ¬c) (b : B) : if c then A else B := by rw [if_neg h]; exact b
theorem tyS_non {H : Hp} {v : V} (h : tyS H v = some "NoneType") : v = .non := by
  cases v with
  | non => rfl
  | ref a =>
    have h' : (match H a with | some (.lst _) => some "list" | some (.tup _) => some "tuple" | some (.dK _) => some "dict" | _ => none) = some "NoneType" := h
    split at h' <;> first | exact absurd (Option.some.inj h') (by decide) | cases h'
  | bl b => exact absurd (Option.some.inj h) (by decide)
  | int b => exact absurd (Option.some.inj h) (by decide)
  | str b => exact absurd (Option.some.inj h) (by decide)
  | byt b => cases h
  | flt b => cases h
  | ty b => cases h
def spKindR : Sp := fun vs H Q _ => ∃ (v : V) (t : String), vs = [v] ∧ tyR H v = some t ∧ ∀ H', Same H H' → Q (kindV t) H'
theorem tyR_non {H : Hp} {v : V} (h : tyR H v = some "NoneType") : v = .non := by
  cases v with
  | ref a =>
    have h' : (match H a with | some (.frz _ (.dK _)) => some "dict" | _ => tyS H (.ref a)) = some "NoneType" := h
    split at h'
    · exact absurd (Option.some.inj h') (by decide)
    · exact tyS_non h'
  | non => rfl
  | bl b => exact tyS_non (H := H) (show tyS H (.bl b) = _ from h)
  | int b => exact tyS_non (H := H) (show tyS H (.int b) = _ from h)
  | str b => exact tyS_non (H := H) (show tyS H (.str b) = _ from h)
  | byt b => exact tyS_non (H := H) (show tyS H (.byt b) = _ from h)
  | flt b => exact tyS_non (H := H) (show tyS H (.flt b) = _ from h)
  | ty b => exact tyS_non (H := H) (show tyS H (.ty b) = _ from h)
theorem scKindOf : FnScope ["thing"] ["thing"] (defScope sKindOf) := ⟨rfl, rfl, rfl, by decide +kernel, rfl, by decide +kernel, by decide +kernel⟩
theorem ok_kind_of (F : Fun K "kind_of" "kind_of" sKindOf f fd) (B : Bl mg) : FnOk P w K mg base CX0 1 f fd ["thing"] spKindR := by
  refine F.ok scKindOf (fun vs H Q E h => ?_) (fun cdv A outer s H vs Q E hr h => ?_)
  · obtain ⟨v, t, rfl, _⟩ := h
    rfl
  obtain ⟨v, t, rfl, ht, q⟩ := h
  have nd := scKindOf.nd
  refine ⟨_, (pss_cons (ps_if (pt_cmp (pc_isN (pv 0))) (pss_one (ps_ret pe_str)) pss_nil)
    (pss_cons (ps_if (pt_val (pe_callB (call_isiR (T := "bool") (by decide)) rfl B.isinstance bt_isinstance (pa_cons (pv 0) (pa_cons (pe_bltn (v := .ty "bool") rfl B.bool bt_bool rfl) pa_nil)))) (pss_one (ps_ret pe_str)) pss_nil)
    (pss_cons (ps_if (pt_val (pe_callB (call_isiR (T := "int") (by decide)) rfl B.isinstance bt_isinstance (pa_cons (pv 0) (pa_cons (pe_bltn (v := .ty "int") rfl B.int bt_int rfl) pa_nil)))) (pss_one (ps_ret pe_str)) pss_nil)
    (pss_cons (ps_if (pt_val (pe_callB (call_isiR (T := "str") (by decide)) rfl B.isinstance bt_isinstance (pa_cons (pv 0) (pa_cons (pe_bltn (v := .ty "str") rfl B.str bt_str rfl) pa_nil)))) (pss_one (ps_ret pe_str)) pss_nil)
    (pss_cons (ps_if (pt_val (pe_callB (call_isiR (T := "list") (by decide)) rfl B.isinstance bt_isinstance (pa_cons (pv 0) (pa_cons (pe_bltn (v := .ty "list") rfl B.list bt_list rfl) pa_nil)))) (pss_one (ps_ret pe_str)) pss_nil)
    (pss_cons (ps_if (pt_val (pe_callB (call_isiR (T := "dict") (by decide)) rfl B.isinstance bt_isinstance (pa_cons (pv 0) (pa_cons (pe_bltn (v := .ty "dict") rfl B.dict bt_dict rfl) pa_nil)))) (pss_one (ps_ret pe_str)) pss_nil)
    (pss_one (ps_ret pe_non)))))))), ?_⟩
  rw [show start ["thing"] [v] = [some v] from rfl]
  walk_at "rd2"
  have q := q H (Same.refl H)
  have hm := tyR_mem ht
  simp only [ht, Option.some.injEq, exists_eq_left']
  by_cases hv : v = .non
  · subst hv; cases ht; rw [if_pos rfl]; exact q
  · rw [if_neg hv]
    simp only [tyL, List.mem_cons, List.not_mem_nil, or_false] at hm
    rcases hm with rfl | rfl | rfl | rfl | rfl | rfl | rfl
    · exact absurd (tyR_non ht) hv
    all_goals (simpa [isSub, kindV] using q)
def spSgn : Sp := fun vs H Q _ => ∃ c : Nat, vs = [.str (tx [c])] ∧ ∀ H', Same H H' → Q (.bl (decide (c ∈ sgnL))) H'
theorem mem_sgn (c : Nat) : c ∈ sgnL ↔ 32 ≤ c ∧ c ≤ 126 ∧ c ≠ 37 := by
  unfold sgnL
  rw [List.mem_filter, List.mem_map]
  constructor
  · rintro ⟨⟨i, hi, rfl⟩, h⟩
    have := List.mem_range.mp hi
    simp at h
    omega
  · rintro ⟨h1, h2, h3⟩
    exact ⟨⟨c - 32, List.mem_range.mpr (by omega), by omega⟩, by simp [h3]⟩
theorem scSgn : FnScope ["sign"] ["sign"] (defScope sSgn) := ⟨rfl, rfl, rfl, by decide +kernel, rfl, by decide +kernel, by decide +kernel⟩
theorem ok_sgn (F : Fun K "is_text_sign" "is_text_sign" sSgn f fd) (B : Bl5 mg) : FnOk P w K mg base CX0 1 f fd ["sign"] spSgn := by
  refine F.ok scSgn (fun vs H Q E h => ?_) (fun cdv A outer s H vs Q E hr h => ?_)
  · obtain ⟨c, rfl, _⟩ := h
    rfl
  obtain ⟨c, rfl, q⟩ := h
  have nd := scSgn.nd
  refine ⟨_, (pss_one (ps_ret (pe_and (pe_chain op_le_str op_le_str pe_str (pv 0) pe_str) (pe_one (pe_cmpR op_ne (pe_callB call_ord rfl B.ord bt_ord (pa_cons (pv 0) pa_nil)) pe_int (nomark _)))))), ?_⟩
  rw [show start ["sign"] [.str (tx [c])] = [some (.str (tx [c]))] from rfl]
  walk_at "rd2"
  have e1 : ts (Str.ofString " ") = [32] := by decide +kernel
  have e2 : ts (Str.ofString "~") = [126] := by decide +kernel
  have e3 : ts (tx [c]) = [c] := rfl
  have e4 : (↑((#[c] : Array Nat).getD 0 0) : Int) = (c : Int) := rfl
  have l1 : ∀ a b : Nat, ([a] : List Nat) < [b] ↔ a < b := fun a b => by
    constructor
    · intro h
      cases h with
      | rel h => exact h
      | cons h => cases h
    · exact fun h => .rel h
  have z := q H (Same.refl H)
  rw [e1, e2, e3, e4]
  by_cases c1 : c < 32
  · refine ⟨false, by rw [decide_eq_true ((l1 _ _).mpr c1)]; rfl, iteF ?_⟩
    rw [decide_eq_false (fun h => by have := (mem_sgn c).mp h; omega)] at z
    exact z
  · refine ⟨true, by rw [decide_eq_false (fun h => c1 ((l1 _ _).mp h))]; rfl, iteT ?_⟩
    by_cases c2 : 126 < c
    · refine ⟨false, by rw [decide_eq_true ((l1 _ _).mpr c2)]; rfl, iteF ?_⟩
      rw [decide_eq_false (fun h => by have := (mem_sgn c).mp h; omega)] at z
      exact z
    · refine ⟨true, by rw [decide_eq_false (fun h => c2 ((l1 _ _).mp h))]; rfl, iteT ⟨rfl, ?_⟩⟩
      have e : decide (c ∈ sgnL) = !decide ((c : Int) = 37) := by
        rw [Bool.eq_iff_iff, decide_eq_true_iff, mem_sgn]
        simp
        omega
      rw [e] at z
      exact z
def tyK : Key → String
  | .inl _ => "int"
  | .inr _ => "str"
theorem tyK_of {H : Hp} : ∀ k : Key, tyS H (kV k) = some (tyK k)
  | .inl _ => rfl
  | .inr _ => rfl
theorem kV_inr {k : Key} {x : Str} (h : kV k = .str x) : k = Sum.inr x := by
  cases k with
  | inl i => cases h
  | inr y => cases h; rfl
def leafOk : V → Bool
  | .non => true
  | .bl _ => true
  | .int i => decide (-(10 ^ 12) ≤ i ∧ i ≤ 10 ^ 12)
  | .str x => decide (x.length ≤ 30) && (ts x).all fun c => decide (c ∈ sgnL)
  | _ => false
def soundU : U → Bool
  | .leaf v => leafOk v
  | .lst us => decide (us.length ≤ 60)
  | .dic ks _ => decide (ks.length ≤ 30) && ks.all fun k => nameV (kV k)
def spSnd : Sp := fun vs H Q _ => ∃ (v : V) (u : U), vs = [v] ∧ Ru H v u ∧ U.ok u ∧ U.sz u ≤ 1000 ∧ ∀ H', Same H H' → Q (.bl (soundU u)) H'
theorem scSnd : FnScope ["thing", "kind"] ["thing"] (defScope sSnd) := ⟨rfl, rfl, rfl, by decide +kernel, rfl, by decide +kernel, by decide +kernel⟩
theorem ok_snd (F : Fun K "is_sound_outside" "is_sound_outside" sSnd f fd) (B : Bl5 mg) (M : Ms mg) (Gkind_of : Dn P w K mg base 1 "kind_of" ["thing"] spKindR) (Gis_text_sign : Dn P w K mg base 1 "is_text_sign" ["sign"] spSgn) (Gis_name : Dn P w K mg base 1 "is_name" ["thing"] spGood) : FnOk P w K mg base CX0 2 f fd ["thing"] spSnd := by
  refine F.ok scSnd (fun vs H Q E h => ?_) (fun cdv A outer s H vs Q E hr h => ?_)
  · obtain ⟨v, u, rfl, _⟩ := h
    rfl
  obtain ⟨v, u, rfl, hv, hok, hz, q⟩ := h
  have nd := scSnd.nd
  refine ⟨_, (pss_cons (ps_set (i := 1) nd rfl (Or.inl rfl) (pe_cd Gkind_of hr (by omega) rfl (pa_cons (pv 0) pa_nil)))
    (pss_cons (ps_if (pt_cmpR op_eq (pv 1) pe_str (nomark _)) (pss_one (ps_ret (pe_cmpR op_le (pe_callB call_abs rfl B.abs bt_abs (pa_cons (pv 0) pa_nil)) (pe_op op_pow pe_int pe_int) (nomark _)))) pss_nil)
    (pss_cons (ps_if (pt_cmpR op_eq (pv 1) pe_str (nomark _)) (pss_one (ps_ret (pe_and (pe_cmpR op_le (pe_callB call_len_str rfl B.len bt_len (pa_cons (pv 0) pa_nil)) (pe_gi rfl M.MOST_IN_TEXT) (nomark _)) (pe_one (pe_callB (call_all rfl) rfl B.all bt_all (pa_cons (pe_comp (own := ["sign"]) (F := []) ⟨rfl, by with_unfolding_all rfl, by with_unfolding_all rfl, by with_unfolding_all rfl, .nil⟩ rfl (pi_str (pv 0)) (fun _ _ _ _ => pg_name (i := 0) (by show (compN ["sign"] []).Nodup; decide +kernel) rfl (Or.inl rfl)) (fun _ _ _ _ => pts_nil) (fun _ _ _ _ => (pe_cd Gis_text_sign hr (by omega) rfl (pa_cons (pv 0) pa_nil)))) pa_nil)))))) pss_nil)
    (pss_cons (ps_if (pt_cmpR op_eq (pv 1) pe_str (nomark _)) (pss_one (ps_ret (pe_cmpR op_le (pe_callB call_len_l rfl B.len bt_len (pa_cons (pv 0) pa_nil)) (pe_gi rfl M.MOST_IN_ROW) (nomark _)))) pss_nil)
    (pss_cons (ps_if (pt_cmpR op_eq (pv 1) pe_str (nomark _)) (pss_one (ps_ret (pe_and (pe_cmpR op_le (pe_callB call_lenR rfl B.len bt_len (pa_cons (pv 0) pa_nil)) (pe_gi rfl M.MOST_IN_RECORD) (nomark _)) (pe_one (pe_callB (call_all rfl) rfl B.all bt_all (pa_cons (pe_thaw (pe_comp (own := ["name"]) (F := []) ⟨rfl, by with_unfolding_all rfl, by with_unfolding_all rfl, by with_unfolding_all rfl, .nil⟩ rfl (pi_dict (pv 0)) (fun _ _ _ _ => pg_name (i := 0) (by show (compN ["name"] []).Nodup; decide +kernel) rfl (Or.inl rfl)) (fun _ _ _ _ => pts_nil) (fun _ _ _ _ => (pe_cd Gis_name hr (by omega) rfl (pa_cons (pv 0) pa_nil))))) pa_nil)))))) pss_nil)
    (pss_one (ps_ret (pe_cmp (pc_notN (pv 1)))))))))), ?_⟩
  rw [show start ["thing", "kind"] [v] = [some v, none] from rfl]
  walk_at "rd2"
  refine ⟨v, _, rfl, hv.ty, fun H1 g1 => ?_⟩
  have hv := hv.same g1
  cases u with
  | lst us =>
    rw [show kindV (tyU (U.lst us)) = .str "row" from by show kindV "list" = _; decide +kernel]
    obtain ⟨a, vs, rfl, ha, hs⟩ := hv
    have hl := hs.length
    refine ⟨rfl, iN (by decide +kernel) ⟨rfl, iN (by decide +kernel) ⟨rfl, iP rfl ⟨a, rfl, vs, SqL.of ha, ?_⟩⟩⟩⟩
    have z := q _ g1
    rw [show soundU (.lst us) = decide ((vs.length : Int) ≤ 60) from by show decide _ = _; rw [decide_eq_decide, hl]; omega] at z
    exact z
  | dic ks us =>
    rw [show kindV (tyU (U.dic ks us)) = .str "record" from by show kindV "dict" = _; decide +kernel]
    obtain ⟨a, ps, rfl, ha, hk, hs⟩ := hv
    obtain ⟨nk, hle, hsh, hok⟩ := hok
    have hpl : ps.length = ks.length := by have := congrArg List.length hk; simpa using this
    have hul := U.szs_len us
    have hz' : U.szs us + 1 ≤ 1000 := hz
    refine ⟨rfl, iN (by decide +kernel) ⟨rfl, iN (by decide +kernel) ⟨rfl, iN (by decide +kernel) ⟨rfl, iP rfl ⟨a, rfl, ps, ha, ?_⟩⟩⟩⟩⟩
    by_cases h30 : ks.length ≤ 30
    · rw [if_pos (by rw [hpl]; omega)]
      refine ⟨a, rfl, ps, ?_⟩
      have body : ∀ (o : Obj) (H2 : Hp) (th : Hp → Hp), H2 a = some (.frz o (.dK ps)) → (∀ H', Same H2 H' → ∀ p xs, H' p = some (.lst xs) → th H' p = some (.lst xs)) → (∀ H', Same H2 H' → Same H1 (th H')) →
          CompBody [Str.ofString "name"] [] (gName 0) tTrue (tCall spGood [] E0 (tCons (tVar 0) tNil)) [some (V.ref a), some (V.str (Str.ofString "record"))]
            (fun v H'_1 => ∃ p, v = V.ref p ∧ ∃ x, SqL K (th H'_1) p (List.map V.bl x) ∧ Q (V.bl (x.all id)) (th H'_1)) (Itd a o ps) H2 := by
        intro o H2 th ha2 hth hgth
        refine comp_dict (fun i zs H' => Same H2 H' ∧ zs = ((ks.take i).map fun k => nameV (kV k)).map V.bl) (by rw [sizeLine_eq]; omega) ⟨Same.refl _, rfl⟩ (fun i zs H' h => h.1 _ _ ha2) ?_ ?_
        · rintro i kv zs H' hkv _ ⟨g, rfl⟩
          have hki : ks[i]? = some kv.1 := by rw [← hk, List.getElem?_map, hkv]; rfl
          have hmk := List.mem_of_getElem? hki
          walk_at "rd2"
          refine ⟨kV kv.1, tyK kv.1, rfl, tyK_of kv.1, fun x e => ?_, fun H3 g3 => ⟨g.trans g3, ?_⟩⟩
          · refine hsh x ?_
            rw [← kV_inr e]; exact hmk
          · rw [take_succ_of hki, List.map_append, List.map_append]; rfl
        · rintro zs H' _ ⟨g, rfl⟩ p hp
          have g2 := g.trans (same_new hp (.lst (List.map V.bl ((ks.take ps.length).map fun k => nameV (kV k)))))
          refine ⟨p, rfl, _, SqL.of (hth _ g2 p _ upd_same), ?_⟩
          have z := q _ (g1.trans (hgth _ g2))
          rw [hpl, List.take_length] at z ⊢
          rw [show soundU (.dic ks us) = (ks.map fun k => nameV (kV k)).all id from by
            show (decide _ && _) = _
            rw [decide_eq_true h30, Bool.true_and, List.all_map]; rfl] at z
          exact z
      rcases ha with ha | ⟨o, ha⟩
      · exact .inl ⟨ha, fun o => body o _ (thaw H1) upd_same (fun H' g p xs e => thaw_of e (by intro o v z; cases z)) fun H' g => thaw_walk (o := o) ha g⟩
      · exact .inr ⟨o, ha, body o H1 (thaw H1) ha (fun H' g p xs e => thaw_of e (by intro o v z; cases z)) fun H' g => thaw_same fun b u e => .inl (g b u e)⟩
    · rw [if_neg (by rw [hpl]; omega)]
      have z := q _ g1
      rw [show soundU (.dic ks us) = false from by show (decide _ && _) = _; rw [decide_eq_false h30]; rfl] at z
      exact z
  | leaf x =>
    obtain ⟨rfl, hx⟩ := hv
    have z := q _ g1
    cases v with
    | non =>
      rw [show kindV (tyU (U.leaf .non)) = .str "nothing" from by decide +kernel]
      exact ⟨rfl, iN (by decide +kernel) ⟨rfl, iN (by decide +kernel) ⟨rfl, iN (by decide +kernel) ⟨rfl, iN (by decide +kernel) z⟩⟩⟩⟩
    | bl b =>
      rw [show kindV (tyU (U.leaf (.bl b))) = .str "truth" from by show kindV "bool" = _; decide +kernel]
      exact ⟨rfl, iN (by decide +kernel) ⟨rfl, iN (by decide +kernel) ⟨rfl, iN (by decide +kernel) ⟨rfl, iN (by decide +kernel) z⟩⟩⟩⟩
    | int i =>
      rw [show kindV (tyU (U.leaf (.int i))) = .str "number" from by show kindV "int" = _; decide +kernel]
      refine ⟨rfl, iP rfl ⟨i, rfl, ?_⟩⟩
      rw [show soundU (.leaf (.int i)) = decide ((if i < 0 then -i else i) ≤ 1000000000000) from by
        show decide _ = _
        rw [decide_eq_decide]
        split <;> omega] at z
      exact z
    | str x =>
      rw [show kindV (tyU (U.leaf (.str x))) = .str "text" from by show kindV "str" = _; decide +kernel]
      have hx1 := hok x rfl
      have hlen := ts_len x
      refine ⟨rfl, iN (by decide +kernel) ⟨rfl, iP rfl ⟨x, rfl, by omega, ?_⟩⟩⟩
      by_cases h30 : x.length ≤ 30
      · rw [if_pos (by omega)]
        refine ⟨x, rfl, comp_str (fun i ys H' => Same H1 H' ∧ ys = (((ts x).take i).map fun c => decide (c ∈ sgnL)).map V.bl) (by rw [sizeLine_eq]; omega) ⟨Same.refl _, rfl⟩ ?_ ?_⟩
        · rintro i d ys H' hd _ ⟨hS, rfl⟩
          walk_at "rd2"
          refine ⟨d, rfl, fun H3 g3 => ⟨hS.trans g3, ?_⟩⟩
          have e : (ts x).take (i + 1) = (ts x).take i ++ [d] := by rw [List.take_add_one, hd]; rfl
          rw [e]
          simp only [List.map_append, List.map_cons, List.map_nil]
        · rintro ys H' hl' ⟨hS, rfl⟩ p hp
          refine ⟨p, rfl, _, SqL.of upd_same, ?_⟩
          have z := q _ (g1.trans (hS.trans (same_new hp (.lst ((((ts x).take (ts x).length).map fun c => decide (c ∈ sgnL)).map V.bl)))))
          rw [List.take_length] at z ⊢
          rw [show soundU (.leaf (.str x)) = ((ts x).map fun c => decide (c ∈ sgnL)).all id from by
            show (decide _ && _) = _
            rw [decide_eq_true h30, Bool.true_and, List.all_map]; rfl] at z
          exact z
      · rw [if_neg (by omega)]
        rw [show soundU (.leaf (.str x)) = false from by show (decide _ && _) = _; rw [decide_eq_false h30]; rfl] at z
        exact z
    | ref a =>
      rw [show kindV (tyU (U.leaf (.ref a))) = .non from by show kindV "tuple" = _; decide +kernel]
      exact ⟨rfl, iN (by decide +kernel) ⟨rfl, iN (by decide +kernel) ⟨rfl, iN (by decide +kernel) ⟨rfl, iN (by decide +kernel) z⟩⟩⟩⟩
    | byt b => rcases hx with h | ⟨a, xs, h, _⟩ <;> cases h
    | flt b => rcases hx with h | ⟨a, xs, h, _⟩ <;> cases h
    | ty b => rcases hx with h | ⟨a, xs, h, _⟩ <;> cases h
end
end K41
namespace K41
open PySem L2
local macro_rules | `(tactic| walk_at "rd") => `(tactic| simp only [cxOf_K, nox_K, compCx_K, tSeq, tNext, tAsg, gName, tRet, tRetN, tIfS, tDrop, tOp, tUn, tVar, tC, tCall, tCons, tNil, tTest, tB, tAnd, tOr, tNot, tAndV, tOrV, tNotV, tIf, tCB, tBM, tComp, tTrue, tPart, tNoPart, tSl, tChain, tIsN, tNotN, tLst, tTup, tFor_eq, sDPut, tDNewK, tNever, rI0, rI, rU, rEq, rNe, rMulS, rInC, iRng1, iStr, CDiv, CMul, CPow, scal, List.append_nil, List.getElem?_cons_zero, List.getElem?_cons_succ, List.set_cons_zero, List.set_cons_succ, List.map_cons, List.map_nil, List.length_cons, List.length_nil, sizeLine_eq, Nat.reduceAdd, Nat.reduceLeDiff, Option.join_some, Option.join_none, Option.some.injEq, V.int.injEq, V.str.injEq, V.bl.injEq, V.ref.injEq, V.ty.injEq, List.cons.injEq, and_true, true_and, and_self, exists_eq_left', exists_eq_left, exists_and_left, exists_and_right, decide_eq_true_eq, Bool.not_eq_eq_eq_not, Bool.not_true, Bool.not_false, decide_eq_false_iff_not, Int.reduceLT, Int.reduceLE, Int.reduceNeg, Int.reducePow, Int.reduceAdd, Int.reduceSub, Int.reduceMul, Int.reduceToNat, natAbs10, Nat.reduceLT, Nat.reducePow, or_true, true_or, if_true, if_false, Bool.false_eq_true, ite_true, ite_false, reduceCtorEq])
local macro_rules | `(tactic| walk_at "rd2") => `(tactic| simp only [tDisp, tPairs, tBM0, iList, iDict, tThaw, tMaxD, rMaxD, tDGet, rVals, tComp, cxOf_K, nox_K, compCx_K, tSeq, tNext, tAsg, gName, tRet, tRetN, tIfS, tDrop, tOp, tUn, tVar, tC, tCall, tCons, tNil, tTest, tB, tAnd, tOr, tNot, tAndV, tOrV, tNotV, tIf, tCB, tBM, tComp, tTrue, tPart, tNoPart, tSl, tChain, tIsN, tNotN, tLst, tTup, tFor_eq, sDPut, tDNewK, tNever, rI0, rI, rU, rEq, rNe, rMulS, rInC, iRng1, iStr, CDiv, CMul, CPow, scal, List.append_nil, List.getElem?_cons_zero, List.getElem?_cons_succ, List.set_cons_zero, List.set_cons_succ, List.map_cons, List.map_nil, List.length_cons, List.length_nil, sizeLine_eq, Nat.reduceAdd, Nat.reduceLeDiff, Option.join_some, Option.join_none, Option.some.injEq, V.int.injEq, V.str.injEq, V.bl.injEq, V.ref.injEq, V.ty.injEq, List.cons.injEq, and_true, true_and, and_self, exists_eq_left', exists_eq_left, exists_and_left, exists_and_right, decide_eq_true_eq, Bool.not_eq_eq_eq_not, Bool.not_true, Bool.not_false, decide_eq_false_iff_not, Int.reduceLT, Int.reduceLE, Int.reduceNeg, Int.reducePow, Int.reduceAdd, Int.reduceSub, Int.reduceMul, Int.reduceToNat, natAbs10, Nat.reduceLT, Nat.reducePow, or_true, true_or, if_true, if_false, Bool.false_eq_true, ite_true, ite_false, reduceCtorEq])
seal L2.PSs L2.PS L2.PE L2.PT L2.PW L2.PA L2.PI L2.PG L2.PGs L2.PPs L2.PTs
abbrev sHp : Stmt := top 14
abbrev sPo : Stmt := top 15
abbrev sPa : Stmt := top 16
abbrev sTh : Stmt := top 12
section
variable {P : Program} {w : World} {K : PySem.W.Frag} {mg : Str → Option Value} {base : Heap} {f : Addr} {fd : FuncData}
def kids : U → List U
  | .lst us => us
  | .dic _ us => us
  | .leaf _ => []
def isH : U → Bool
  | .leaf _ => false
  | _ => true
def nextU (us : List U) : List U := (us.map kids).flatten
def spHp : Sp := fun vs H Q _ => ∃ (v : V) (u : U), vs = [v] ∧ Ru H v u ∧ ∀ H', Same H H' → Q (.bl (isH u)) H'
theorem ty_hold : ∀ u : U, (isSub (tyU u) "list" || isSub (tyU u) "dict") = isH u
  | .leaf .non => by decide +kernel
  | .leaf (.bl _) => by show (isSub "bool" "list" || isSub "bool" "dict") = false; decide +kernel
  | .leaf (.int _) => by show (isSub "int" "list" || isSub "int" "dict") = false; decide +kernel
  | .leaf (.str _) => by show (isSub "str" "list" || isSub "str" "dict") = false; decide +kernel
  | .leaf (.byt _) => by show (isSub "tuple" "list" || isSub "tuple" "dict") = false; decide +kernel
  | .leaf (.flt _) => by show (isSub "tuple" "list" || isSub "tuple" "dict") = false; decide +kernel
  | .leaf (.ref _) => by show (isSub "tuple" "list" || isSub "tuple" "dict") = false; decide +kernel
  | .leaf (.ty _) => by show (isSub "tuple" "list" || isSub "tuple" "dict") = false; decide +kernel
  | .lst _ => by show (isSub "list" "list" || isSub "list" "dict") = true; decide +kernel
  | .dic _ _ => by show (isSub "dict" "list" || isSub "dict" "dict") = true; decide +kernel
theorem scHp : FnScope ["thing"] ["thing"] (defScope sHp) := ⟨rfl, rfl, rfl, by decide +kernel, rfl, by decide +kernel, by decide +kernel⟩
theorem ok_hp (F : Fun K "holds_parts" "holds_parts" sHp f fd) (B : Bl mg) : FnOk P w K mg base CX0 1 f fd ["thing"] spHp := by
  refine F.ok scHp (fun vs H Q E h => ?_) (fun cdv A outer s H vs Q E hr h => ?_)
  · obtain ⟨v, u, rfl, _⟩ := h
    rfl
  obtain ⟨v, u, rfl, hv, q⟩ := h
  have nd := scHp.nd
  refine ⟨_, (pss_one (ps_ret (pe_callB (call_isi2R (T := "list") (W := "dict") (by decide) (by decide)) rfl B.isinstance bt_isinstance (pa_cons (pv 0) (pa_cons (pe_tup (pa_cons (pe_bltn (v := .ty "list") rfl B.list bt_list rfl) (pa_cons (pe_bltn (v := .ty "dict") rfl B.dict bt_dict rfl) pa_nil))) pa_nil))))), ?_⟩
  rw [show start ["thing"] [v] = [some v] from rfl]
  walk_at "rd2"
  intro p hp
  have g := same_new hp (.tup [V.ty "list", V.ty "dict"])
  refine ⟨v, tyU u, p, ⟨rfl, rfl⟩, upd_same, (hv.same g).ty, ?_⟩
  have z := q _ g
  rw [← ty_hold] at z
  exact z
def spPo : Sp := fun vs H Q _ => ∃ (H0 : Hp) (v : V) (u : U), vs = [v] ∧ Same H0 H ∧ Ru H0 v u ∧ isH u = true ∧ ∀ l ys H', Same H H' → H' l = some (.lst ys) → Rus H0 ys (kids u) → Q (.ref l) H'
theorem scPo : FnScope ["thing"] ["thing"] (defScope sPo) := ⟨rfl, rfl, rfl, by decide +kernel, rfl, by decide +kernel, by decide +kernel⟩
theorem ok_po (F : Fun K "parts_of" "parts_of" sPo f fd) (B : Bl mg) : FnOk P w K mg base CX0 1 f fd ["thing"] spPo := by
  refine F.ok scPo (fun vs H Q E h => ?_) (fun cdv A outer s H vs Q E hr h => ?_)
  · obtain ⟨H0, v, u, rfl, _⟩ := h
    rfl
  obtain ⟨H0, v, u, rfl, g0, hv, hh, q⟩ := h
  have nd := scPo.nd
  refine ⟨_, (pss_cons (ps_if (pt_val (pe_callB (call_isiR (T := "dict") (by decide)) rfl B.isinstance bt_isinstance (pa_cons (pv 0) (pa_cons (pe_bltn (v := .ty "dict") rfl B.dict bt_dict rfl) pa_nil)))) (pss_one (ps_ret (pe_callTy (call_list_v rfl) rfl B.list bt_list (pa_cons (pe_bmR PySem.F.plainAttrs_dict PySem.F.slot_dict_values PySem.F.type_dict_values mt_values (pv 0)) pa_nil)))) pss_nil)
    (pss_one (ps_ret (pe_callTy call_list_of rfl B.list bt_list (pa_cons (pv 0) pa_nil))))), ?_⟩
  rw [show start ["thing"] [v] = [some v] from rfl]
  walk_at "rd2"
  cases u with
  | leaf _ => cases hh
  | lst us =>
    have hty : tyR H v = some "list" := (hv.same g0).ty
    obtain ⟨a, xs, rfl, ha, hs⟩ := hv
    exact ⟨"list", hty, iN (by decide +kernel) ⟨a, rfl, xs, .inl (SqL.of (g0 _ _ ha)), fun l hl => q l xs _ (same_new hl _) upd_same hs⟩⟩
  | dic ks us =>
    have hty : tyR H v = some "dict" := (hv.same g0).ty
    obtain ⟨a, ps, rfl, ha, hk, hs⟩ := hv
    refine ⟨"dict", hty, iP (by decide +kernel) ?_⟩
    have ha := ha.same g0
    refine ⟨.ref a, rfl, ⟨a, ps, rfl, ha⟩, a, ps, rfl, rfl, ha, fun p hp => ?_⟩
    have g := same_new hp (valsO p a)
    exact ⟨p, rfl, a, upd_same, ps, ha.same g, fun l hl => q l _ _ (g.trans (same_new hl _)) upd_same hs⟩
def spPa : Sp := fun vs H Q _ => ∃ (a : Addr) (xs : List V) (us : List U), vs = [.ref a] ∧ H a = some (.lst xs) ∧ Rus H xs us ∧ (∀ u ∈ us, isH u = true) ∧ U.szs us ≤ 10000 ∧ ∀ l ys H', Same H H' → H' l = some (.lst ys) → Rus H' ys (nextU us) → Q (.ref l) H'
theorem nextU_snoc (us : List U) (u : U) : nextU (us ++ [u]) = nextU us ++ kids u := by simp [nextU]
theorem kids_sz : ∀ u : U, U.szs (kids u) + 1 = U.sz u ∨ kids u = []
  | .leaf _ => .inr rfl
  | .lst _ => .inl rfl
  | .dic _ _ => .inl rfl
theorem next_len : ∀ us : List U, (nextU us).length ≤ U.szs us
  | [] => Nat.le_refl _
  | u :: us => by
    have := next_len us
    have e : nextU (u :: us) = kids u ++ nextU us := rfl
    rw [e, List.length_append]
    show _ ≤ U.sz u + U.szs us
    have h1 := U.szs_len (kids u)
    rcases kids_sz u with h | h
    · omega
    · rw [h]; simp only [List.length_nil]; omega
theorem scPa : FnScope ["holders", "parts", "holder"] ["holders"] (defScope sPa) := ⟨rfl, rfl, rfl, by decide +kernel, rfl, by decide +kernel, by decide +kernel⟩
theorem ok_pa (F : Fun K "parts_of_all" "parts_of_all" sPa f fd) (B : Bl mg) (Gparts_of : Dn P w K mg base 1 "parts_of" ["thing"] spPo) : FnOk P w K mg base CX0 2 f fd ["holders"] spPa := by
  refine F.ok scPa (fun vs H Q E h => ?_) (fun cdv A outer s H vs Q E hr h => ?_)
  · obtain ⟨a, xs, us, rfl, _⟩ := h
    rfl
  obtain ⟨a, xs, us, rfl, ha, hs, hh, hz, q⟩ := h
  have nd := scPa.nd
  refine ⟨_, (pss_cons (ps_set (i := 1) nd rfl (Or.inl rfl) (pe_lst pa_nil))
    (pss_cons (ps_for PassesOwn.never rfl (pi_list (pv 0)) (pg_name (i := 2) nd rfl (Or.inl rfl)) (pss_one (ps_expr (pe_bm PySem.F.plainAttrs_list PySem.F.slot_list_extend PySem.F.type_list_extend mt_extend (pv 1) (pa_cons (pe_cd Gparts_of hr (by omega) rfl (pa_cons (pv 2) pa_nil)) pa_nil)))))
    (pss_one (ps_ret (pv 1))))), ?_⟩
  rw [show start ["holders", "parts", "holder"] [.ref a] = [some (.ref a), none, none] from rfl]
  walk_at "rd2"
  intro p hp
  have g0 := same_new hp (.lst [])
  have hpa : p ≠ a := fun z => by rw [z, ha] at hp; cases hp
  refine ⟨⟨_, SqL.of (g0 _ _ ha)⟩, ?_⟩
  refine forB_list (K := K) (a := a) (xs := xs) (fun i σ H2 => (∃ o, σ = [some (V.ref a), some (V.ref p), o]) ∧ Same H H2 ∧ ∃ ys, H2 p = some (.lst ys) ∧ Rus H ys (nextU (us.take i))) ⟨⟨_, rfl⟩, g0, [], upd_same, rfl⟩ (fun i σ H2 _ h => SqL.of (h.2.1 _ _ ha)) ?_ ?_
  · rintro i x σ H2 hx ⟨⟨o, rfl⟩, g, ys, hp2, hR⟩
    obtain ⟨u, hu, hr'⟩ := hs.get hx
    have hm := List.mem_of_getElem? hu
    walk_at "rd2"
    refine ⟨Or.inl ⟨rfl, _, SqL.of hp2⟩, H, x, u, rfl, g, hr', hh u hm, fun l zs H3 g3 hl hZ => ?_⟩
    have h1 := hR.length
    have h2 := hZ.length
    have h3 := next_len (us.take (i + 1))
    have h4 : U.szs (us.take (i + 1)) ≤ U.szs us := by
      conv => rhs; rw [← List.take_append_drop (i + 1) us]
      rw [U.szs_append]; omega
    have e := nextU_snoc (us.take i) u
    rw [← take_succ_of hu] at e
    have h5 := congrArg List.length e
    rw [List.length_append] at h5
    refine ⟨p, l, ys, zs, rfl, rfl, g3 _ _ hp2, hl, by rw [sizeLine_eq]; omega, ⟨_, rfl⟩, (g.trans g3).put hp _, ys ++ zs, upd_same, ?_⟩
    rw [e]
    exact Rus.append hZ hR
  · rintro σ H2 ⟨⟨o, rfl⟩, g, ys, hp2, hR⟩
    walk_at "rd2"
    have hl := hs.length
    rw [hl, List.take_length] at hR
    exact q p ys H2 g hp2 (hR.same g)
end
end K41
namespace K41
open PySem L2
local macro_rules | `(tactic| walk_at "rd") => `(tactic| simp only [cxOf_K, nox_K, compCx_K, tSeq, tNext, tAsg, gName, tRet, tRetN, tIfS, tDrop, tOp, tUn, tVar, tC, tCall, tCons, tNil, tTest, tB, tAnd, tOr, tNot, tAndV, tOrV, tNotV, tIf, tCB, tBM, tComp, tTrue, tPart, tNoPart, tSl, tChain, tIsN, tNotN, tLst, tTup, tFor_eq, sDPut, tDNewK, tNever, rI0, rI, rU, rEq, rNe, rMulS, rInC, iRng1, iStr, CDiv, CMul, CPow, scal, List.append_nil, List.getElem?_cons_zero, List.getElem?_cons_succ, List.set_cons_zero, List.set_cons_succ, List.map_cons, List.map_nil, List.length_cons, List.length_nil, sizeLine_eq, Nat.reduceAdd, Nat.reduceLeDiff, Option.join_some, Option.join_none, Option.some.injEq, V.int.injEq, V.str.injEq, V.bl.injEq, V.ref.injEq, V.ty.injEq, List.cons.injEq, and_true, true_and, and_self, exists_eq_left', exists_eq_left, exists_and_left, exists_and_right, decide_eq_true_eq, Bool.not_eq_eq_eq_not, Bool.not_true, Bool.not_false, decide_eq_false_iff_not, Int.reduceLT, Int.reduceLE, Int.reduceNeg, Int.reducePow, Int.reduceAdd, Int.reduceSub, Int.reduceMul, Int.reduceToNat, natAbs10, Nat.reduceLT, Nat.reducePow, or_true, true_or, if_true, if_false, Bool.false_eq_true, ite_true, ite_false, reduceCtorEq])
local macro_rules | `(tactic| walk_at "rd2") => `(tactic| simp only [tDisp, tPairs, tBM0, iList, iDict, tThaw, tMaxD, rMaxD, tDGet, rVals, tComp, cxOf_K, nox_K, compCx_K, tSeq, tNext, tAsg, gName, tRet, tRetN, tIfS, tDrop, tOp, tUn, tVar, tC, tCall, tCons, tNil, tTest, tB, tAnd, tOr, tNot, tAndV, tOrV, tNotV, tIf, tCB, tBM, tComp, tTrue, tPart, tNoPart, tSl, tChain, tIsN, tNotN, tLst, tTup, tFor_eq, sDPut, tDNewK, tNever, rI0, rI, rU, rEq, rNe, rMulS, rInC, iRng1, iStr, CDiv, CMul, CPow, scal, List.append_nil, List.getElem?_cons_zero, List.getElem?_cons_succ, List.set_cons_zero, List.set_cons_succ, List.map_cons, List.map_nil, List.length_cons, List.length_nil, sizeLine_eq, Nat.reduceAdd, Nat.reduceLeDiff, Option.join_some, Option.join_none, Option.some.injEq, V.int.injEq, V.str.injEq, V.bl.injEq, V.ref.injEq, V.ty.injEq, List.cons.injEq, and_true, true_and, and_self, exists_eq_left', exists_eq_left, exists_and_left, exists_and_right, decide_eq_true_eq, Bool.not_eq_eq_eq_not, Bool.not_true, Bool.not_false, decide_eq_false_iff_not, Int.reduceLT, Int.reduceLE, Int.reduceNeg, Int.reducePow, Int.reduceAdd, Int.reduceSub, Int.reduceMul, Int.reduceToNat, natAbs10, Nat.reduceLT, Nat.reducePow, or_true, true_or, if_true, if_false, Bool.false_eq_true, ite_true, ite_false, reduceCtorEq])
seal L2.PSs L2.PS L2.PE L2.PT L2.PW L2.PA L2.PI L2.PG L2.PGs L2.PPs L2.PTs
section
variable {P : Program} {w : World} {K : PySem.W.Frag} {mg : Str → Option Value} {base : Heap} {f : Addr} {fd : FuncData}
def jd : Nat → Nat → List U → Bool
  | 0, _, _ => false
  | k + 1, z, us => if 200 < z + us.length ∨ us.all soundU = false then false else if us.any isH = false then true else jd k (z + us.length) (nextU us)
theorem next_szs : ∀ us : List U, U.szs (nextU us) ≤ U.szs us
  | [] => Nat.le_refl _
  | u :: us => by
    have := next_szs us
    have e : nextU (u :: us) = kids u ++ nextU us := rfl
    rw [e, U.szs_append]
    show _ ≤ U.sz u + U.szs us
    rcases kids_sz u with h | h
    · omega
    · rw [h]; show 0 + _ ≤ _; omega
theorem next_filter : ∀ us : List U, nextU (us.filter isH) = nextU us
  | [] => rfl
  | u :: us => by
    have ih := next_filter us
    cases u with
    | leaf v => rw [List.filter_cons_of_neg (by simp [isH])]; exact ih
    | lst ws =>
      rw [List.filter_cons_of_pos rfl]
      show ws ++ nextU (us.filter isH) = ws ++ nextU us
      rw [ih]
    | dic ks ws =>
      rw [List.filter_cons_of_pos rfl]
      show ws ++ nextU (us.filter isH) = ws ++ nextU us
      rw [ih]
theorem next_oks : ∀ {us : List U}, U.oks us → U.oks (nextU us)
  | [], _ => True.intro
  | u :: us, h => by
    have ih := next_oks h.2
    have e : nextU (u :: us) = kids u ++ nextU us := rfl
    rw [e]
    refine U.oks_of fun x hx => ?_
    rcases List.mem_append.mp hx with z | z
    · cases u with
      | leaf v => cases z
      | lst ws => exact U.oks_mem h.1 z
      | dic ks ws => exact U.oks_mem h.1.2.2.2 z
    · exact U.oks_mem ih z
theorem szs_filter : ∀ us : List U, U.szs (us.filter isH) ≤ U.szs us
  | [] => Nat.le_refl _
  | x :: r => by
    have ih := szs_filter r
    cases hx : isH x with
    | true => rw [List.filter_cons_of_pos hx]; show U.sz x + _ ≤ U.sz x + _; omega
    | false => rw [List.filter_cons_of_neg (by rw [hx]; decide)]; show _ ≤ U.sz x + _; omega
def spTh : Sp := fun vs H Q _ => ∃ (v : V) (u : U), vs = [v] ∧ Ru H v u ∧ U.ok u ∧ U.sz u ≤ 1000 ∧ ∀ H', Same H H' → Q (.bl (jd 9 0 [u])) H'
theorem scTh : FnScope ["thing", "level", "size", "depth", "holders"] ["thing"] (defScope sTh) := ⟨rfl, rfl, rfl, by decide +kernel, rfl, by decide +kernel, by decide +kernel⟩
theorem ok_th (F : Fun K "is_thing" "is_thing" sTh f fd) (B : Bl mg) (M : Ms mg) (Gis_sound_outside : Dn P w K mg base 2 "is_sound_outside" ["thing"] spSnd) (Gholds_parts : Dn P w K mg base 1 "holds_parts" ["thing"] spHp) (Gparts_of_all : Dn P w K mg base 2 "parts_of_all" ["holders"] spPa) : FnOk P w K mg base CX0 3 f fd ["thing"] spTh := by
  refine F.ok scTh (fun vs H Q E h => ?_) (fun cdv A outer s H vs Q E hr h => ?_)
  · obtain ⟨v, u, rfl, _⟩ := h
    rfl
  obtain ⟨v, u, rfl, hv, hok, hz, q⟩ := h
  have nd := scTh.nd
  refine ⟨_, (pss_cons (ps_set (i := 1) nd rfl (Or.inl rfl) (pe_lst (pa_cons (pv 0) pa_nil)))
    (pss_cons (ps_set (i := 2) nd rfl (Or.inl rfl) pe_int)
    (pss_cons (ps_set (i := 3) nd rfl (Or.inl rfl) pe_int)
    (pss_cons (ps_while PassesOwn.never (pt_cmpR op_le (pv 3) (pe_gi rfl M.MOST_DEPTH) (nomark _)) (pss_cons (ps_aug (i := 2) nd rfl (Or.inl rfl) (pe_callB call_len_l rfl B.len bt_len (pa_cons (pv 1) pa_nil)) ip_add)
    (pss_cons (ps_if (PW.pt (pw_or (pt_cmpR op_gt (pv 2) (pe_gi rfl M.MOST_SIZE) (nomark _)) (pw_or1 (pt_not (pt_val (pe_callB (call_all rfl) rfl B.all bt_all (pa_cons (pe_comp (own := ["part"]) (F := []) ⟨rfl, by with_unfolding_all rfl, by with_unfolding_all rfl, by with_unfolding_all rfl, .nil⟩ rfl (pi_list (pv 1)) (fun _ _ _ _ => pg_name (i := 0) (by show (compN ["part"] []).Nodup; decide +kernel) rfl (Or.inl rfl)) (fun _ _ _ _ => pts_nil) (fun _ _ _ _ => (pe_cd Gis_sound_outside hr (by omega) rfl (pa_cons (pv 0) pa_nil)))) pa_nil))))))) (pss_one (ps_ret pe_bl)) pss_nil)
    (pss_cons (ps_comp (i := 4) nd rfl (Or.inl rfl) (own := ["part"]) (F := []) ⟨rfl, by with_unfolding_all rfl, by with_unfolding_all rfl, by with_unfolding_all rfl, .nil⟩ rfl (pi_list (pv 1)) (fun _ _ _ _ => pg_name (i := 0) (by show (compN ["part"] []).Nodup; decide +kernel) rfl (Or.inl rfl)) (fun _ _ _ _ => (pts_one (pt_val (pe_cd Gholds_parts hr (by omega) rfl (pa_cons (pv 0) pa_nil))))) (fun _ _ _ _ => (pv 0)))
    (pss_cons (ps_if (pt_not (pt_truth (pv 4) (fun _ => rfl))) (pss_one (ps_ret pe_bl)) pss_nil)
    (pss_cons (ps_set (i := 1) nd rfl (Or.inl rfl) (pe_cd Gparts_of_all hr (by omega) rfl (pa_cons (pv 4) pa_nil)))
    (pss_one (ps_aug (i := 3) nd rfl (Or.inl rfl) pe_int ip_add))))))))
    (pss_one (ps_ret pe_bl)))))), ?_⟩
  rw [show start ["thing", "level", "size", "depth", "holders"] [v] = [some v, none, none, none, none] from rfl]
  walk_at "rd2"
  intro p hp
  have g0 := same_new hp (.lst [v])
  refine ⟨fun m σ H2 => ∃ (i z : Nat) (a : Addr) (xs : List V) (us : List U) (o : Option V), m = 9 - i ∧ i ≤ 9 ∧ σ = [some v, some (V.ref a), some (V.int z), some (V.int i), o] ∧ Same H H2 ∧ H2 a = some (.lst xs) ∧ Rus H2 xs us ∧ U.oks us ∧ U.szs us ≤ 1000 ∧ z ≤ 1000 * i ∧ jd 9 0 [u] = jd (9 - i) z us, ?_⟩
  refine ⟨⟨9, 0, 0, p, [v], [u], none, rfl, by decide, rfl, g0, upd_same, ⟨v, [], rfl, hv.same g0, rfl⟩, ⟨hok, True.intro⟩, ?_, by decide, rfl⟩, ?_⟩
  · show U.sz u + 0 ≤ 1000
    omega
  rintro m σ H2 ⟨i, z, a, xs, us, o, rfl, hi, rfl, g, ha, hs, hoks, hsz, hzi, hj⟩
  have hxl := hs.length
  have hul := U.szs_len us
  walk_at "rd2"
  by_cases h8 : i ≤ 8
  · rw [if_pos (by omega)]
    obtain ⟨k, hk⟩ : ∃ k, 9 - i = k + 1 := ⟨8 - i, by omega⟩
    rw [hk] at hj
    refine ⟨fun σ' H' => ∃ (a' : Addr) (xs' : List V) (o' : Option V), σ' = [some v, some (V.ref a'), some (V.int ((z + us.length : Nat) : Int)), some (V.int ((i + 1 : Nat) : Int)), o'] ∧ Same H H' ∧ H' a' = some (.lst xs') ∧ Rus H' xs' (nextU us) ∧ jd 9 0 [u] = jd k (z + us.length) (nextU us), ?_, ?_⟩
    · rintro σ' H' ⟨a', xs', o', rfl, g', ha', hs', hj'⟩
      refine ⟨9 - (i + 1), by omega, i + 1, rfl, by omega, z + us.length, a', ⟨o', rfl⟩, g', xs', ha', nextU us, hs', next_oks hoks, Nat.le_trans (next_szs us) hsz, by omega, ?_⟩
      rw [show 9 - (i + 1) = k by omega]; exact hj'
    · walk_at "rd2"
      simp only [tAug, ipI]
      walk_at "rd2"
      refine ⟨xs, SqL.of ha, ?_⟩
      have ej : jd (k + 1) z us = if 200 < z + us.length ∨ us.all soundU = false then false else if us.any isH = false then true else jd k (z + us.length) (nextU us) := rfl
      rw [ej] at hj
      by_cases h200 : 200 < z + us.length
      · rw [if_pos (by rw [hxl]; omega)]
        have zq := q _ g
        rw [hj, if_pos (.inl h200)] at zq
        exact zq
      · rw [if_neg (by rw [hxl]; omega)]
        refine ⟨⟨xs, SqL.of ha⟩, comp_list (K := K) (xs := xs) (fun j ys H' => Same H2 H' ∧ ys = ((us.take j).map soundU).map V.bl) (by rw [sizeLine_eq]; omega) ⟨Same.refl _, rfl⟩ (fun j ys H' _ h => SqL.of (h.1 _ _ ha)) ?_ ?_⟩
        · rintro j x ys H' hx _ ⟨g3, rfl⟩
          obtain ⟨u', hu, hr'⟩ := hs.get hx
          have hm := List.mem_of_getElem? hu
          walk_at "rd2"
          refine ⟨x, u', rfl, hr'.same g3, U.oks_mem hoks hm, Nat.le_trans (U.szs_le hm) hsz, fun H4 g4 => ⟨g3.trans g4, ?_⟩⟩
          rw [take_succ_of hu, List.map_append, List.map_append]; rfl
        · rintro ys H' _ ⟨g3, rfl⟩ p1 hp1
          have g4 := g3.trans (same_new hp1 (.lst (((us.take xs.length).map soundU).map V.bl)))
          refine ⟨p1, rfl, _, SqL.of upd_same, ?_⟩
          rw [hxl, List.take_length] at g4 ⊢
          have eall : (us.map soundU).all id = us.all soundU := by rw [List.all_map]; rfl
          rw [eall]
          generalize upd H' p1 (.lst ((us.map soundU).map V.bl)) = H3 at g4 ⊢
          by_cases hall : us.all soundU = false
          · rw [if_pos hall]
            have zq := q _ (g.trans g4)
            rw [hj, if_pos (.inr hall)] at zq
            exact zq
          · rw [if_neg hall]
            rw [if_neg (fun h => h.elim h200 hall)] at hj
            have ha3 := g4 _ _ ha
            have hs3 := hs.same g4
            refine ⟨⟨xs, SqL.of ha3⟩, comp_list (K := K) (xs := xs) (fun j ys H' => Same H3 H' ∧ Rus H3 ys ((us.take j).filter isH)) (by rw [sizeLine_eq]; omega) ⟨Same.refl _, rfl⟩ (fun j ys H' _ h => SqL.of (h.1 _ _ ha3)) ?_ ?_⟩
            · rintro j x ys H' hx _ ⟨g5, hys⟩
              obtain ⟨u', hu, hr'⟩ := hs3.get hx
              walk_at "rd2"
              refine ⟨x, u', rfl, hr'.same g5, fun H4 g6 => ⟨isH u', rfl, ?_⟩⟩
              rw [take_succ_of hu, List.filter_append]
              cases hh : isH u' with
              | true =>
                rw [if_pos rfl, List.filter_cons_of_pos hh]
                exact ⟨g5.trans g6, hys.snoc hr'⟩
              | false =>
                rw [if_neg (by decide), List.filter_cons_of_neg (by rw [hh]; decide), List.filter_nil, List.append_nil]
                exact ⟨g5.trans g6, hys⟩
            · rintro ys H' _ ⟨g5, hys⟩ p2 hp2
              rw [hxl, List.take_length] at hys
              have g6 := g5.trans (same_new hp2 (.lst ys))
              have hyl := hys.length
              refine ⟨!ys.isEmpty, .inl ⟨ys, SqL.of upd_same, rfl⟩, ?_⟩
              have eany : (!ys.isEmpty) = us.any isH := by
                have e1 : ys.isEmpty = (us.filter isH).isEmpty := by
                  cases ys with
                  | nil => cases hf : us.filter isH with
                    | nil => rfl
                    | cons _ _ => rw [hf] at hyl; cases hyl
                  | cons _ _ => cases hf : us.filter isH with
                    | nil => rw [hf] at hyl; cases hyl
                    | cons _ _ => rfl
                rw [e1, Bool.eq_iff_iff, List.any_eq_true]
                cases hf : us.filter isH with
                | nil =>
                  simp only [List.isEmpty_nil, Bool.not_true, Bool.false_eq_true, false_iff]
                  rintro ⟨x, h1, h2⟩
                  have : x ∈ us.filter isH := List.mem_filter.mpr ⟨h1, h2⟩
                  rw [hf] at this; cases this
                | cons x r =>
                  have : x ∈ us.filter isH := by rw [hf]; exact List.mem_cons_self
                  have := List.mem_filter.mp this
                  exact ⟨fun _ => ⟨x, this.1, this.2⟩, fun _ => rfl⟩
              rw [eany]
              have hp2' : upd H' p2 (.lst ys) p2 = some (.lst ys) := upd_same
              generalize upd H' p2 (.lst ys) = H4 at g6 hp2' ⊢
              cases hany : us.any isH with
              | false =>
                rw [if_pos rfl]
                have zq := q _ (g.trans (g4.trans g6))
                rw [hj, if_pos hany] at zq
                exact zq
              | true =>
                rw [if_neg (by decide)]
                rw [if_neg (by rw [hany]; decide)] at hj
                have hszf := szs_filter us
                refine ⟨p2, ys, us.filter isH, rfl, hp2', hys.same g6, fun u' hu' => (List.mem_filter.mp hu').2, by omega, fun l zs H5 g7 hl hz' => ?_⟩
                rw [next_filter] at hz'
                refine ⟨_, rfl, _, _, rfl, rfl, l, ⟨some (V.ref p2), ?_⟩, g.trans (g4.trans (g6.trans g7)), zs, hl, hz', hj⟩
                simp only [List.set_cons_zero, List.set_cons_succ, hxl, Int.natCast_add, Int.cast_ofNat_Int]
  · rw [if_neg (by omega)]
    have e9 : 9 - i = 0 := by omega
    rw [e9] at hj
    have zq := q _ g
    rw [hj] at zq
    exact zq
end
end K41
namespace K41
open PySem L2
local macro_rules | `(tactic| walk_at "rd") => `(tactic| simp only [cxOf_K, nox_K, compCx_K, tSeq, tNext, tAsg, gName, tRet, tRetN, tIfS, tDrop, tOp, tUn, tVar, tC, tCall, tCons, tNil, tTest, tB, tAnd, tOr, tNot, tAndV, tOrV, tNotV, tIf, tCB, tBM, tComp, tTrue, tPart, tNoPart, tSl, tChain, tIsN, tNotN, tLst, tTup, tFor_eq, sDPut, tDNewK, tNever, rI0, rI, rU, rEq, rNe, rMulS, rInC, iRng1, iStr, CDiv, CMul, CPow, scal, List.append_nil, List.getElem?_cons_zero, List.getElem?_cons_succ, List.set_cons_zero, List.set_cons_succ, List.map_cons, List.map_nil, List.length_cons, List.length_nil, sizeLine_eq, Nat.reduceAdd, Nat.reduceLeDiff, Option.join_some, Option.join_none, Option.some.injEq, V.int.injEq, V.str.injEq, V.bl.injEq, V.ref.injEq, V.ty.injEq, List.cons.injEq, and_true, true_and, and_self, exists_eq_left', exists_eq_left, exists_and_left, exists_and_right, decide_eq_true_eq, Bool.not_eq_eq_eq_not, Bool.not_true, Bool.not_false, decide_eq_false_iff_not, Int.reduceLT, Int.reduceLE, Int.reduceNeg, Int.reducePow, Int.reduceAdd, Int.reduceSub, Int.reduceMul, Int.reduceToNat, natAbs10, Nat.reduceLT, Nat.reducePow, or_true, true_or, if_true, if_false, Bool.false_eq_true, ite_true, ite_false, reduceCtorEq])
local macro_rules | `(tactic| walk_at "rd3") => `(tactic| simp only [gTup, gCons, gNil, iZip, tIsT, tDisp, tPairs, tBM0, iList, iDict, tThaw, tMaxD, rMaxD, tDGet, rVals, tComp, cxOf_K, nox_K, compCx_K, tSeq, tNext, tAsg, gName, tRet, tRetN, tIfS, tDrop, tOp, tUn, tVar, tC, tCall, tCons, tNil, tTest, tB, tAnd, tOr, tNot, tAndV, tOrV, tNotV, tIf, tCB, tBM, tComp, tTrue, tPart, tNoPart, tSl, tChain, tIsN, tNotN, tLst, tTup, tFor_eq, sDPut, tDNewK, tNever, rI0, rI, rU, rEq, rNe, rMulS, rInC, iRng1, iStr, CDiv, CMul, CPow, scal, List.append_nil, List.getElem?_cons_zero, List.getElem?_cons_succ, List.set_cons_zero, List.set_cons_succ, List.map_cons, List.map_nil, List.length_cons, List.length_nil, sizeLine_eq, Nat.reduceAdd, Nat.reduceLeDiff, Option.join_some, Option.join_none, Option.some.injEq, V.int.injEq, V.str.injEq, V.bl.injEq, V.ref.injEq, V.ty.injEq, List.cons.injEq, and_true, true_and, and_self, exists_eq_left', exists_eq_left, exists_and_left, exists_and_right, decide_eq_true_eq, Bool.not_eq_eq_eq_not, Bool.not_true, Bool.not_false, decide_eq_false_iff_not, Int.reduceLT, Int.reduceLE, Int.reduceNeg, Int.reducePow, Int.reduceAdd, Int.reduceSub, Int.reduceMul, Int.reduceToNat, natAbs10, Nat.reduceLT, Nat.reducePow, or_true, true_or, if_true, if_false, Bool.false_eq_true, ite_true, ite_false, reduceCtorEq])
seal L2.PSs L2.PS L2.PE L2.PT L2.PW L2.PA L2.PI L2.PG L2.PGs L2.PPs L2.PTs
mutual
def T.gd : T → Prop
  | .str x => x.length ≤ 1000 ∧ ∀ c ∈ x, c ∈ sgnL ∨ c = 9 ∨ c = 10
  | .lst us => T.gds us
  | .tup us => T.gds us
  | .dic ks us => ks.Nodup ∧ ks.length = us.length ∧ (∀ k ∈ ks, k.length ≤ 1000) ∧ T.gds us
  | .non => True
  | .bl _ => True
  | .int _ => True
def T.gds : List T → Prop
  | [] => True
  | u :: us => T.gd u ∧ T.gds us
end
theorem T.gds_mem {t : T} : ∀ {ts : List T}, T.gds ts → t ∈ ts → T.gd t
  | [], _, h => nomatch h
  | u :: ts, h, hm => (List.mem_cons.mp hm).elim (fun e => e ▸ h.1) (T.gds_mem h.2)
theorem T.gds_of : ∀ {ts : List T}, (∀ t ∈ ts, T.gd t) → T.gds ts
  | [], _ => True.intro
  | _ :: _, h => ⟨h _ List.mem_cons_self, T.gds_of fun u hu => h u (List.mem_cons_of_mem _ hu)⟩
mutual
def okT : T → Bool
  | .non => true
  | .bl _ => true
  | .int i => decide (-(10 ^ 12) ≤ i ∧ i ≤ 10 ^ 12)
  | .str x => decide (x.length ≤ 30) && x.all fun c => decide (c ∈ sgnL)
  | .tup _ => false
  | .lst ts => decide (ts.length ≤ 60) && okTs ts
  | .dic ks ts => (decide (ks.length ≤ 30) && ks.all okName) && okTs ts
def okTs : List T → Bool
  | [] => true
  | t :: ts => okT t && okTs ts
end
def thingT (t : T) : Bool := okT t && decide (T.dep t ≤ 8) && decide (T.sz t ≤ 200)
mutual
def okU : U → Bool
  | .leaf v => leafOk v
  | .lst us => decide (us.length ≤ 60) && okUs us
  | .dic ks us => (decide (ks.length ≤ 30) && ks.all fun k => nameV (kV k)) && okUs us
def okUs : List U → Bool
  | [] => true
  | u :: us => okU u && okUs us
end
mutual
def Em : T → U → Prop
  | .non, u => u = .leaf .non
  | .bl b, u => u = .leaf (.bl b)
  | .int i, u => u = .leaf (.int i)
  | .str x, u => u = .leaf (.str (tx x))
  | .tup _, u => ∃ a, u = .leaf (.ref a)
  | .lst ts, u => ∃ us, u = .lst us ∧ Ems ts us
  | .dic ks ts, u => ∃ us, u = .dic (ks.map nK) us ∧ Ems ts us
def Ems : List T → List U → Prop
  | [], us => us = []
  | t :: ts, us => ∃ u r, us = u :: r ∧ Em t u ∧ Ems ts r
end
theorem Ems.length : ∀ {ts : List T} {us : List U}, Ems ts us → us.length = ts.length
  | [], us, h => by
    have h' : us = [] := h
    rw [h']; rfl
  | t :: ts, us, ⟨u, r, e, _, h⟩ => by
    rw [e, List.length_cons, List.length_cons, Ems.length h]
mutual
theorem em_of {H : Hp} : ∀ (v : V) (t : T), Rep H v t → T.gd t → ∃ u, Ru H v u ∧ Em t u ∧ U.ok u ∧ U.sz u ≤ T.sz t
  | v, .non, h, _ => ⟨.leaf .non, ⟨h, .inl rfl⟩, rfl, (fun x e => by cases e), Nat.le_refl _⟩
  | v, .bl b, h, _ => ⟨.leaf (.bl b), ⟨h, .inl rfl⟩, rfl, (fun x e => by cases e), Nat.le_refl _⟩
  | v, .int i, h, _ => ⟨.leaf (.int i), ⟨h, .inl rfl⟩, rfl, (fun x e => by cases e), Nat.le_refl _⟩
  | v, .str x, h, g => ⟨.leaf (.str (tx x)), ⟨h, .inl rfl⟩, rfl, (fun y e => by cases e; rw [tx_len]; exact g.1), Nat.le_refl _⟩
  | v, .tup ts, ⟨a, vs, e, h, hs⟩, _ => ⟨.leaf (.ref a), ⟨e, .inr ⟨a, vs, rfl, h⟩⟩, ⟨a, rfl⟩, (fun y e => by cases e), Nat.succ_le_succ (Nat.zero_le _)⟩
  | v, .lst ts, ⟨a, vs, e, h, hs⟩, g => by
    obtain ⟨us, h1, h2, h3, h4⟩ := ems_of vs ts hs g
    exact ⟨.lst us, ⟨a, vs, e, h, h1⟩, ⟨us, rfl, h2⟩, h3, Nat.succ_le_succ h4⟩
  | v, .dic ks ts, ⟨a, ps, e, h, hk, hs⟩, g => by
    obtain ⟨us, h1, h2, h3, h4⟩ := ems_of _ ts hs g.2.2.2
    refine ⟨.dic (ks.map nK) us, ⟨a, ps, e, .inl h, hk, h1⟩, ⟨us, rfl, h2⟩, ⟨nodup_nK g.1, ?_, ?_, h3⟩, Nat.succ_le_succ h4⟩
    · rw [List.length_map, g.2.1, h2.length]
    · intro x hx
      obtain ⟨k, hk', e'⟩ := List.mem_map.mp hx
      have e2 : tx k = x := Sum.inr.inj e'
      rw [← e2, tx_len]
      exact g.2.2.1 k hk'
theorem ems_of {H : Hp} : ∀ (vs : List V) (ts : List T), Reps H vs ts → T.gds ts → ∃ us, Rus H vs us ∧ Ems ts us ∧ U.oks us ∧ U.szs us ≤ T.szs ts
  | vs, [], h, _ => ⟨[], h, rfl, True.intro, Nat.le_refl _⟩
  | _, t :: ts, ⟨v, r, e, h1, h2⟩, g => by
    obtain ⟨u, a1, a2, a3, a4⟩ := em_of v t h1 g.1
    obtain ⟨us, b1, b2, b3, b4⟩ := ems_of r ts h2 g.2
    exact ⟨u :: us, ⟨v, r, e, a1, b1⟩, ⟨u, us, rfl, a2, b2⟩, ⟨a3, b3⟩, Nat.add_le_add a4 b4⟩
end
theorem names_ok (ks : List (List Nat)) : ((ks.map nK).all fun k => nameV (kV k)) = ks.all okName := by
  rw [List.all_map]
  congr 1
mutual
theorem em_ok : ∀ (t : T) (u : U), Em t u → okU u = okT t ∧ (okT t = true → U.dep u = T.dep t ∧ U.sz u = T.sz t)
  | .non, u, h => by rw [show u = _ from h]; exact ⟨rfl, fun _ => ⟨rfl, rfl⟩⟩
  | .bl _, u, h => by rw [show u = _ from h]; exact ⟨rfl, fun _ => ⟨rfl, rfl⟩⟩
  | .int _, u, h => by rw [show u = _ from h]; exact ⟨rfl, fun _ => ⟨rfl, rfl⟩⟩
  | .str x, u, h => by
    rw [show u = _ from h]
    refine ⟨?_, fun _ => ⟨rfl, rfl⟩⟩
    show (decide ((tx x).length ≤ 30) && (ts (tx x)).all fun c => decide (c ∈ sgnL)) = _
    rw [tx_len, ts_tx]; rfl
  | .tup _, u, ⟨a, e⟩ => by rw [e]; exact ⟨rfl, fun h => nomatch h⟩
  | .lst ts, u, ⟨us, e, h⟩ => by
    obtain ⟨a, b⟩ := ems_ok ts us h
    rw [e]
    refine ⟨?_, fun z => ?_⟩
    · show (decide (us.length ≤ 60) && okUs us) = (decide (ts.length ≤ 60) && okTs ts)
      rw [h.length, a]
    · have z' : (decide (ts.length ≤ 60) && okTs ts) = true := z
      rw [Bool.and_eq_true] at z'
      obtain ⟨b1, b2⟩ := b z'.2
      exact ⟨congrArg Nat.succ b1, congrArg Nat.succ b2⟩
  | .dic ks ts, u, ⟨us, e, h⟩ => by
    obtain ⟨a, b⟩ := ems_ok ts us h
    rw [e]
    refine ⟨?_, fun z => ?_⟩
    · show ((decide ((ks.map nK).length ≤ 30) && (ks.map nK).all fun k => nameV (kV k)) && okUs us) = ((decide (ks.length ≤ 30) && ks.all okName) && okTs ts)
      rw [List.length_map, names_ok, a]
    · have z' : ((decide (ks.length ≤ 30) && ks.all okName) && okTs ts) = true := z
      rw [Bool.and_eq_true] at z'
      obtain ⟨b1, b2⟩ := b z'.2
      exact ⟨congrArg Nat.succ b1, congrArg Nat.succ b2⟩
theorem ems_ok : ∀ (ts : List T) (us : List U), Ems ts us → okUs us = okTs ts ∧ (okTs ts = true → U.deps us = T.deps ts ∧ U.szs us = T.szs ts)
  | [], us, h => by rw [show us = _ from h]; exact ⟨rfl, fun _ => ⟨rfl, rfl⟩⟩
  | t :: ts, us, ⟨u, r, e, h1, h2⟩ => by
    obtain ⟨a1, a2⟩ := em_ok t u h1
    obtain ⟨b1, b2⟩ := ems_ok ts r h2
    rw [e]
    refine ⟨?_, fun z => ?_⟩
    · show (okU u && okUs r) = (okT t && okTs ts)
      rw [a1, b1]
    · have z' : (okT t && okTs ts) = true := z
      rw [Bool.and_eq_true] at z'
      obtain ⟨c1, c2⟩ := a2 z'.1
      obtain ⟨d1, d2⟩ := b2 z'.2
      exact ⟨by show max (U.dep u) (U.deps r) = max (T.dep t) (T.deps ts); rw [c1, d1], by show U.sz u + U.szs r = T.sz t + T.szs ts; rw [c2, d2]⟩
end
theorem okUs_app : ∀ (a b : List U), okUs (a ++ b) = (okUs a && okUs b)
  | [], b => rfl
  | u :: a, b => by
    show (okU u && okUs (a ++ b)) = ((okU u && okUs a) && okUs b)
    rw [okUs_app a b, Bool.and_assoc]
theorem deps_app : ∀ (a b : List U), U.deps (a ++ b) = max (U.deps a) (U.deps b)
  | [], b => by show U.deps b = max 0 (U.deps b); omega
  | u :: a, b => by
    show max (U.dep u) (U.deps (a ++ b)) = max (max (U.dep u) (U.deps a)) (U.deps b)
    rw [deps_app a b]; omega
theorem okU_kids : ∀ u : U, okU u = (soundU u && okUs (kids u))
  | .leaf v => by show leafOk v = (leafOk v && true); rw [Bool.and_true]
  | .lst us => rfl
  | .dic ks us => rfl
theorem okUs_next : ∀ us : List U, okUs us = (us.all soundU && okUs (nextU us))
  | [] => rfl
  | u :: us => by
    have e : nextU (u :: us) = kids u ++ nextU us := rfl
    show (okU u && okUs us) = ((soundU u && us.all soundU) && okUs (nextU (u :: us)))
    rw [e, okUs_app, okU_kids u, okUs_next us]
    cases soundU u <;> cases us.all soundU <;> cases okUs (kids u) <;> cases okUs (nextU us) <;> rfl
theorem szs_next : ∀ us : List U, U.szs us = us.length + U.szs (nextU us)
  | [] => rfl
  | u :: us => by
    have e : nextU (u :: us) = kids u ++ nextU us := rfl
    have ih := szs_next us
    rw [e, U.szs_append]
    show U.sz u + U.szs us = us.length + 1 + (U.szs (kids u) + U.szs (nextU us))
    rw [ih]
    cases u with
    | leaf v => show 1 + _ = _ + (0 + _); omega
    | lst ws => show U.szs ws + 1 + _ = _ + (U.szs ws + _); omega
    | dic ks ws => show U.szs ws + 1 + _ = _ + (U.szs ws + _); omega
theorem deps_next : ∀ us : List U, U.deps us = if us.any isH = true then U.deps (nextU us) + 1 else 0
  | [] => rfl
  | u :: us => by
    have e : nextU (u :: us) = kids u ++ nextU us := rfl
    have ih := deps_next us
    show max (U.dep u) (U.deps us) = if (isH u || us.any isH) = true then U.deps (nextU (u :: us)) + 1 else 0
    rw [e, deps_app, ih]
    cases u with
    | leaf v =>
      show max 0 _ = if (false || us.any isH) = true then max 0 (U.deps (nextU us)) + 1 else 0
      rw [Bool.false_or]
      split <;> omega
    | lst ws =>
      show max (U.deps ws + 1) _ = if (true || us.any isH) = true then max (U.deps ws) (U.deps (nextU us)) + 1 else 0
      rw [Bool.true_or, if_pos rfl]
      split
      · omega
      · rename_i h
        have hn : nextU us = [] := by
          clear ih e
          induction us with
          | nil => rfl
          | cons x r ihr =>
            rw [List.any_cons, Bool.or_eq_true, not_or] at h
            have e : nextU (x :: r) = kids x ++ nextU r := rfl
            rw [e, ihr h.2]
            cases x with
            | leaf v => rfl
            | lst ws => exact absurd rfl h.1
            | dic ks ws => exact absurd rfl h.1
        rw [hn]; show max (U.deps ws + 1) 0 = max (U.deps ws) 0 + 1; omega
    | dic ks ws =>
      show max (U.deps ws + 1) _ = if (true || us.any isH) = true then max (U.deps ws) (U.deps (nextU us)) + 1 else 0
      rw [Bool.true_or, if_pos rfl]
      split
      · omega
      · rename_i h
        have hn : nextU us = [] := by
          clear ih e
          induction us with
          | nil => rfl
          | cons x r ihr =>
            rw [List.any_cons, Bool.or_eq_true, not_or] at h
            have e : nextU (x :: r) = kids x ++ nextU r := rfl
            rw [e, ihr h.2]
            cases x with
            | leaf v => rfl
            | lst ws => exact absurd rfl h.1
            | dic ks ws => exact absurd rfl h.1
        rw [hn]; show max (U.deps ws + 1) 0 = max (U.deps ws) 0 + 1; omega
theorem next_nil {us : List U} (h : us.any isH = false) : nextU us = [] := by
  induction us with
  | nil => rfl
  | cons x r ihr =>
    rw [List.any_cons, Bool.or_eq_false_iff] at h
    have e : nextU (x :: r) = kids x ++ nextU r := rfl
    rw [e, ihr h.2]
    cases x with
    | leaf v => rfl
    | lst ws => cases h.1
    | dic ks ws => cases h.1
theorem jd_iff : ∀ (n z : Nat) (us : List U), jd n z us = true ↔ okUs us = true ∧ U.deps us < n ∧ z + U.szs us ≤ 200
  | 0, z, us => by
    constructor
    · intro h; cases h
    · intro h; exact absurd h.2.1 (Nat.not_lt_zero _)
  | n + 1, z, us => by
    have ih := jd_iff n (z + us.length) (nextU us)
    have e1 := okUs_next us
    have e2 := szs_next us
    have e3 := deps_next us
    unfold jd
    by_cases c1 : 200 < z + us.length ∨ us.all soundU = false
    · rw [if_pos c1]
      constructor
      · intro h; cases h
      · rintro ⟨h1, h2, h3⟩
        rcases c1 with c | c
        · omega
        · rw [e1, c] at h1; cases h1
    · rw [if_neg c1]
      rw [not_or, Bool.not_eq_false] at c1
      by_cases c2 : us.any isH = false
      · rw [if_pos c2]
        rw [next_nil c2] at e1 e2
        rw [c2] at e3
        rw [if_neg (by decide)] at e3
        constructor
        · intro _
          refine ⟨by rw [e1, c1.2]; rfl, by omega, ?_⟩
          have : U.szs ([] : List U) = 0 := rfl
          omega
        · intro _; rfl
      · rw [if_neg c2, ih]
        rw [Bool.not_eq_false] at c2
        rw [c2, if_pos rfl] at e3
        rw [c1.2, Bool.true_and] at e1
        rw [e1, e2, e3]
        constructor
        · rintro ⟨a, b, c⟩; exact ⟨a, by omega, by omega⟩
        · rintro ⟨a, b, c⟩; exact ⟨a, by omega, by omega⟩
theorem jd_thing {t : T} {u : U} (h : Em t u) : jd 9 0 [u] = thingT t := by
  obtain ⟨a, b⟩ := em_ok t u h
  rw [Bool.eq_iff_iff, jd_iff]
  have e1 : okUs [u] = okU u := by show (okU u && true) = _; rw [Bool.and_true]
  have e2 : U.deps [u] = U.dep u := by show max (U.dep u) 0 = _; omega
  have e3 : U.szs [u] = U.sz u := by show U.sz u + 0 = _; omega
  unfold thingT
  rw [e1, e2, e3, a, Bool.and_eq_true, Bool.and_eq_true, decide_eq_true_eq, decide_eq_true_eq]
  constructor
  · rintro ⟨x, y, z⟩
    obtain ⟨d, s⟩ := b x
    exact ⟨⟨x, by omega⟩, by omega⟩
  · rintro ⟨⟨x, y⟩, z⟩
    obtain ⟨d, s⟩ := b x
    exact ⟨x, by omega, by omega⟩
def spThT : Sp := fun vs H Q _ => ∃ (v : V) (t : T), vs = [v] ∧ Rep H v t ∧ T.gd t ∧ T.sz t ≤ 1000 ∧ ∀ H', Same H H' → Q (.bl (thingT t)) H'
theorem th_T {P : Program} {w : World} {K : PySem.W.Frag} {mg : Str → Option Value} {base : Heap} {f : Addr} {fd : FuncData} {k : Nat} {ps : List Str} (h : FnOk P w K mg base CX0 k f fd ps spTh) : FnOk P w K mg base CX0 k f fd ps spThT :=
  h.imp fun vs H Q E ⟨v, t, e, hv, g, hz, q⟩ => by
    obtain ⟨u, a1, a2, a3, a4⟩ := em_of v t hv g
    refine ⟨v, u, e, a1, a3, by omega, fun H' g' => ?_⟩
    rw [jd_thing a2]
    exact q H' g'
end K41
namespace K41
open PySem L2
local macro_rules | `(tactic| walk_at "rd") => `(tactic| simp only [cxOf_K, nox_K, compCx_K, tSeq, tNext, tAsg, gName, tRet, tRetN, tIfS, tDrop, tOp, tUn, tVar, tC, tCall, tCons, tNil, tTest, tB, tAnd, tOr, tNot, tAndV, tOrV, tNotV, tIf, tCB, tBM, tComp, tTrue, tPart, tNoPart, tSl, tChain, tIsN, tNotN, tLst, tTup, tFor_eq, sDPut, tDNewK, tNever, rI0, rI, rU, rEq, rNe, rMulS, rInC, iRng1, iStr, CDiv, CMul, CPow, scal, List.append_nil, List.getElem?_cons_zero, List.getElem?_cons_succ, List.set_cons_zero, List.set_cons_succ, List.map_cons, List.map_nil, List.length_cons, List.length_nil, sizeLine_eq, Nat.reduceAdd, Nat.reduceLeDiff, Option.join_some, Option.join_none, Option.some.injEq, V.int.injEq, V.str.injEq, V.bl.injEq, V.ref.injEq, V.ty.injEq, List.cons.injEq, and_true, true_and, and_self, exists_eq_left', exists_eq_left, exists_and_left, exists_and_right, decide_eq_true_eq, Bool.not_eq_eq_eq_not, Bool.not_true, Bool.not_false, decide_eq_false_iff_not, Int.reduceLT, Int.reduceLE, Int.reduceNeg, Int.reducePow, Int.reduceAdd, Int.reduceSub, Int.reduceMul, Int.reduceToNat, natAbs10, Nat.reduceLT, Nat.reducePow, or_true, true_or, if_true, if_false, Bool.false_eq_true, ite_true, ite_false, reduceCtorEq])
local macro_rules | `(tactic| walk_at "rd3") => `(tactic| simp only [gTup, gCons, gNil, iZip, tIsT, tDisp, tPairs, tBM0, iList, iDict, tThaw, tMaxD, rMaxD, tDGet, rVals, tComp, cxOf_K, nox_K, compCx_K, tSeq, tNext, tAsg, gName, tRet, tRetN, tIfS, tDrop, tOp, tUn, tVar, tC, tCall, tCons, tNil, tTest, tB, tAnd, tOr, tNot, tAndV, tOrV, tNotV, tIf, tCB, tBM, tComp, tTrue, tPart, tNoPart, tSl, tChain, tIsN, tNotN, tLst, tTup, tFor_eq, sDPut, tDNewK, tNever, rI0, rI, rU, rEq, rNe, rMulS, rInC, iRng1, iStr, CDiv, CMul, CPow, scal, List.append_nil, List.getElem?_cons_zero, List.getElem?_cons_succ, List.set_cons_zero, List.set_cons_succ, List.map_cons, List.map_nil, List.length_cons, List.length_nil, sizeLine_eq, Nat.reduceAdd, Nat.reduceLeDiff, Option.join_some, Option.join_none, Option.some.injEq, V.int.injEq, V.str.injEq, V.bl.injEq, V.ref.injEq, V.ty.injEq, List.cons.injEq, and_true, true_and, and_self, exists_eq_left', exists_eq_left, exists_and_left, exists_and_right, decide_eq_true_eq, Bool.not_eq_eq_eq_not, Bool.not_true, Bool.not_false, decide_eq_false_iff_not, Int.reduceLT, Int.reduceLE, Int.reduceNeg, Int.reducePow, Int.reduceAdd, Int.reduceSub, Int.reduceMul, Int.reduceToNat, natAbs10, Nat.reduceLT, Nat.reducePow, or_true, true_or, if_true, if_false, Bool.false_eq_true, ite_true, ite_false, reduceCtorEq])
seal L2.PSs L2.PS L2.PE L2.PT L2.PW L2.PA L2.PI L2.PG L2.PGs L2.PPs L2.PTs
abbrev sInner : Stmt := top 33
abbrev sDepth : Stmt := top 34
abbrev sSize : Stmt := top 35
abbrev sNarrow : Stmt := top 36
mutual
def ldep : T → Nat
  | .lst us => ldeps us + 1
  | .dic _ us => ldeps us + 1
  | .tup _ => 0
  | .non => 0
  | .bl _ => 0
  | .int _ => 0
  | .str _ => 0
def ldeps : List T → Nat
  | [] => 0
  | u :: us => max (ldep u) (ldeps us)
end
mutual
def lsz : T → Nat
  | .lst us => lszs us + 1
  | .dic _ us => lszs us + 1
  | .tup _ => 1
  | .non => 1
  | .bl _ => 1
  | .int _ => 1
  | .str _ => 1
def lszs : List T → Nat
  | [] => 0
  | u :: us => lsz u + lszs us
end
mutual
def lnar : T → Bool
  | .lst us => decide (us.length ≤ 60) && lnars us
  | .dic ks us => decide (ks.length ≤ 30) && lnars us
  | .tup _ => true
  | .non => true
  | .bl _ => true
  | .int _ => true
  | .str _ => true
def lnars : List T → Bool
  | [] => true
  | u :: us => lnar u && lnars us
end
def kidsT : T → List T
  | .lst us => us
  | .dic _ us => us
  | _ => []
def isHT : T → Bool
  | .lst _ => true
  | .dic _ _ => true
  | _ => false
theorem mx_fold : ∀ (l : List T) (b : Nat), ((l.map fun t => (ldep t : Int)).foldl mxI (b : Int)) = ((max b (ldeps l) : Nat) : Int)
  | [], b => by
    show (b : Int) = ((max b 0 : Nat) : Int)
    omega
  | u :: l, b => by
    have e : mxI (b : Int) (ldep u : Int) = ((max b (ldep u) : Nat) : Int) := by
      unfold mxI
      by_cases h : ldep u > b
      · rw [if_pos (by omega), Nat.max_eq_right (by omega)]
      · rw [if_neg (by omega), Nat.max_eq_left (by omega)]
    rw [List.map_cons, List.foldl_cons, e, mx_fold l, Nat.max_assoc]
    rfl
theorem mx_l (us : List T) : mxD 0 (us.map fun t => (ldep t : Int)) = (ldeps us : Int) := by
  cases us with
  | nil => rfl
  | cons u us => exact mx_fold us (ldep u)
theorem sum_l : ∀ us : List T, (us.map fun t => (lsz t : Int)).sum = (lszs us : Int)
  | [] => rfl
  | u :: us => by
    rw [List.map_cons, List.sum_cons, sum_l us]
    show (lsz u : Int) + (lszs us : Int) = ((lsz u + lszs us : Nat) : Int)
    omega
theorem all_l : ∀ us : List T, (us.map lnar).all id = lnars us
  | [] => rfl
  | u :: us => by
    rw [List.map_cons, List.all_cons, all_l us]; rfl
theorem ty_hT (t : T) : (isSub (tyT t) "list" || isSub (tyT t) "dict") = isHT t := by
  cases t <;> (simp only [tyT, isHT]; decide +kernel)
theorem kid_all {t : T} (h : isHT t = true) : T.dep t = T.deps (kidsT t) + 1 ∧ T.sz t = T.szs (kidsT t) + 1 ∧ ldep t = ldeps (kidsT t) + 1 ∧ lsz t = lszs (kidsT t) + 1 := by
  cases t <;> first | exact ⟨rfl, rfl, rfl, rfl⟩ | cases h
theorem kid_gd {t : T} (h : isHT t = true) (g : T.gd t) : T.gds (kidsT t) := by
  cases t with
  | lst us => exact g
  | dic ks us => exact g.2.2.2
  | _ => cases h
theorem no_kid {t : T} (h : isHT t = false) : ldep t = 0 ∧ lsz t = 1 ∧ lnar t = true := by
  cases t <;> first | exact ⟨rfl, rfl, rfl⟩ | cases h
section
variable {P : Program} {w : World} {K : PySem.W.Frag} {mg : Str → Option Value} {base : Heap} {f : Addr} {fd : FuncData}
def spInner : Sp := fun vs H Q _ => ∃ (v : V) (t : T), vs = [v] ∧ Rep H v t ∧ T.gd t ∧ isHT t = true ∧ T.sz t ≤ 1000 ∧ ∀ l ys H', Same H H' → H' l = some (.lst ys) → Reps H' ys (kidsT t) → Q (.ref l) H'
theorem scInner : FnScope ["_law_thing"] ["_law_thing"] (defScope sInner) := ⟨rfl, rfl, rfl, by decide +kernel, rfl, by decide +kernel, by decide +kernel⟩
theorem ok_inner (F : Fun K "_law_inner" "_law_inner" sInner f fd) (B : Bl mg) : FnOk P w K mg base CX0 1 f fd ["_law_thing"] spInner := by
  refine F.ok scInner (fun vs H Q E h => ?_) (fun cdv A outer s H vs Q E hr h => ?_)
  · obtain ⟨v, t, rfl, _⟩ := h
    rfl
  obtain ⟨v, t, rfl, hv, hg, hh, hz, q⟩ := h
  have nd := scInner.nd
  have hu := hu_of hr
  refine ⟨_, (pss_cons (ps_if (pt_val (pe_callB (call_isi (T := "dict") (by decide)) rfl B.isinstance bt_isinstance (pa_cons (pv 0) (pa_cons (pe_bltn (v := .ty "dict") rfl B.dict bt_dict rfl) pa_nil)))) (pss_one (ps_ret (pe_thaw (pe_comp (own := ["_law_name"]) (F := [("_law_thing", 0)]) ⟨rfl, by with_unfolding_all rfl, by with_unfolding_all rfl, by with_unfolding_all rfl, (.cons rfl rfl rfl .nil)⟩ rfl (pi_dict (pv 0)) (fun _ _ _ _ => pg_name (i := 0) (by show (compN ["_law_name"] [("_law_thing", 0)]).Nodup; decide +kernel) rfl (Or.inl rfl)) (fun _ _ _ _ => pts_nil) (fun _ _ _ _ => (pe_dget hu (pv 1) (pv 0) (fun _ _ => rfl))))))) pss_nil)
    (pss_one (ps_ret (pv 0)))), ?_⟩
  rw [show start ["_law_thing"] [v] = [some v] from rfl]
  walk_at "rd3"
  refine ⟨_, hv.ty, ?_⟩
  cases t with
  | lst us =>
    obtain ⟨a, xs, rfl, ha, hx⟩ := hv
    exact iN (show ¬ isSub "list" "dict" = true by decide +kernel) (q a xs H (Same.refl _) ha hx)
  | dic ks us =>
    obtain ⟨d, ps, rfl, hdd, hk, hs⟩ := hv
    have hl0 := T.szs_len us
    have hz' : T.szs us + 1 ≤ 1000 := hz
    have hpl : ps.length = us.length := by have := hs.length; rwa [List.length_map] at this
    have nkp : (ps.map (·.1)).Nodup := by rw [hk]; exact nodup_nK hg.1
    refine iP (show isSub "dict" "dict" = true by decide +kernel) ?_
    refine ⟨d, rfl, ps, .inl ⟨hdd, fun o => ?_⟩⟩
    have hsf : Reps (upd H d (.frz o (.dK ps))) (ps.map (·.2)) us := Reps.dic_away hdd hk hs
    refine comp_dict (fun i ys H' => Same (upd H d (.frz o (.dK ps))) H' ∧ ys = (ps.take i).map (·.2)) (by rw [sizeLine_eq]; omega) ⟨Same.refl _, rfl⟩ (fun i ys H' h => h.1 _ _ upd_same) ?_ ?_
    · rintro i kv ys H' hkv _ ⟨g, rfl⟩
      walk_at "rd3"
      refine ⟨kv.2, .inl ⟨ps, kv.1, .inr ⟨o, g _ _ upd_same⟩, rfl, (valV_ix nkp hkv).symm⟩, g, ?_⟩
      rw [take_succ_of hkv, List.map_append]; rfl
    · rintro ys H' _ ⟨g, rfl⟩ p hp'
      rw [List.take_length]
      have gs : Same H (thaw H (upd H' p (.lst (ps.map (·.2))))) := thaw_walk (o := o) hdd (g.trans (same_new hp' _))
      exact q p _ _ gs (thaw_of upd_same (by intro o v z; cases z)) (Reps.same gs _ _ hs)
  | _ => cases hh
def spDepth (n : Nat) : Sp := fun vs H Q _ => ∃ (v : V) (t : T), vs = [v] ∧ Rep H v t ∧ T.gd t ∧ T.dep t < n ∧ T.sz t ≤ 1000 ∧ ∀ H', Same H H' → Q (.int (ldep t)) H'
theorem scDepth : FnScope ["_law_thing"] ["_law_thing"] (defScope sDepth) := ⟨rfl, rfl, rfl, by decide +kernel, rfl, by decide +kernel, by decide +kernel⟩
theorem ok_depthS {n : Nat} (F : Fun K "_law_depth" "_law_depth" sDepth f fd) (B : Bl2 mg) (G_law_inner : Dn P w K mg base 1 "_law_inner" ["_law_thing"] spInner) (G_law_depth : Dn P w K mg base (2 + n) "_law_depth" ["_law_thing"] (spDepth n)) : FnOk P w K mg base CX0 (2 + n + 1) f fd ["_law_thing"] (spDepth (n + 1)) := by
  refine F.ok scDepth (fun vs H Q E h => ?_) (fun cdv A outer s H vs Q E hr h => ?_)
  · obtain ⟨v, t, rfl, _⟩ := h
    rfl
  obtain ⟨v, t, rfl, hv, hg, hd, hz, q⟩ := h
  have nd := scDepth.nd
  refine ⟨_, (pss_cons (ps_if (pt_not (pt_val (pe_callB (call_isi2 (T := "list") (U := "dict") (by decide) (by decide)) rfl B.isinstance bt_isinstance (pa_cons (pv 0) (pa_cons (pe_tup (pa_cons (pe_bltn (v := .ty "list") rfl B.list bt_list rfl) (pa_cons (pe_bltn (v := .ty "dict") rfl B.dict bt_dict rfl) pa_nil))) pa_nil))))) (pss_one (ps_ret pe_int)) pss_nil)
    (pss_one (ps_ret (pe_op op_add pe_int (pe_maxD rfl rfl B.max (pa_cons (pe_comp (own := ["_law_one"]) (F := []) ⟨rfl, by with_unfolding_all rfl, by with_unfolding_all rfl, by with_unfolding_all rfl, .nil⟩ rfl (pi_list (pe_cd G_law_inner hr (by omega) rfl (pa_cons (pv 0) pa_nil))) (fun _ _ _ _ => pg_name (i := 0) (by show (compN ["_law_one"] []).Nodup; decide +kernel) rfl (Or.inl rfl)) (fun _ _ _ _ => pts_nil) (fun _ _ _ _ => (pe_cd G_law_depth hr (by omega) rfl (pa_cons (pv 0) pa_nil)))) pa_nil) pe_int))))), ?_⟩
  rw [show start ["_law_thing"] [v] = [some v] from rfl]
  walk_at "rd3"
  intro p hp
  have s1 := same_new hp (.tup [V.ty "list", V.ty "dict"])
  refine ⟨v, _, p, ⟨rfl, rfl⟩, upd_same, tyS_same s1 hv.ty, ?_⟩
  rw [ty_hT]
  by_cases hh : isHT t = true
  · refine iN (by rw [hh]; decide) ⟨v, t, rfl, Rep.same s1 _ _ hv, hg, hh, hz, fun l ys H1 g1 hl hR => ?_⟩
    obtain ⟨k1, k2, k3, k4⟩ := kid_all hh
    have hgd := kid_gd hh hg
    have hlen := hR.length
    have hle := T.szs_len (kidsT t)
    refine ⟨l, rfl, ⟨_, SqL.of hl⟩, comp_list (K := K) (xs := ys) (fun i zs H2 => Same H1 H2 ∧ zs = (((kidsT t).take i).map fun t => (ldep t : Int)).map V.int) (by rw [sizeLine_eq]; omega) ⟨Same.refl _, rfl⟩ (fun i zs H2 _ h => SqL.of (h.1 _ _ hl)) ?_ ?_⟩
    · rintro i x zs H2 hx _ ⟨g2, rfl⟩
      obtain ⟨u, hu, hr'⟩ := hR.get hx
      have hm := List.mem_of_getElem? hu
      have d1 := T.deps_le hm
      have d2 := T.szs_le hm
      walk_at "rd3"
      refine ⟨x, u, rfl, Rep.same g2 _ _ hr', T.gds_mem hgd hm, by omega, by omega, fun H3 g3 => ⟨g2.trans g3, ?_⟩⟩
      rw [take_succ_of hu, List.map_append, List.map_append]; rfl
    · rintro zs H2 _ ⟨g2, rfl⟩ p' hp'
      rw [hlen, List.take_length]
      refine ⟨p', rfl, _, SqL.of upd_same, ?_⟩
      rw [mx_l]
      rw [k3] at q
      have e : (1 : Int) + (ldeps (kidsT t) : Int) = ((ldeps (kidsT t) + 1 : Nat) : Int) := by omega
      rw [e]
      exact q _ (s1.trans (g1.trans (g2.trans (same_new hp' _))))
  · rw [Bool.not_eq_true] at hh
    obtain ⟨n1, n2, n3⟩ := no_kid hh
    refine iP hh ?_
    rw [n1] at q
    exact q _ s1
theorem ok_depth0 (F : Fun K "_law_depth" "_law_depth" sDepth f fd) : FnOk P w K mg base CX0 2 f fd ["_law_thing"] (spDepth 0) := by
  refine F.ok scDepth (fun vs H Q E h => ?_) (fun cdv A outer s H vs Q E hr h => ?_)
  · obtain ⟨v, t, rfl, _⟩ := h
    rfl
  obtain ⟨v, t, rfl, hv, hg, hd, _⟩ := h
  exact absurd hd (Nat.not_lt_zero _)
theorem depth_all (F : Fun K "_law_depth" "_law_depth" sDepth f fd) (B : Bl2 mg) (G : Dn P w K mg base 1 "_law_inner" ["_law_thing"] spInner) (b : Binds K fd ["_law_thing"] []) (kp : PySem.W.keepIn K (.ref f) = true) (m : mg "_law_depth" = some (.ref f)) :
    ∀ n : Nat, FnOk P w K mg base CX0 (2 + n) f fd ["_law_thing"] (spDepth n)
  | 0 => ok_depth0 F
  | n + 1 => ok_depthS F B G ⟨_, _, depth_all F B G b kp m n, b, kp, m⟩
def spSize (n : Nat) : Sp := fun vs H Q _ => ∃ (v : V) (t : T), vs = [v] ∧ Rep H v t ∧ T.gd t ∧ T.dep t < n ∧ T.sz t ≤ 1000 ∧ ∀ H', Same H H' → Q (.int (lsz t)) H'
theorem scSize : FnScope ["_law_thing"] ["_law_thing"] (defScope sSize) := ⟨rfl, rfl, rfl, by decide +kernel, rfl, by decide +kernel, by decide +kernel⟩
theorem ok_sizeS {n : Nat} (F : Fun K "_law_size" "_law_size" sSize f fd) (B : Bl mg) (G_law_inner : Dn P w K mg base 1 "_law_inner" ["_law_thing"] spInner) (G_law_size : Dn P w K mg base (2 + n) "_law_size" ["_law_thing"] (spSize n)) : FnOk P w K mg base CX0 (2 + n + 1) f fd ["_law_thing"] (spSize (n + 1)) := by
  refine F.ok scSize (fun vs H Q E h => ?_) (fun cdv A outer s H vs Q E hr h => ?_)
  · obtain ⟨v, t, rfl, _⟩ := h
    rfl
  obtain ⟨v, t, rfl, hv, hg, hd, hz, q⟩ := h
  have nd := scSize.nd
  refine ⟨_, (pss_cons (ps_if (pt_not (pt_val (pe_callB (call_isi2 (T := "list") (U := "dict") (by decide) (by decide)) rfl B.isinstance bt_isinstance (pa_cons (pv 0) (pa_cons (pe_tup (pa_cons (pe_bltn (v := .ty "list") rfl B.list bt_list rfl) (pa_cons (pe_bltn (v := .ty "dict") rfl B.dict bt_dict rfl) pa_nil))) pa_nil))))) (pss_one (ps_ret pe_int)) pss_nil)
    (pss_one (ps_ret (pe_op op_add pe_int (pe_callB (call_sum rfl) rfl B.sum bt_sum (pa_cons (pe_comp (own := ["_law_one"]) (F := []) ⟨rfl, by with_unfolding_all rfl, by with_unfolding_all rfl, by with_unfolding_all rfl, .nil⟩ rfl (pi_list (pe_cd G_law_inner hr (by omega) rfl (pa_cons (pv 0) pa_nil))) (fun _ _ _ _ => pg_name (i := 0) (by show (compN ["_law_one"] []).Nodup; decide +kernel) rfl (Or.inl rfl)) (fun _ _ _ _ => pts_nil) (fun _ _ _ _ => (pe_cd G_law_size hr (by omega) rfl (pa_cons (pv 0) pa_nil)))) pa_nil)))))), ?_⟩
  rw [show start ["_law_thing"] [v] = [some v] from rfl]
  walk_at "rd3"
  intro p hp
  have s1 := same_new hp (.tup [V.ty "list", V.ty "dict"])
  refine ⟨v, _, p, ⟨rfl, rfl⟩, upd_same, tyS_same s1 hv.ty, ?_⟩
  rw [ty_hT]
  by_cases hh : isHT t = true
  · refine iN (by rw [hh]; decide) ⟨v, t, rfl, Rep.same s1 _ _ hv, hg, hh, hz, fun l ys H1 g1 hl hR => ?_⟩
    obtain ⟨k1, k2, k3, k4⟩ := kid_all hh
    have hgd := kid_gd hh hg
    have hlen := hR.length
    have hle := T.szs_len (kidsT t)
    refine ⟨l, rfl, ⟨_, SqL.of hl⟩, comp_list (K := K) (xs := ys) (fun i zs H2 => Same H1 H2 ∧ zs = (((kidsT t).take i).map fun t => (lsz t : Int)).map V.int) (by rw [sizeLine_eq]; omega) ⟨Same.refl _, rfl⟩ (fun i zs H2 _ h => SqL.of (h.1 _ _ hl)) ?_ ?_⟩
    · rintro i x zs H2 hx _ ⟨g2, rfl⟩
      obtain ⟨u, hu, hr'⟩ := hR.get hx
      have hm := List.mem_of_getElem? hu
      have d1 := T.deps_le hm
      have d2 := T.szs_le hm
      walk_at "rd3"
      refine ⟨x, u, rfl, Rep.same g2 _ _ hr', T.gds_mem hgd hm, by omega, by omega, fun H3 g3 => ⟨g2.trans g3, ?_⟩⟩
      rw [take_succ_of hu, List.map_append, List.map_append]; rfl
    · rintro zs H2 _ ⟨g2, rfl⟩ p' hp'
      rw [hlen, List.take_length]
      refine ⟨p', rfl, _, SqL.of upd_same, ?_⟩
      rw [sum_l]
      rw [k4] at q
      have e : (1 : Int) + (lszs (kidsT t) : Int) = ((lszs (kidsT t) + 1 : Nat) : Int) := by omega
      rw [e]
      exact q _ (s1.trans (g1.trans (g2.trans (same_new hp' _))))
  · rw [Bool.not_eq_true] at hh
    obtain ⟨n1, n2, n3⟩ := no_kid hh
    refine iP hh ?_
    rw [n2] at q
    exact q _ s1
theorem ok_size0 (F : Fun K "_law_size" "_law_size" sSize f fd) : FnOk P w K mg base CX0 2 f fd ["_law_thing"] (spSize 0) := by
  refine F.ok scSize (fun vs H Q E h => ?_) (fun cdv A outer s H vs Q E hr h => ?_)
  · obtain ⟨v, t, rfl, _⟩ := h
    rfl
  obtain ⟨v, t, rfl, hv, hg, hd, _⟩ := h
  exact absurd hd (Nat.not_lt_zero _)
theorem size_all (F : Fun K "_law_size" "_law_size" sSize f fd) (B : Bl mg) (G : Dn P w K mg base 1 "_law_inner" ["_law_thing"] spInner) (b : Binds K fd ["_law_thing"] []) (kp : PySem.W.keepIn K (.ref f) = true) (m : mg "_law_size" = some (.ref f)) :
    ∀ n : Nat, FnOk P w K mg base CX0 (2 + n) f fd ["_law_thing"] (spSize n)
  | 0 => ok_size0 F
  | n + 1 => ok_sizeS F B G ⟨_, _, size_all F B G b kp m n, b, kp, m⟩
def spNarrow (n : Nat) : Sp := fun vs H Q _ => ∃ (v : V) (t : T), vs = [v] ∧ Rep H v t ∧ T.gd t ∧ T.dep t < n ∧ T.sz t ≤ 1000 ∧ ∀ H', Same H H' → Q (.bl (lnar t)) H'
theorem scNarrow : FnScope ["_law_thing"] ["_law_thing"] (defScope sNarrow) := ⟨rfl, rfl, rfl, by decide +kernel, rfl, by decide +kernel, by decide +kernel⟩
theorem ok_narrowS {n : Nat} (F : Fun K "_law_narrow" "_law_narrow" sNarrow f fd) (B : Bl mg) (G_law_inner : Dn P w K mg base 1 "_law_inner" ["_law_thing"] spInner) (G_law_narrow : Dn P w K mg base (2 + n) "_law_narrow" ["_law_thing"] (spNarrow n)) : FnOk P w K mg base CX0 (2 + n + 1) f fd ["_law_thing"] (spNarrow (n + 1)) := by
  refine F.ok scNarrow (fun vs H Q E h => ?_) (fun cdv A outer s H vs Q E hr h => ?_)
  · obtain ⟨v, t, rfl, _⟩ := h
    rfl
  obtain ⟨v, t, rfl, hv, hg, hd, hz, q⟩ := h
  have nd := scNarrow.nd
  refine ⟨_, (pss_cons (ps_if (pt_not (pt_val (pe_callB (call_isi2 (T := "list") (U := "dict") (by decide) (by decide)) rfl B.isinstance bt_isinstance (pa_cons (pv 0) (pa_cons (pe_tup (pa_cons (pe_bltn (v := .ty "list") rfl B.list bt_list rfl) (pa_cons (pe_bltn (v := .ty "dict") rfl B.dict bt_dict rfl) pa_nil))) pa_nil))))) (pss_one (ps_ret pe_bl)) pss_nil)
    (pss_cons (ps_if (pt_cmpR op_gt (pe_callB call_len_ld rfl B.len bt_len (pa_cons (pv 0) pa_nil)) (pe_ix ix_list (pe_lst (pa_cons pe_int (pa_cons pe_int pa_nil))) (pe_callTy call_intB rfl B.int bt_int (pa_cons (pe_callB (call_isi (T := "dict") (by decide)) rfl B.isinstance bt_isinstance (pa_cons (pv 0) (pa_cons (pe_bltn (v := .ty "dict") rfl B.dict bt_dict rfl) pa_nil))) pa_nil)) (fun _ _ => rfl)) (nomark _)) (pss_one (ps_ret pe_bl)) pss_nil)
    (pss_one (ps_ret (pe_callB (call_all rfl) rfl B.all bt_all (pa_cons (pe_comp (own := ["_law_one"]) (F := []) ⟨rfl, by with_unfolding_all rfl, by with_unfolding_all rfl, by with_unfolding_all rfl, .nil⟩ rfl (pi_list (pe_cd G_law_inner hr (by omega) rfl (pa_cons (pv 0) pa_nil))) (fun _ _ _ _ => pg_name (i := 0) (by show (compN ["_law_one"] []).Nodup; decide +kernel) rfl (Or.inl rfl)) (fun _ _ _ _ => pts_nil) (fun _ _ _ _ => (pe_cd G_law_narrow hr (by omega) rfl (pa_cons (pv 0) pa_nil)))) pa_nil)))))), ?_⟩
  rw [show start ["_law_thing"] [v] = [some v] from rfl]
  walk_at "rd3"
  intro p hp
  have s1 := same_new hp (.tup [V.ty "list", V.ty "dict"])
  refine ⟨v, _, p, ⟨rfl, rfl⟩, upd_same, tyS_same s1 hv.ty, ?_⟩
  rw [ty_hT]
  by_cases hh : isHT t = true
  · refine iN (by rw [hh]; decide) ?_
    obtain ⟨k1, k2, k3, k4⟩ := kid_all hh
    have hgd := kid_gd hh hg
    have hle := T.szs_len (kidsT t)
    have go : ∀ H2, Same H H2 → lnar t = lnars (kidsT t) → spInner [v] H2 (fun x H1 => ∃ a, x = V.ref a ∧ (∃ xs, SqL K H1 a xs) ∧ CompBody [Str.ofString "_law_one"] [] (gName 0) tTrue (tCall (spNarrow n) [] E0 (tCons (tVar 0) tNil)) [some v]
        (fun x H1 => ∃ p, x = V.ref p ∧ ∃ x, SqL K H1 p (List.map V.bl x) ∧ Q (V.bl (x.all id)) H1) (Itl K a) H1) E0 := by
      intro H2 g2 hq
      refine ⟨v, t, rfl, Rep.same g2 _ _ hv, hg, hh, hz, fun l ys H1 g1 hl hR => ?_⟩
      have hlen := hR.length
      refine ⟨l, rfl, ⟨_, SqL.of hl⟩, comp_list (K := K) (xs := ys) (fun i zs H2 => Same H1 H2 ∧ zs = (((kidsT t).take i).map lnar).map V.bl) (by rw [sizeLine_eq]; omega) ⟨Same.refl _, rfl⟩ (fun i zs H2 _ h => SqL.of (h.1 _ _ hl)) ?_ ?_⟩
      · rintro i x zs H2 hx _ ⟨g2, rfl⟩
        obtain ⟨u, hu, hr'⟩ := hR.get hx
        have hm := List.mem_of_getElem? hu
        have d1 := T.deps_le hm
        have d2 := T.szs_le hm
        walk_at "rd3"
        refine ⟨x, u, rfl, Rep.same g2 _ _ hr', T.gds_mem hgd hm, by omega, by omega, fun H3 g3 => ⟨g2.trans g3, ?_⟩⟩
        rw [take_succ_of hu, List.map_append, List.map_append]; rfl
      · rintro zs H3 _ ⟨g3, rfl⟩ p' hp'
        rw [hlen, List.take_length]
        refine ⟨p', rfl, _, SqL.of upd_same, ?_⟩
        rw [all_l, ← hq]
        exact q _ (g2.trans (g1.trans (g3.trans (same_new hp' _))))
    cases t with
    | lst us =>
      have hty : tyS H v = some "list" := hv.ty
      have hvv := hv
      obtain ⟨a, xs, rfl, ha, hx⟩ := hvv
      have hxl := hx.length
      refine ⟨a, rfl, xs.length, .inl ⟨xs, SqL.of (s1 _ _ ha), rfl⟩, fun p2 hp2 => ?_⟩
      have s2 := s1.trans (same_new hp2 (.lst [V.int 60, V.int 30]))
      refine ⟨_, tyS_same s2 hty, ?_⟩
      rw [if_neg (show ¬ isSub "list" "dict" = true by decide +kernel)]
      refine rIxL_i (SqL.of upd_same) (atI_nat (j := 0) rfl) ⟨60, rfl, ?_⟩
      by_cases c : 60 < us.length
      · refine iP (by omega) ?_
        have e : lnar (.lst us) = false := by show (decide (us.length ≤ 60) && lnars us) = false; rw [decide_eq_false (by omega)]; rfl
        rw [← e]; exact q _ s2
      · refine iN (by omega) (go _ s2 ?_)
        show (decide (us.length ≤ 60) && lnars us) = lnars us
        rw [decide_eq_true (by omega)]; rfl
    | dic ks us =>
      have hty : tyS H v = some "dict" := hv.ty
      have hvv := hv
      obtain ⟨a, ps, rfl, ha, hk, hx⟩ := hvv
      have hxl := hx.length
      rw [List.length_map] at hxl
      have hkl := hg.2.1
      refine ⟨a, rfl, ps.length, .inr ⟨ps, s1 _ _ ha, rfl⟩, fun p2 hp2 => ?_⟩
      have s2 := s1.trans (same_new hp2 (.lst [V.int 60, V.int 30]))
      refine ⟨_, tyS_same s2 hty, ?_⟩
      rw [if_pos (show isSub "dict" "dict" = true by decide +kernel)]
      refine rIxL_i (SqL.of upd_same) (atI_nat (j := 1) rfl) ⟨30, rfl, ?_⟩
      by_cases c : 30 < ks.length
      · refine iP (by omega) ?_
        have e : lnar (.dic ks us) = false := by show (decide (ks.length ≤ 30) && lnars us) = false; rw [decide_eq_false (by omega)]; rfl
        rw [← e]; exact q _ s2
      · refine iN (by omega) (go _ s2 ?_)
        show (decide (ks.length ≤ 30) && lnars us) = lnars us
        rw [decide_eq_true (by omega)]; rfl
    | _ => cases hh
  · rw [Bool.not_eq_true] at hh
    obtain ⟨n1, n2, n3⟩ := no_kid hh
    refine iP hh ?_
    rw [n3] at q
    exact q _ s1
theorem ok_narrow0 (F : Fun K "_law_narrow" "_law_narrow" sNarrow f fd) : FnOk P w K mg base CX0 2 f fd ["_law_thing"] (spNarrow 0) := by
  refine F.ok scNarrow (fun vs H Q E h => ?_) (fun cdv A outer s H vs Q E hr h => ?_)
  · obtain ⟨v, t, rfl, _⟩ := h
    rfl
  obtain ⟨v, t, rfl, hv, hg, hd, _⟩ := h
  exact absurd hd (Nat.not_lt_zero _)
theorem narrow_all (F : Fun K "_law_narrow" "_law_narrow" sNarrow f fd) (B : Bl mg) (G : Dn P w K mg base 1 "_law_inner" ["_law_thing"] spInner) (b : Binds K fd ["_law_thing"] []) (kp : PySem.W.keepIn K (.ref f) = true) (m : mg "_law_narrow" = some (.ref f)) :
    ∀ n : Nat, FnOk P w K mg base CX0 (2 + n) f fd ["_law_thing"] (spNarrow n)
  | 0 => ok_narrow0 F
  | n + 1 => ok_narrowS F B G ⟨_, _, narrow_all F B G b kp m n, b, kp, m⟩
end
end K41
namespace K41
open PySem L2 PySem.Builtin PySem.Builtin.Str
local macro_rules | `(tactic| walk_at "rd") => `(tactic| simp only [cxOf_K, nox_K, compCx_K, tSeq, tNext, tAsg, gName, tRet, tRetN, tIfS, tDrop, tOp, tUn, tVar, tC, tCall, tCons, tNil, tTest, tB, tAnd, tOr, tNot, tAndV, tOrV, tNotV, tIf, tCB, tBM, tComp, tTrue, tPart, tNoPart, tSl, tChain, tIsN, tNotN, tLst, tTup, tFor_eq, sDPut, tDNewK, tNever, rI0, rI, rU, rEq, rNe, rMulS, rInC, iRng1, iStr, CDiv, CMul, CPow, scal, List.append_nil, List.getElem?_cons_zero, List.getElem?_cons_succ, List.set_cons_zero, List.set_cons_succ, List.map_cons, List.map_nil, List.length_cons, List.length_nil, sizeLine_eq, Nat.reduceAdd, Nat.reduceLeDiff, Option.join_some, Option.join_none, Option.some.injEq, V.int.injEq, V.str.injEq, V.bl.injEq, V.ref.injEq, V.ty.injEq, List.cons.injEq, and_true, true_and, and_self, exists_eq_left', exists_eq_left, exists_and_left, exists_and_right, decide_eq_true_eq, Bool.not_eq_eq_eq_not, Bool.not_true, Bool.not_false, decide_eq_false_iff_not, Int.reduceLT, Int.reduceLE, Int.reduceNeg, Int.reducePow, Int.reduceAdd, Int.reduceSub, Int.reduceMul, Int.reduceToNat, natAbs10, Nat.reduceLT, Nat.reducePow, or_true, true_or, if_true, if_false, Bool.false_eq_true, ite_true, ite_false, reduceCtorEq])
local macro_rules | `(tactic| walk_at "rd3") => `(tactic| simp only [gTup, gCons, gNil, iZip, tIsT, tDisp, tPairs, tBM0, iList, iDict, tThaw, tMaxD, rMaxD, tDGet, rVals, tComp, cxOf_K, nox_K, compCx_K, tSeq, tNext, tAsg, gName, tRet, tRetN, tIfS, tDrop, tOp, tUn, tVar, tC, tCall, tCons, tNil, tTest, tB, tAnd, tOr, tNot, tAndV, tOrV, tNotV, tIf, tCB, tBM, tComp, tTrue, tPart, tNoPart, tSl, tChain, tIsN, tNotN, tLst, tTup, tFor_eq, sDPut, tDNewK, tNever, rI0, rI, rU, rEq, rNe, rMulS, rInC, iRng1, iStr, CDiv, CMul, CPow, scal, List.append_nil, List.getElem?_cons_zero, List.getElem?_cons_succ, List.set_cons_zero, List.set_cons_succ, List.map_cons, List.map_nil, List.length_cons, List.length_nil, sizeLine_eq, Nat.reduceAdd, Nat.reduceLeDiff, Option.join_some, Option.join_none, Option.some.injEq, V.int.injEq, V.str.injEq, V.bl.injEq, V.ref.injEq, V.ty.injEq, List.cons.injEq, and_true, true_and, and_self, exists_eq_left', exists_eq_left, exists_and_left, exists_and_right, decide_eq_true_eq, Bool.not_eq_eq_eq_not, Bool.not_true, Bool.not_false, decide_eq_false_iff_not, Int.reduceLT, Int.reduceLE, Int.reduceNeg, Int.reducePow, Int.reduceAdd, Int.reduceSub, Int.reduceMul, Int.reduceToNat, natAbs10, Nat.reduceLT, Nat.reducePow, or_true, true_or, if_true, if_false, Bool.false_eq_true, ite_true, ite_false, reduceCtorEq])
seal L2.PSs L2.PS L2.PE L2.PT L2.PW L2.PA L2.PI L2.PG L2.PGs L2.PPs L2.PTs
abbrev sGoodT : Stmt := top 37
abbrev sIG : Stmt := top 39
abbrev sTG : Stmt := top 40
theorem jn_mem {c : Nat} : ∀ {ps : List (List Nat)}, 2 ≤ ps.length → c ∈ jn [c] ps
  | [], h => absurd h (by decide)
  | [x], h => absurd h (by simp)
  | x :: y :: r, _ => by
    show c ∈ x ++ [c] ++ jn [c] (y :: r)
    simp
theorem occ_zero (x : Str) (c : Nat) : (occurrences x ⟨#[c]⟩ 0 x.length (x.length + 1)).length = 0 ↔ c ∉ ts x := by
  constructor
  · intro h
    have hn : occurrences x ⟨#[c]⟩ 0 x.length (x.length + 1) = [] := List.eq_nil_of_length_eq_zero h
    have hs : Txt.split x ⟨#[c]⟩ = [x] := by
      unfold Txt.split
      rw [hn]
      split <;> rfl
    exact StrLaws.split_free x c x (by rw [hs]; exact List.mem_cons_self)
  · intro h
    by_cases z : (occurrences x ⟨#[c]⟩ 0 x.length (x.length + 1)).length = 0
    · exact z
    · refine absurd ?_ h
      have e := StrLaws.glued_between_self x ⟨#[c]⟩ (x.length + 1)
      rw [StrLaws.glued_eq_join] at e
      have e2 := ts_join ⟨#[c]⟩ (partsBetween x (occurrences x ⟨#[c]⟩ 0 x.length (x.length + 1)) (Str.length ⟨#[c]⟩))
      rw [e] at e2
      rw [e2]
      refine jn_mem (c := c) ?_
      rw [List.length_map, length_partsBetween]
      omega
mutual
theorem okT_l : ∀ t : T, okT t = true → ldep t = T.dep t ∧ lsz t = T.sz t ∧ lnar t = true
  | .non, _ => ⟨rfl, rfl, rfl⟩
  | .bl _, _ => ⟨rfl, rfl, rfl⟩
  | .int _, _ => ⟨rfl, rfl, rfl⟩
  | .str _, _ => ⟨rfl, rfl, rfl⟩
  | .tup _, h => by cases h
  | .lst us, h => by
    have h' : (decide (us.length ≤ 60) && okTs us) = true := h
    rw [Bool.and_eq_true] at h'
    obtain ⟨a, b, c⟩ := okTs_l us h'.2
    refine ⟨congrArg Nat.succ a, congrArg Nat.succ b, ?_⟩
    show (decide (us.length ≤ 60) && lnars us) = true
    rw [h'.1, c]; rfl
  | .dic ks us, h => by
    have h' : ((decide (ks.length ≤ 30) && ks.all okName) && okTs us) = true := h
    rw [Bool.and_eq_true, Bool.and_eq_true] at h'
    obtain ⟨a, b, c⟩ := okTs_l us h'.2
    refine ⟨congrArg Nat.succ a, congrArg Nat.succ b, ?_⟩
    show (decide (ks.length ≤ 30) && lnars us) = true
    rw [h'.1.1, c]; rfl
theorem okTs_l : ∀ us : List T, okTs us = true → ldeps us = T.deps us ∧ lszs us = T.szs us ∧ lnars us = true
  | [], _ => ⟨rfl, rfl, rfl⟩
  | u :: us, h => by
    have h' : (okT u && okTs us) = true := h
    rw [Bool.and_eq_true] at h'
    obtain ⟨a1, b1, c1⟩ := okT_l u h'.1
    obtain ⟨a2, b2, c2⟩ := okTs_l us h'.2
    refine ⟨?_, ?_, ?_⟩
    · show max (ldep u) (ldeps us) = max (T.dep u) (T.deps us); rw [a1, a2]
    · show lsz u + lszs us = T.sz u + T.szs us; rw [b1, b2]
    · show (lnar u && lnars us) = true; rw [c1, c2]; rfl
end
theorem okTs_all : ∀ us : List T, okTs us = us.all okT
  | [] => rfl
  | u :: us => by
    show (okT u && okTs us) = (okT u && us.all okT)
    rw [okTs_all us]
def lgood (t : T) : Bool := lnar t && decide (ldep t < 9) && decide (lsz t < 201)
def igT : T → Bool
  | .lst us => us.all thingT
  | .dic ks us => ks.all okName && us.all thingT
  | _ => true
theorem th_ok {us : List T} (h : us.all thingT = true) : okTs us = true := by
  rw [okTs_all, List.all_eq_true]
  intro u hu
  have := List.all_eq_true.mp h u hu
  unfold thingT at this
  rw [Bool.and_eq_true, Bool.and_eq_true] at this
  exact this.1.1
theorem ok_th_all {us : List T} (h : okTs us = true) (hd : T.deps us ≤ 8) (hz : T.szs us ≤ 200) : us.all thingT = true := by
  rw [List.all_eq_true]
  intro u hu
  rw [okTs_all] at h
  have h1 := List.all_eq_true.mp h u hu
  have h2 := T.deps_le hu
  have h3 := T.szs_le hu
  unfold thingT
  rw [h1, decide_eq_true (show T.dep u ≤ 8 by omega), decide_eq_true (show T.sz u ≤ 200 by omega)]; rfl
/-- what the law's own judging comes to -/
theorem fin_lst (us : List T) : (lgood (.lst us) && igT (.lst us)) = thingT (.lst us) := by
  rw [Bool.eq_iff_iff]
  unfold lgood thingT
  simp only [Bool.and_eq_true, decide_eq_true_eq]
  constructor
  · rintro ⟨⟨⟨h1, h2⟩, h3⟩, h4⟩
    have h4' : us.all thingT = true := h4
    have h5 := th_ok h4'
    have h1' : (decide (us.length ≤ 60) && lnars us) = true := h1
    rw [Bool.and_eq_true] at h1'
    have h6 : okT (.lst us) = true := by
      show (decide (us.length ≤ 60) && okTs us) = true
      rw [h1'.1, h5]; rfl
    obtain ⟨a, b, c⟩ := okT_l _ h6
    exact ⟨⟨h6, by omega⟩, by omega⟩
  · rintro ⟨⟨h1, h2⟩, h3⟩
    obtain ⟨a, b, c⟩ := okT_l _ h1
    have h1' : (decide (us.length ≤ 60) && okTs us) = true := h1
    rw [Bool.and_eq_true] at h1'
    have e2 : T.deps us + 1 ≤ 8 := h2
    have e3 : T.szs us + 1 ≤ 200 := h3
    exact ⟨⟨⟨c, by omega⟩, by omega⟩, ok_th_all h1'.2 (by omega) (by omega)⟩
theorem fin_dic (ks : List (List Nat)) (us : List T) : (lgood (.dic ks us) && igT (.dic ks us)) = thingT (.dic ks us) := by
  rw [Bool.eq_iff_iff]
  unfold lgood thingT
  simp only [Bool.and_eq_true, decide_eq_true_eq]
  constructor
  · rintro ⟨⟨⟨h1, h2⟩, h3⟩, h4⟩
    have h4' : (ks.all okName && us.all thingT) = true := h4
    rw [Bool.and_eq_true] at h4'
    have h5 := th_ok h4'.2
    have h1' : (decide (ks.length ≤ 30) && lnars us) = true := h1
    rw [Bool.and_eq_true] at h1'
    have h6 : okT (.dic ks us) = true := by
      show ((decide (ks.length ≤ 30) && ks.all okName) && okTs us) = true
      rw [h1'.1, h4'.1, h5]; rfl
    obtain ⟨a, b, c⟩ := okT_l _ h6
    exact ⟨⟨h6, by omega⟩, by omega⟩
  · rintro ⟨⟨h1, h2⟩, h3⟩
    obtain ⟨a, b, c⟩ := okT_l _ h1
    have h1' : ((decide (ks.length ≤ 30) && ks.all okName) && okTs us) = true := h1
    rw [Bool.and_eq_true, Bool.and_eq_true] at h1'
    have e2 : T.deps us + 1 ≤ 8 := h2
    have e3 : T.szs us + 1 ≤ 200 := h3
    refine ⟨⟨⟨c, by omega⟩, by omega⟩, ?_⟩
    show (ks.all okName && us.all thingT) = true
    rw [h1'.1.2, ok_th_all h1'.2 (by omega) (by omega)]; rfl
section
variable {P : Program} {w : World} {K : PySem.W.Frag} {mg : Str → Option Value} {base : Heap} {f : Addr} {fd : FuncData}
def spLG : Sp := fun vs H Q _ => ∃ (v : V) (t : T), vs = [v] ∧ Rep H v t ∧ T.gd t ∧ T.dep t < 20 ∧ T.sz t ≤ 1000 ∧ ∀ H', Same H H' → Q (.bl (lgood t)) H'
theorem scGoodT : FnScope ["_law_thing"] ["_law_thing"] (defScope sGoodT) := ⟨rfl, rfl, rfl, by decide +kernel, rfl, by decide +kernel, by decide +kernel⟩
theorem ok_goodT (F : Fun K "_law_good" "_law_good" sGoodT f fd) (B : Bl mg) (G_law_narrow : Dn P w K mg base (2 + 20) "_law_narrow" ["_law_thing"] (spNarrow 20)) (G_law_depth : Dn P w K mg base (2 + 20) "_law_depth" ["_law_thing"] (spDepth 20)) (G_law_size : Dn P w K mg base (2 + 20) "_law_size" ["_law_thing"] (spSize 20)) : FnOk P w K mg base CX0 23 f fd ["_law_thing"] spLG := by
  refine F.ok scGoodT (fun vs H Q E h => ?_) (fun cdv A outer s H vs Q E hr h => ?_)
  · obtain ⟨v, t, rfl, _⟩ := h
    rfl
  obtain ⟨v, t, rfl, hv, hg, hd, hz, q⟩ := h
  have nd := scGoodT.nd
  refine ⟨_, (pss_one (ps_ret (pe_and (pe_cd G_law_narrow hr (by omega) rfl (pa_cons (pv 0) pa_nil)) (pe_and (pe_cmpR op_lt (pe_cd G_law_depth hr (by omega) rfl (pa_cons (pv 0) pa_nil)) pe_int (nomark _)) (pe_one (pe_cmpR op_lt (pe_cd G_law_size hr (by omega) rfl (pa_cons (pv 0) pa_nil)) pe_int (nomark _))))))), ?_⟩
  rw [show start ["_law_thing"] [v] = [some v] from rfl]
  walk_at "rd3"
  refine ⟨v, t, rfl, hv, hg, hd, hz, fun H1 g1 => ⟨lnar t, rfl, ?_⟩⟩
  unfold lgood at q
  by_cases c1 : lnar t = true
  · rw [c1, Bool.true_and] at q
    refine iP c1 ⟨v, t, rfl, Rep.same g1 _ _ hv, hg, hd, hz, fun H2 g2 => ⟨_, rfl, ?_⟩⟩
    by_cases c2 : ldep t < 9
    · rw [decide_eq_true c2, Bool.true_and] at q
      refine iP (by omega) ⟨v, t, rfl, Rep.same (g1.trans g2) _ _ hv, hg, hd, hz, fun H3 g3 => ⟨_, rfl, ?_⟩⟩
      have e : decide ((lsz t : Int) < 201) = decide (lsz t < 201) := decide_eq_decide.mpr (by omega)
      rw [e]
      exact q _ (g1.trans (g2.trans g3))
    · rw [decide_eq_false c2, Bool.false_and] at q
      exact iN (by omega) (q _ (g1.trans g2))
  · rw [Bool.not_eq_true] at c1
    rw [c1, Bool.false_and, Bool.false_and] at q
    exact iN (by rw [c1]; decide) (q _ g1)
def spIG (n : Nat) : Sp := fun vs H Q _ => ∃ (v : V) (t : T), vs = [v] ∧ Rep H v t ∧ T.gd t ∧ T.dep t < n ∧ n ≤ 20 ∧ T.sz t ≤ 1000 ∧ ∀ H', Same H H' → Q (.bl (igT t)) H'
def spTG (n : Nat) : Sp := fun vs H Q _ => ∃ (v : V) (t : T), vs = [v] ∧ Rep H v t ∧ T.gd t ∧ T.dep t < n ∧ n ≤ 20 ∧ T.sz t ≤ 1000 ∧ ∀ H', Same H H' → Q (.bl (thingT t)) H'
theorem scIG : FnScope ["_law_thing"] ["_law_thing"] (defScope sIG) := ⟨rfl, rfl, rfl, by decide +kernel, rfl, by decide +kernel, by decide +kernel⟩
theorem ok_igS {n : Nat} (F : Fun K "_law_inner_good" "_law_inner_good" sIG f fd) (B : Bl mg) (G_law_good_name : Dn P w K mg base 1 "_law_good_name" ["_law_word"] spGood) (G_law_inner : Dn P w K mg base 1 "_law_inner" ["_law_thing"] spInner) (G_law_thing_good : Dn P w K mg base (2 * n + 24 + 1) "_law_thing_good" ["_law_thing"] (spTG n)) : FnOk P w K mg base CX0 (2 * n + 24 + 1 + 1) f fd ["_law_thing"] (spIG (n + 1)) := by
  refine F.ok scIG (fun vs H Q E h => ?_) (fun cdv A outer s H vs Q E hr h => ?_)
  · obtain ⟨v, t, rfl, _⟩ := h
    rfl
  obtain ⟨v, t, rfl, hv, hg, hd, hn, hz, q⟩ := h
  have nd := scIG.nd
  have hu := hu_of hr
  refine ⟨_, (pss_cons (ps_if (PW.pt (pw_and (pt_val (pe_callB (call_isi (T := "dict") (by decide)) rfl B.isinstance bt_isinstance (pa_cons (pv 0) (pa_cons (pe_bltn (v := .ty "dict") rfl B.dict bt_dict rfl) pa_nil)))) (pw_and1 (pt_not (pt_val (pe_callB (call_all rfl) rfl B.all bt_all (pa_cons (pe_thaw (pe_comp (own := ["_law_name"]) (F := []) ⟨rfl, by with_unfolding_all rfl, by with_unfolding_all rfl, by with_unfolding_all rfl, .nil⟩ rfl (pi_dict (pv 0)) (fun _ _ _ _ => pg_name (i := 0) (by show (compN ["_law_name"] []).Nodup; decide +kernel) rfl (Or.inl rfl)) (fun _ _ _ _ => pts_nil) (fun _ _ _ _ => (pe_cd G_law_good_name hr (by omega) rfl (pa_cons (pv 0) pa_nil))))) pa_nil))))))) (pss_one (ps_ret pe_bl)) pss_nil)
    (pss_one (ps_ret (pe_or (pe_not (pe_callB (call_isi2 (T := "list") (U := "dict") (by decide) (by decide)) rfl B.isinstance bt_isinstance (pa_cons (pv 0) (pa_cons (pe_tup (pa_cons (pe_bltn (v := .ty "list") rfl B.list bt_list rfl) (pa_cons (pe_bltn (v := .ty "dict") rfl B.dict bt_dict rfl) pa_nil))) pa_nil)))) (pe_one (pe_callB (call_all rfl) rfl B.all bt_all (pa_cons (pe_comp (own := ["_law_one"]) (F := []) ⟨rfl, by with_unfolding_all rfl, by with_unfolding_all rfl, by with_unfolding_all rfl, .nil⟩ rfl (pi_list (pe_cd G_law_inner hr (by omega) rfl (pa_cons (pv 0) pa_nil))) (fun _ _ _ _ => pg_name (i := 0) (by show (compN ["_law_one"] []).Nodup; decide +kernel) rfl (Or.inl rfl)) (fun _ _ _ _ => pts_nil) (fun _ _ _ _ => (pe_cd G_law_thing_good hr (by omega) rfl (pa_cons (pv 0) pa_nil)))) pa_nil))))))), ?_⟩
  rw [show start ["_law_thing"] [v] = [some v] from rfl]
  walk_at "rd3"
  have go : ∀ H2, Same H H2 → (isHT t = true → igT t = (kidsT t).all thingT) → (isHT t = false → igT t = true) → ∀ p, H2 p = none → ∃ x t' p_1, (v = x ∧ p = p_1) ∧ upd H2 p (HO.tup [V.ty "list", V.ty "dict"]) p_1 = some (HO.tup [V.ty "list", V.ty "dict"]) ∧ tyS (upd H2 p (HO.tup [V.ty "list", V.ty "dict"])) x = some t' ∧
      ∃ c, (isSub t' "list" || isSub t' "dict") = !c ∧ if c = true then Q (V.bl true) (upd H2 p (HO.tup [V.ty "list", V.ty "dict"])) else
        spInner [v] (upd H2 p (HO.tup [V.ty "list", V.ty "dict"])) (fun x H1 => ∃ a, x = V.ref a ∧ (∃ xs, SqL K H1 a xs) ∧ CompBody [Str.ofString "_law_one"] [] (gName 0) tTrue (tCall (spTG n) [] E0 (tCons (tVar 0) tNil)) [some v]
          (fun x H1 => ∃ p, x = V.ref p ∧ ∃ x, SqL K H1 p (List.map V.bl x) ∧ Q (V.bl (x.all _root_.id)) H1) (Itl K a) H1) E0 := by
    intro H2 g2 hq1 hq2 p hp
    have s1 := g2.trans (same_new hp (.tup [V.ty "list", V.ty "dict"]))
    refine ⟨v, _, p, ⟨rfl, rfl⟩, upd_same, tyS_same s1 hv.ty, !isHT t, by rw [ty_hT, Bool.not_not], ?_⟩
    by_cases hh : isHT t = true
    · refine iN (by rw [hh]; decide) ⟨v, t, rfl, Rep.same s1 _ _ hv, hg, hh, hz, fun l ys H1 g1 hl hR => ?_⟩
      obtain ⟨k1, k2, k3, k4⟩ := kid_all hh
      have hgd := kid_gd hh hg
      have hlen := hR.length
      have hle := T.szs_len (kidsT t)
      refine ⟨l, rfl, ⟨_, SqL.of hl⟩, comp_list (K := K) (xs := ys) (fun i zs H2 => Same H1 H2 ∧ zs = (((kidsT t).take i).map thingT).map V.bl) (by rw [sizeLine_eq]; omega) ⟨Same.refl _, rfl⟩ (fun i zs H2 _ h => SqL.of (h.1 _ _ hl)) ?_ ?_⟩
      · rintro i x zs H2 hx _ ⟨g2, rfl⟩
        obtain ⟨u, hu, hr'⟩ := hR.get hx
        have hm := List.mem_of_getElem? hu
        have d1 := T.deps_le hm
        have d2 := T.szs_le hm
        walk_at "rd3"
        refine ⟨x, u, rfl, Rep.same g2 _ _ hr', T.gds_mem hgd hm, by omega, by omega, by omega, fun H3 g3 => ⟨g2.trans g3, ?_⟩⟩
        rw [take_succ_of hu, List.map_append, List.map_append]; rfl
      · rintro zs H3 _ ⟨g3, rfl⟩ p' hp'
        rw [hlen, List.take_length]
        refine ⟨p', rfl, _, SqL.of upd_same, ?_⟩
        rw [List.all_map]
        show Q (V.bl ((kidsT t).all thingT)) _
        rw [← hq1 hh]
        exact q _ (s1.trans (g1.trans (g3.trans (same_new hp' _))))
    · rw [Bool.not_eq_true] at hh
      refine iP (by rw [hh]; rfl) ?_
      rw [← hq2 hh]
      exact q _ s1
  refine ⟨_, hv.ty, ?_⟩
  cases t with
  | dic ks us =>
    refine iP (show isSub "dict" "dict" = true by decide +kernel) ?_
    have hvv := hv
    obtain ⟨d, ps, rfl, hdd, hk, hs⟩ := hvv
    have hl0 := T.szs_len us
    have hz' : T.szs us + 1 ≤ 1000 := hz
    have hpl : ps.length = us.length := by have := hs.length; rwa [List.length_map] at this
    refine ⟨d, rfl, ps, .inl ⟨hdd, fun o => ?_⟩⟩
    refine comp_dict (fun i ys H' => Same (upd H d (.frz o (.dK ps))) H' ∧ ys = ((ks.take i).map okName).map V.bl) (by rw [sizeLine_eq]; omega) ⟨Same.refl _, rfl⟩ (fun i ys H' h => h.1 _ _ upd_same) ?_ ?_
    · rintro i kv ys H' hkv _ ⟨g, rfl⟩
      obtain ⟨k, hk1, hk2⟩ : ∃ k, ks[i]? = some k ∧ kv.1 = nK k := by
        have e := congrArg (fun l => l[i]?) hk
        simp only [List.getElem?_map, hkv, Option.map_some] at e
        cases hc : ks[i]? with
        | none => rw [hc] at e; cases e
        | some k => rw [hc] at e; exact ⟨k, rfl, Option.some.inj e⟩
      walk_at "rd3"
      refine ⟨kV kv.1, "str", rfl, by rw [hk2]; rfl, fun x e => ?_, fun H2 g2 => ⟨g.trans g2, ?_⟩⟩
      · rw [hk2] at e
        have e' : tx k = x := V.str.inj e
        rw [← e', tx_len]
        exact hg.2.2.1 k (List.mem_of_getElem? hk1)
      · rw [take_succ_of hk1, List.map_append, List.map_append, hk2]
        rfl
    · rintro ys H' _ ⟨g, rfl⟩ p hp'
      have hkl := hg.2.1
      have e0 : ks.take ps.length = ks := by rw [show ps.length = ks.length by omega, List.take_length]
      rw [e0]
      have gs : Same H (thaw H (upd H' p (.lst ((ks.map okName).map V.bl)))) := thaw_walk (o := o) hdd (g.trans (same_new hp' _))
      refine ⟨p, rfl, _, SqL.of (thaw_of upd_same (by intro o v z; cases z)), ?_⟩
      rw [List.all_map]
      by_cases c : (ks.all (_root_.id ∘ okName)) = false
      · refine iP c ?_
        have e : igT (.dic ks us) = false := by
          show (ks.all okName && us.all thingT) = false
          rw [show ks.all okName = false from c]; rfl
        rw [← e]; exact q _ gs
      · refine iN c (go _ gs (fun _ => ?_) fun h => nomatch h)
        rw [Bool.not_eq_false] at c
        show (ks.all okName && us.all thingT) = us.all thingT
        rw [show ks.all okName = true from c]; rfl
  | lst us => exact iN (show ¬ isSub "list" "dict" = true by decide +kernel) (go _ (Same.refl _) (fun _ => rfl) fun h => nomatch h)
  | non => exact iN (show ¬ isSub "NoneType" "dict" = true by decide +kernel) (go _ (Same.refl _) (fun h => nomatch h) fun _ => rfl)
  | bl b => exact iN (show ¬ isSub "bool" "dict" = true by decide +kernel) (go _ (Same.refl _) (fun h => nomatch h) fun _ => rfl)
  | int b => exact iN (show ¬ isSub "int" "dict" = true by decide +kernel) (go _ (Same.refl _) (fun h => nomatch h) fun _ => rfl)
  | str b => exact iN (show ¬ isSub "str" "dict" = true by decide +kernel) (go _ (Same.refl _) (fun h => nomatch h) fun _ => rfl)
  | tup b => exact iN (show ¬ isSub "tuple" "dict" = true by decide +kernel) (go _ (Same.refl _) (fun h => nomatch h) fun _ => rfl)
theorem scTG : FnScope ["_law_thing"] ["_law_thing"] (defScope sTG) := ⟨rfl, rfl, rfl, by decide +kernel, rfl, by decide +kernel, by decide +kernel⟩
theorem ok_tgS {n : Nat} (F : Fun K "_law_thing_good" "_law_thing_good" sTG f fd) (B : Bl5 mg) (G_law_good : Dn P w K mg base 23 "_law_good" ["_law_thing"] spLG) (G_law_inner_good : Dn P w K mg base (2 * n + 24) "_law_inner_good" ["_law_thing"] (spIG n)) : FnOk P w K mg base CX0 (2 * n + 24 + 1) f fd ["_law_thing"] (spTG n) := by
  refine F.ok scTG (fun vs H Q E h => ?_) (fun cdv A outer s H vs Q E hr h => ?_)
  · obtain ⟨v, t, rfl, _⟩ := h
    rfl
  obtain ⟨v, t, rfl, hv, hg, hd, hn, hz, q⟩ := h
  have nd := scTG.nd
  refine ⟨_, (pss_cons (ps_if (pt_val (pe_callB (call_isi (T := "tuple") (by decide)) rfl B.isinstance bt_isinstance (pa_cons (pv 0) (pa_cons (pe_bltn (v := .ty "tuple") rfl B.tuple bt_tuple rfl) pa_nil)))) (pss_one (ps_ret pe_bl)) pss_nil)
    (pss_cons (ps_if (PW.pt (pw_and (pt_val (pe_callB (call_isi (T := "int") (by decide)) rfl B.isinstance bt_isinstance (pa_cons (pv 0) (pa_cons (pe_bltn (v := .ty "int") rfl B.int bt_int rfl) pa_nil)))) (pw_and1 (pt_not (pt_val (pe_callB (call_isi (T := "bool") (by decide)) rfl B.isinstance bt_isinstance (pa_cons (pv 0) (pa_cons (pe_bltn (v := .ty "bool") rfl B.bool bt_bool rfl) pa_nil)))))))) (pss_one (ps_ret (pe_cmpR op_le (pe_callB call_abs rfl B.abs bt_abs (pa_cons (pv 0) pa_nil)) (pe_op op_pow pe_int pe_int) (nomark _)))) pss_nil)
    (pss_cons (ps_if (pt_val (pe_callB (call_isi (T := "str") (by decide)) rfl B.isinstance bt_isinstance (pa_cons (pv 0) (pa_cons (pe_bltn (v := .ty "str") rfl B.str bt_str rfl) pa_nil)))) (pss_one (ps_ret (pe_and (pe_cmpR op_lt (pe_callB call_len_str rfl B.len bt_len (pa_cons (pv 0) pa_nil)) pe_int (nomark _)) (pe_and (pe_cmpR op_eq (pe_bm PySem.F.plainAttrs_str PySem.F.slot_str_count PySem.F.type_str_count mt_count (pv 0) (pa_cons pe_str pa_nil)) pe_int (nomark _)) (pe_one (pe_cmpR op_eq (pe_bm PySem.F.plainAttrs_str PySem.F.slot_str_count PySem.F.type_str_count mt_count (pv 0) (pa_cons pe_str pa_nil)) pe_int (nomark _))))))) pss_nil)
    (pss_one (ps_ret (pe_and (pe_cd G_law_good hr (by omega) rfl (pa_cons (pv 0) pa_nil)) (pe_one (pe_cd G_law_inner_good hr (by omega) rfl (pa_cons (pv 0) pa_nil))))))))), ?_⟩
  rw [show start ["_law_thing"] [v] = [some v] from rfl]
  walk_at "rd3"
  have go : spLG [v] H (fun x H1 => ∃ c, x = V.bl c ∧ if c = true then spIG n [v] H1 Q E0 else Q (V.bl false) H1) E0 ∨ ((lgood t && igT t) = thingT t → spLG [v] H (fun x H1 => ∃ c, x = V.bl c ∧ if c = true then spIG n [v] H1 Q E0 else Q (V.bl false) H1) E0) := by
    refine .inr fun e => ⟨v, t, rfl, hv, hg, by omega, hz, fun H1 g1 => ⟨lgood t, rfl, ?_⟩⟩
    rw [← e] at q
    by_cases c : lgood t = true
    · rw [c, Bool.true_and] at q
      exact iP c ⟨v, t, rfl, Rep.same g1 _ _ hv, hg, hd, hn, hz, fun H2 g2 => q _ (g1.trans g2)⟩
    · rw [Bool.not_eq_true] at c
      rw [c, Bool.false_and] at q
      exact iN (by rw [c]; decide) (q _ g1)
  have go : (lgood t && igT t) = thingT t → spLG [v] H (fun x H1 => ∃ c, x = V.bl c ∧ if c = true then spIG n [v] H1 Q E0 else Q (V.bl false) H1) E0 := fun e => go.elim (fun h => h) fun h => h e
  refine ⟨_, hv.ty, ?_⟩
  have q0 := q _ (Same.refl _)
  cases t with
  | tup us => exact iP (show isSub "tuple" "tuple" = true by decide +kernel) q0
  | int i =>
    refine iN (show ¬ isSub "int" "tuple" = true by decide +kernel) ⟨_, hv.ty, iP (show isSub "int" "int" = true by decide +kernel) ⟨_, hv.ty, iP (show isSub "int" "bool" = false by decide +kernel) ⟨i, hv, ?_⟩⟩⟩
    have e : thingT (.int i) = decide ((if i < 0 then -i else i) ≤ 1000000000000) := by
      show (decide (-(10 ^ 12) ≤ i ∧ i ≤ 10 ^ 12) && true && true) = _
      rw [Bool.and_true, Bool.and_true]
      refine decide_eq_decide.mpr ?_
      split <;> omega
    rw [← e]; exact q0
  | bl b =>
    refine iN (show ¬ isSub "bool" "tuple" = true by decide +kernel) ⟨_, hv.ty, iP (show isSub "bool" "int" = true by decide +kernel) ⟨_, hv.ty, iN (show ¬ isSub "bool" "bool" = false by decide +kernel) ⟨_, hv.ty, iN (show ¬ isSub "bool" "str" = true by decide +kernel) (go rfl)⟩⟩⟩
  | non =>
    exact iN (show ¬ isSub "NoneType" "tuple" = true by decide +kernel) ⟨_, hv.ty, iN (show ¬ isSub "NoneType" "int" = true by decide +kernel) ⟨_, hv.ty, iN (show ¬ isSub "NoneType" "str" = true by decide +kernel) (go rfl)⟩⟩
  | lst us =>
    exact iN (show ¬ isSub "list" "tuple" = true by decide +kernel) ⟨_, hv.ty, iN (show ¬ isSub "list" "int" = true by decide +kernel) ⟨_, hv.ty, iN (show ¬ isSub "list" "str" = true by decide +kernel) (go (fin_lst us))⟩⟩
  | dic ks us =>
    exact iN (show ¬ isSub "dict" "tuple" = true by decide +kernel) ⟨_, hv.ty, iN (show ¬ isSub "dict" "int" = true by decide +kernel) ⟨_, hv.ty, iN (show ¬ isSub "dict" "str" = true by decide +kernel) (go (fin_dic ks us))⟩⟩
  | str x =>
    cases (show v = _ from hv)
    refine iN (show ¬ isSub "str" "tuple" = true by decide +kernel) ⟨_, hv.ty, iN (show ¬ isSub "str" "int" = true by decide +kernel) ⟨_, hv.ty, iP (show isSub "str" "str" = true by decide +kernel) ⟨_, rfl, ?_, ?_⟩⟩⟩
    · rw [tx_len]; have := hg.1; omega
    have e : thingT (.str x) = (decide (x.length ≤ 30) && x.all fun c => decide (c ∈ sgnL)) := by
      show (_ && true && true) = _
      rw [Bool.and_true, Bool.and_true]; rfl
    rw [e] at q0
    have e9 : Str.ofString "\t" = ⟨#[9]⟩ := by decide +kernel
    have e10 : Str.ofString "\n" = ⟨#[10]⟩ := by decide +kernel
    rw [e9, e10]
    by_cases c : x.length ≤ 30
    · rw [decide_eq_true c, Bool.true_and] at q0
      refine iP (by rw [tx_len]; omega) ⟨rfl, _, _, rfl, rfl, rfl, ?_⟩
      by_cases c9 : 9 ∈ x
      · refine iN (fun z => ?_) ?_
        · have z' := Int.ofNat.inj (V.int.inj z)
          exact (occ_zero (tx x) 9).mp z' c9
        · rw [show (x.all fun c => decide (c ∈ sgnL)) = false from by
            rw [Bool.eq_false_iff]
            intro h
            have := List.all_eq_true.mp h 9 c9
            exact absurd this (by decide +kernel)] at q0
          exact q0
      · refine iP ?_ ⟨rfl, _, _, rfl, rfl, rfl, ?_⟩
        · rw [(occ_zero (tx x) 9).mpr c9]; rfl
        by_cases c10 : 10 ∈ x
        · have hne : ¬ V.int ((occurrences (tx x) ⟨#[10]⟩ 0 (tx x).length ((tx x).length + 1)).length : Int) = V.int 0 := fun z => (occ_zero (tx x) 10).mp (Int.ofNat.inj (V.int.inj z)) c10
          rw [decide_eq_false hne]
          rw [show (x.all fun c => decide (c ∈ sgnL)) = false from by
            rw [Bool.eq_false_iff]
            intro h
            have := List.all_eq_true.mp h 10 c10
            exact absurd this (by decide +kernel)] at q0
          exact q0
        · rw [decide_eq_true (by rw [(occ_zero (tx x) 10).mpr c10]; rfl)]
          rw [show (x.all fun c => decide (c ∈ sgnL)) = true from by
            rw [List.all_eq_true]
            intro c hc
            rcases hg.2 c hc with z | z | z
            · exact decide_eq_true z
            · exact absurd (z ▸ hc) c9
            · exact absurd (z ▸ hc) c10] at q0
          exact q0
    · rw [decide_eq_false c, Bool.false_and] at q0
      exact iN (by rw [tx_len]; omega) q0
theorem ok_ig0 (F : Fun K "_law_inner_good" "_law_inner_good" sIG f fd) : FnOk P w K mg base CX0 24 f fd ["_law_thing"] (spIG 0) := by
  refine F.ok scIG (fun vs H Q E h => ?_) (fun cdv A outer s H vs Q E hr h => ?_)
  · obtain ⟨v, t, rfl, _⟩ := h
    rfl
  obtain ⟨v, t, rfl, hv, hg, hd, _⟩ := h
  exact absurd hd (Nat.not_lt_zero _)
end
section
variable {P : Program} {w : World} {K : PySem.W.Frag} {mg : Str → Option Value} {base : Heap} {f f' : Addr} {fd fd' : FuncData}
theorem tg_all (F : Fun K "_law_inner_good" "_law_inner_good" sIG f fd) (F' : Fun K "_law_thing_good" "_law_thing_good" sTG f' fd') (B : Bl mg) (B5 : Bl5 mg) (G1 : Dn P w K mg base 1 "_law_good_name" ["_law_word"] spGood) (G2 : Dn P w K mg base 1 "_law_inner" ["_law_thing"] spInner) (G3 : Dn P w K mg base 23 "_law_good" ["_law_thing"] spLG)
    (b : Binds K fd ["_law_thing"] []) (kp : PySem.W.keepIn K (.ref f) = true) (m : mg "_law_inner_good" = some (.ref f)) (b' : Binds K fd' ["_law_thing"] []) (kp' : PySem.W.keepIn K (.ref f') = true) (m' : mg "_law_thing_good" = some (.ref f')) :
    ∀ n : Nat, FnOk P w K mg base CX0 (2 * n + 24) f fd ["_law_thing"] (spIG n) ∧ FnOk P w K mg base CX0 (2 * n + 24 + 1) f' fd' ["_law_thing"] (spTG n)
  | 0 => ⟨ok_ig0 F, ok_tgS F' B5 G3 ⟨_, _, ok_ig0 F, b, kp, m⟩⟩
  | n + 1 => by
    obtain ⟨h1, h2⟩ := tg_all F F' B B5 G1 G2 G3 b kp m b' kp' m' n
    have h3 : FnOk P w K mg base CX0 (2 * (n + 1) + 24) f fd ["_law_thing"] (spIG (n + 1)) := (ok_igS F B G1 G2 ⟨_, _, h2, b', kp', m'⟩).mono (by omega)
    exact ⟨h3, ok_tgS F' B5 G3 ⟨_, _, h3, b, kp, m⟩⟩
end
end K41
namespace K41
open PySem L2
local macro_rules | `(tactic| walk_at "rd") => `(tactic| simp only [cxOf_K, nox_K, compCx_K, tSeq, tNext, tAsg, gName, tRet, tRetN, tIfS, tDrop, tOp, tUn, tVar, tC, tCall, tCons, tNil, tTest, tB, tAnd, tOr, tNot, tAndV, tOrV, tNotV, tIf, tCB, tBM, tComp, tTrue, tPart, tNoPart, tSl, tChain, tIsN, tNotN, tLst, tTup, tFor_eq, sDPut, tDNewK, tNever, rI0, rI, rU, rEq, rNe, rMulS, rInC, iRng1, iStr, CDiv, CMul, CPow, scal, List.append_nil, List.getElem?_cons_zero, List.getElem?_cons_succ, List.set_cons_zero, List.set_cons_succ, List.map_cons, List.map_nil, List.length_cons, List.length_nil, sizeLine_eq, Nat.reduceAdd, Nat.reduceLeDiff, Option.join_some, Option.join_none, Option.some.injEq, V.int.injEq, V.str.injEq, V.bl.injEq, V.ref.injEq, V.ty.injEq, List.cons.injEq, and_true, true_and, and_self, exists_eq_left', exists_eq_left, exists_and_left, exists_and_right, decide_eq_true_eq, Bool.not_eq_eq_eq_not, Bool.not_true, Bool.not_false, decide_eq_false_iff_not, Int.reduceLT, Int.reduceLE, Int.reduceNeg, Int.reducePow, Int.reduceAdd, Int.reduceSub, Int.reduceMul, Int.reduceToNat, natAbs10, Nat.reduceLT, Nat.reducePow, or_true, true_or, if_true, if_false, Bool.false_eq_true, ite_true, ite_false, reduceCtorEq])
local macro_rules | `(tactic| walk_at "rd3") => `(tactic| simp only [gTup, gCons, gNil, iZip, tIsT, tDisp, tPairs, tBM0, iList, iDict, tThaw, tMaxD, rMaxD, tDGet, rVals, tComp, cxOf_K, nox_K, compCx_K, tSeq, tNext, tAsg, gName, tRet, tRetN, tIfS, tDrop, tOp, tUn, tVar, tC, tCall, tCons, tNil, tTest, tB, tAnd, tOr, tNot, tAndV, tOrV, tNotV, tIf, tCB, tBM, tComp, tTrue, tPart, tNoPart, tSl, tChain, tIsN, tNotN, tLst, tTup, tFor_eq, sDPut, tDNewK, tNever, rI0, rI, rU, rEq, rNe, rMulS, rInC, iRng1, iStr, CDiv, CMul, CPow, scal, List.append_nil, List.getElem?_cons_zero, List.getElem?_cons_succ, List.set_cons_zero, List.set_cons_succ, List.map_cons, List.map_nil, List.length_cons, List.length_nil, sizeLine_eq, Nat.reduceAdd, Nat.reduceLeDiff, Option.join_some, Option.join_none, Option.some.injEq, V.int.injEq, V.str.injEq, V.bl.injEq, V.ref.injEq, V.ty.injEq, List.cons.injEq, and_true, true_and, and_self, exists_eq_left', exists_eq_left, exists_and_left, exists_and_right, decide_eq_true_eq, Bool.not_eq_eq_eq_not, Bool.not_true, Bool.not_false, decide_eq_false_iff_not, Int.reduceLT, Int.reduceLE, Int.reduceNeg, Int.reducePow, Int.reduceAdd, Int.reduceSub, Int.reduceMul, Int.reduceToNat, natAbs10, Nat.reduceLT, Nat.reducePow, or_true, true_or, if_true, if_false, Bool.false_eq_true, ite_true, ite_false, reduceCtorEq])
seal L2.PSs L2.PS L2.PE L2.PT L2.PW L2.PA L2.PI L2.PG L2.PGs L2.PPs L2.PTs
abbrev sPlace : Stmt := top 20
abbrev sIsPath : Stmt := top 19
abbrev sLPG : Stmt := top 38
section
variable {P : Program} {w : World} {K : PySem.W.Frag} {mg : Str → Option Value} {base : Heap} {f : Addr} {fd : FuncData}
def spKind : Sp := fun vs H Q _ => ∃ (v : V) (t : T), vs = [v] ∧ Rep H v t ∧ ∀ H', Same H H' → Q (kindV (tyT t)) H'
theorem kind_T {k : Nat} {ps : List Str} (h : FnOk P w K mg base CX0 k f fd ps spKindR) : FnOk P w K mg base CX0 k f fd ps spKind :=
  h.imp fun vs H Q E ⟨v, t, e, hv, q⟩ => ⟨v, tyT t, e, tyR_of hv.ty, q⟩
def nameT : T → Bool
  | .str x => okName x
  | _ => false
def placeT : T → Bool
  | .int i => decide (0 ≤ i ∧ i < 60)
  | _ => false
def stepOk (t : T) : Bool := nameT t || placeT t
def pathOk : T → Bool
  | .lst us => decide (us.length ≤ 8) && us.all stepOk
  | _ => false
/-- texts not too long -/
def shortT : T → Prop
  | .str x => x.length ≤ 1000
  | .lst us => us.length ≤ 100 ∧ ∀ x, T.str x ∈ us → x.length ≤ 1000
  | _ => True
def spPlace : Sp := fun vs H Q _ => ∃ (v : V) (t : T), vs = [v] ∧ Rep H v t ∧ ∀ H', Same H H' → Q (.bl (placeT t)) H'
theorem scPlace : FnScope ["thing"] ["thing"] (defScope sPlace) := ⟨rfl, rfl, rfl, by decide +kernel, rfl, by decide +kernel, by decide +kernel⟩
theorem ok_place (F : Fun K "is_place" "is_place" sPlace f fd) (B : Bl mg) (M : Ms mg) (Gkind_of : Dn P w K mg base 1 "kind_of" ["thing"] spKind) : FnOk P w K mg base CX0 2 f fd ["thing"] spPlace := by
  refine F.ok scPlace (fun vs H Q E h => ?_) (fun cdv A outer s H vs Q E hr h => ?_)
  · obtain ⟨v, t, rfl, _⟩ := h
    rfl
  obtain ⟨v, t, rfl, hv, q⟩ := h
  have nd := scPlace.nd
  refine ⟨_, (pss_one (ps_ret (pe_and (pe_cmpR op_eq (pe_cd Gkind_of hr (by omega) rfl (pa_cons (pv 0) pa_nil)) pe_str (nomark _)) (pe_one (pe_chain op_le op_lt pe_int (pv 0) (pe_gi rfl M.MOST_IN_ROW)))))), ?_⟩
  rw [show start ["thing"] [v] = [some v] from rfl]
  walk_at "rd3"
  refine ⟨v, t, rfl, hv, fun H1 g1 => ?_⟩
  have q := q H1 g1
  cases t with
  | int i =>
    cases (show v = _ from hv)
    refine ⟨rfl, iP (show kindV "int" = V.str (Str.ofString "number") by decide +kernel) ⟨i, rfl, ?_⟩⟩
    by_cases c0 : 0 ≤ i
    · refine iP c0 ⟨i, rfl, ?_⟩
      have e : placeT (.int i) = decide (i < 60) := by simp [placeT, c0]
      rw [← e]; exact q
    · refine iN c0 ?_
      have e : placeT (.int i) = false := by simp [placeT, c0]
      rw [← e]; exact q
  | non => exact ⟨rfl, iN (show ¬ kindV "NoneType" = V.str (Str.ofString "number") by decide +kernel) q⟩
  | bl b => exact ⟨rfl, iN (show ¬ kindV "bool" = V.str (Str.ofString "number") by decide +kernel) q⟩
  | str b => exact ⟨rfl, iN (show ¬ kindV "str" = V.str (Str.ofString "number") by decide +kernel) q⟩
  | lst b => exact ⟨rfl, iN (show ¬ kindV "list" = V.str (Str.ofString "number") by decide +kernel) q⟩
  | dic b c => exact ⟨rfl, iN (show ¬ kindV "dict" = V.str (Str.ofString "number") by decide +kernel) q⟩
  | tup b => exact ⟨rfl, iN (show ¬ kindV "tuple" = V.str (Str.ofString "number") by decide +kernel) q⟩
theorem name_of {H : Hp} {v : V} {t : T} (h : Rep H v t) : nameV v = nameT t := by
  cases t with
  | non => cases (show v = _ from h); rfl
  | bl b => cases (show v = _ from h); rfl
  | int b => cases (show v = _ from h); rfl
  | str b =>
    cases (show v = _ from h)
    show okName (ts (tx b)) = okName b
    rw [ts_tx]
  | lst b =>
    obtain ⟨a, xs, rfl, _⟩ := h
    rfl
  | dic b c =>
    obtain ⟨a, xs, rfl, _⟩ := h
    rfl
  | tup b =>
    obtain ⟨a, xs, rfl, _⟩ := h
    rfl
theorem short_str {H : Hp} {v : V} {t : T} (h : Rep H v t) (hs : ∀ x, t = .str x → x.length ≤ 1000) : ∀ x, v = .str x → x.length ≤ 1000 := by
  intro x e
  subst e
  cases t with
  | str b =>
    have e : V.str x = V.str (tx b) := h
    cases e
    rw [tx_len]
    exact hs b rfl
  | non => cases (show V.str x = V.non from h)
  | bl b => cases (show V.str x = V.bl b from h)
  | int b => cases (show V.str x = V.int b from h)
  | lst b =>
    obtain ⟨a, xs, e, _⟩ := h
    cases e
  | dic b c =>
    obtain ⟨a, xs, e, _⟩ := h
    cases e
  | tup b =>
    obtain ⟨a, xs, e, _⟩ := h
    cases e
def spIsPath : Sp := fun vs H Q _ => ∃ (v : V) (t : T), vs = [v] ∧ Rep H v t ∧ shortT t ∧ ∀ H', Same H H' → Q (.bl (pathOk t)) H'
theorem ty_list (t : T) : isSub (tyT t) "list" = false ∨ ∃ us, t = .lst us := by
  cases t with
  | lst us => exact .inr ⟨us, rfl⟩
  | _ => exact .inl (by simp only [tyT]; decide +kernel)
theorem path_no {t : T} (h : isSub (tyT t) "list" = false) : pathOk t = false := by
  cases t with
  | lst us => exact absurd h (by simp only [tyT]; decide +kernel)
  | _ => rfl
theorem scIsPath : FnScope ["thing"] ["thing"] (defScope sIsPath) := ⟨rfl, rfl, rfl, by decide +kernel, rfl, by decide +kernel, by decide +kernel⟩
theorem ok_is_path (F : Fun K "is_path" "is_path" sIsPath f fd) (B : Bl mg) (M : Ms mg) (Gis_name : Dn P w K mg base 1 "is_name" ["thing"] spGood) (Gis_place : Dn P w K mg base 2 "is_place" ["thing"] spPlace) : FnOk P w K mg base CX0 3 f fd ["thing"] spIsPath := by
  refine F.ok scIsPath (fun vs H Q E h => ?_) (fun cdv A outer s H vs Q E hr h => ?_)
  · obtain ⟨v, t, rfl, _⟩ := h
    rfl
  obtain ⟨v, t, rfl, hv, hsh, q⟩ := h
  have nd := scIsPath.nd
  refine ⟨_, (pss_cons (ps_if (PW.pt (pw_or (pt_not (pt_val (pe_callB (call_isi (T := "list") (by decide)) rfl B.isinstance bt_isinstance (pa_cons (pv 0) (pa_cons (pe_bltn (v := .ty "list") rfl B.list bt_list rfl) pa_nil))))) (pw_or1 (pt_cmpR op_gt (pe_callB call_len_l rfl B.len bt_len (pa_cons (pv 0) pa_nil)) (pe_gi rfl M.MOST_STEPS) (nomark _))))) (pss_one (ps_ret pe_bl)) pss_nil)
    (pss_one (ps_ret (pe_callB (call_all rfl) rfl B.all bt_all (pa_cons (pe_comp (own := ["step"]) (F := []) ⟨rfl, by with_unfolding_all rfl, by with_unfolding_all rfl, by with_unfolding_all rfl, .nil⟩ rfl (pi_list (pv 0)) (fun _ _ _ _ => pg_name (i := 0) (by show (compN ["step"] []).Nodup; decide +kernel) rfl (Or.inl rfl)) (fun _ _ _ _ => pts_nil) (fun _ _ _ _ => (pe_or (pe_cd Gis_name hr (by omega) rfl (pa_cons (pv 0) pa_nil)) (pe_one (pe_cd Gis_place hr (by omega) rfl (pa_cons (pv 0) pa_nil)))))) pa_nil))))), ?_⟩
  rw [show start ["thing"] [v] = [some v] from rfl]
  walk_at "rd3"
  refine ⟨_, hv.ty, ?_⟩
  rcases ty_list t with hn | ⟨us, rfl⟩
  · refine iP hn ?_
    rw [← path_no hn]; exact q _ (Same.refl _)
  refine iN (by simp only [tyT]; decide +kernel) ?_
  obtain ⟨a, xs, rfl, ha, hx⟩ := hv
  have hl := hx.length
  obtain ⟨h100, hsh⟩ := hsh
  refine ⟨a, rfl, xs, SqL.of ha, ?_⟩
  by_cases h8 : 8 < xs.length
  · refine iP (by omega) ?_
    have e : pathOk (.lst us) = false := by
      show (decide (us.length ≤ 8) && us.all stepOk) = false
      rw [decide_eq_false (by omega)]; rfl
    rw [← e]; exact q _ (Same.refl _)
  refine iN (by omega) ⟨a, rfl, ⟨xs, SqL.of ha⟩, ?_⟩
  refine comp_list (K := K) (xs := xs) (fun i zs H2 => Same H H2 ∧ zs = ((us.take i).map stepOk).map V.bl) (by rw [sizeLine_eq]; omega) ⟨Same.refl _, rfl⟩ (fun i zs H2 _ h => SqL.of (h.1 _ _ ha)) ?_ ?_
  · rintro i v zs H2 hv _ ⟨g, rfl⟩
    obtain ⟨t, ht, hr'⟩ := hx.get hv
    have hr2 := Rep.same g _ _ hr'
    walk_at "rd3"
    refine ⟨v, _, rfl, hr2.ty, short_str hr2 (fun x e => hsh x (by rw [← e]; exact List.mem_of_getElem? ht)), fun H3 g3 => ?_⟩
    rw [name_of hr2]
    have fin : ∀ b H4, Same H2 H4 → b = stepOk t → Same H H4 ∧ ((us.take i).map stepOk).map V.bl ++ [V.bl b] = ((us.take (i + 1)).map stepOk).map V.bl := fun b H4 g4 e => by
      refine ⟨g.trans g4, ?_⟩
      rw [take_succ_of ht, List.map_append, List.map_append, e]; rfl
    refine ⟨nameT t, rfl, ?_⟩
    by_cases hn : nameT t = true
    · refine iP hn (fin true H3 g3 ?_)
      unfold stepOk; rw [hn]; rfl
    · refine iN hn ⟨v, t, rfl, Rep.same g3 _ _ hr2, fun H4 g4 => fin _ H4 (g3.trans g4) ?_⟩
      rw [Bool.not_eq_true] at hn
      unfold stepOk; rw [hn]; rfl
  · rintro zs H2 _ ⟨g, rfl⟩ l hl'
    rw [hl, List.take_length]
    refine ⟨l, rfl, _, SqL.of upd_same, ?_⟩
    have e : (us.map stepOk).all id = pathOk (.lst us) := by
      show _ = (decide (us.length ≤ 8) && us.all stepOk)
      rw [decide_eq_true (by omega), Bool.true_and, List.all_map]; rfl
    rw [e]
    exact q _ (g.trans (same_new hl' _))
theorem scLPG : FnScope ["_law_path_here", "_law_step"] ["_law_path_here"] (defScope sLPG) := ⟨rfl, rfl, rfl, by decide +kernel, rfl, by decide +kernel, by decide +kernel⟩
theorem ok_lpg (F : Fun K "_law_path_good" "_law_path_good" sLPG f fd) (B : Bl mg) (G_law_good_name : Dn P w K mg base 1 "_law_good_name" ["_law_word"] spGood) : FnOk P w K mg base CX0 2 f fd ["_law_path_here"] spIsPath := by
  refine F.ok scLPG (fun vs H Q E h => ?_) (fun cdv A outer s H vs Q E hr h => ?_)
  · obtain ⟨v, t, rfl, _⟩ := h
    rfl
  obtain ⟨v, t, rfl, hv, hsh, q⟩ := h
  have nd := scLPG.nd
  refine ⟨_, (pss_cons (ps_if (PW.pt (pw_or (pt_not (pt_val (pe_callB (call_isi (T := "list") (by decide)) rfl B.isinstance bt_isinstance (pa_cons (pv 0) (pa_cons (pe_bltn (v := .ty "list") rfl B.list bt_list rfl) pa_nil))))) (pw_or1 (pt_cmpR op_gt (pe_callB call_len_l rfl B.len bt_len (pa_cons (pv 0) pa_nil)) pe_int (nomark _))))) (pss_one (ps_ret pe_bl)) pss_nil)
    (pss_cons (ps_for PassesOwn.never rfl (pi_list (pv 0)) (pg_name (i := 1) nd rfl (Or.inl rfl)) (pss_cons (ps_if (PW.pt (pw_or (pt_val (pe_callB (call_isi (T := "bool") (by decide)) rfl B.isinstance bt_isinstance (pa_cons (pv 1) (pa_cons (pe_bltn (v := .ty "bool") rfl B.bool bt_bool rfl) pa_nil)))) (pw_or1 (pt_not (pt_val (pe_callB (call_isi2 (T := "int") (U := "str") (by decide) (by decide)) rfl B.isinstance bt_isinstance (pa_cons (pv 1) (pa_cons (pe_tup (pa_cons (pe_bltn (v := .ty "int") rfl B.int bt_int rfl) (pa_cons (pe_bltn (v := .ty "str") rfl B.str bt_str rfl) pa_nil))) pa_nil)))))))) (pss_one (ps_ret pe_bl)) pss_nil)
    (pss_one (ps_if (PW.pt (pw_or (PW.pt (pw_and (pt_val (pe_callB (call_isi (T := "str") (by decide)) rfl B.isinstance bt_isinstance (pa_cons (pv 1) (pa_cons (pe_bltn (v := .ty "str") rfl B.str bt_str rfl) pa_nil)))) (pw_and1 (pt_not (pt_val (pe_cd G_law_good_name hr (by omega) rfl (pa_cons (pv 1) pa_nil))))))) (pw_or1 (PW.pt (pw_and (pt_val (pe_callB (call_isi (T := "int") (by decide)) rfl B.isinstance bt_isinstance (pa_cons (pv 1) (pa_cons (pe_bltn (v := .ty "int") rfl B.int bt_int rfl) pa_nil)))) (pw_and1 (pt_cmpR op_notin_rng (pv 1) (pe_callTy call_range rfl B.range bt_range (pa_cons pe_int pa_nil)) (by with_unfolding_all rfl)))))))) (pss_one (ps_ret pe_bl)) pss_nil))))
    (pss_one (ps_ret pe_bl)))), ?_⟩
  rw [show start ["_law_path_here", "_law_step"] [v] = [some v, none] from rfl]
  walk_at "rd3"
  refine ⟨_, hv.ty, ?_⟩
  rcases ty_list t with hn | ⟨us, rfl⟩
  · refine iP hn ?_
    rw [← path_no hn]; exact q _ (Same.refl _)
  refine iN (by simp only [tyT]; decide +kernel) ?_
  obtain ⟨a, xs, rfl, ha, hx⟩ := hv
  have hl := hx.length
  obtain ⟨h100, hsh⟩ := hsh
  refine ⟨a, rfl, xs, SqL.of ha, ?_⟩
  by_cases h8 : 8 < xs.length
  · refine iP (by omega) ?_
    have e : pathOk (.lst us) = false := by
      show (decide (us.length ≤ 8) && us.all stepOk) = false
      rw [decide_eq_false (by omega)]; rfl
    rw [← e]; exact q _ (Same.refl _)
  refine iN (by omega) ⟨a, rfl, ⟨xs, SqL.of ha⟩, ?_⟩
  refine forB_list (K := K) (a := a) (xs := xs) (fun i σ H2 => (∃ o1, σ = [some (V.ref a), o1]) ∧ Same H H2 ∧ (us.take i).all stepOk = true) ⟨⟨_, rfl⟩, Same.refl _, rfl⟩ (fun i σ H2 _ h => SqL.of (h.2.1 _ _ ha)) ?_ ?_
  · rintro i v σ H2 hv ⟨⟨o1, rfl⟩, g, hall⟩
    obtain ⟨t, ht, hr'⟩ := hx.get hv
    have hr2 := Rep.same g _ _ hr'
    have hall2 : stepOk t = true → (us.take (i + 1)).all stepOk = true := fun e => by
      rw [take_succ_of ht, List.all_append, hall, Bool.true_and]
      simp [e]
    have hbad : stepOk t = false → pathOk (.lst us) = false := fun e => by
      show (decide (us.length ≤ 8) && us.all stepOk) = false
      rw [Bool.and_eq_false_iff]
      right
      rw [Bool.eq_false_iff]
      intro z
      have := List.all_eq_true.mp z t (List.mem_of_getElem? ht)
      rw [e] at this; cases this
    walk_at "rd3"
    have no : ∀ Hx, Same H2 Hx → stepOk t = false → Q (V.bl false) Hx := fun Hx gx e => by
      rw [← hbad e]; exact q _ (g.trans gx)
    have tys : ∀ {Hx : Hp}, Same H2 Hx → tyS Hx v = some (tyT t) := fun gx => tyS_same gx hr2.ty
    refine ⟨_, hr2.ty, ?_⟩
    cases t with
    | bl b => exact iP (show isSub "bool" "bool" = true by decide +kernel) (no _ (Same.refl _) rfl)
    | non => exact iN (show ¬ isSub "NoneType" "bool" = true by decide +kernel) fun p hp => ⟨v, _, p, ⟨rfl, rfl⟩, upd_same, tys (same_new hp _), iP (show (isSub "NoneType" "int" || isSub "NoneType" "str") = false by decide +kernel) (no _ (same_new hp _) rfl)⟩
    | lst b => exact iN (show ¬ isSub "list" "bool" = true by decide +kernel) fun p hp => ⟨v, _, p, ⟨rfl, rfl⟩, upd_same, tys (same_new hp _), iP (show (isSub "list" "int" || isSub "list" "str") = false by decide +kernel) (no _ (same_new hp _) rfl)⟩
    | dic b c => exact iN (show ¬ isSub "dict" "bool" = true by decide +kernel) fun p hp => ⟨v, _, p, ⟨rfl, rfl⟩, upd_same, tys (same_new hp _), iP (show (isSub "dict" "int" || isSub "dict" "str") = false by decide +kernel) (no _ (same_new hp _) rfl)⟩
    | tup b => exact iN (show ¬ isSub "tuple" "bool" = true by decide +kernel) fun p hp => ⟨v, _, p, ⟨rfl, rfl⟩, upd_same, tys (same_new hp _), iP (show (isSub "tuple" "int" || isSub "tuple" "str") = false by decide +kernel) (no _ (same_new hp _) rfl)⟩
    | int j =>
      refine iN (show ¬ isSub "int" "bool" = true by decide +kernel) fun p hp => ⟨v, _, p, ⟨rfl, rfl⟩, upd_same, tys (same_new hp _), iN (show ¬ (isSub "int" "int" || isSub "int" "str") = false by decide +kernel) ⟨_, tys (same_new hp _), iN (show ¬ isSub "int" "str" = true by decide +kernel) ⟨_, tys (same_new hp _), iP (show isSub "int" "int" = true by decide +kernel) fun p2 hp2 => ?_⟩⟩⟩
      have G := (same_new hp (.tup [V.ty "int", V.ty "str"])).trans (same_new hp2 (rngO p2 60))
      refine ⟨p2, 60, j, hr2, rfl, upd_same, _, rfl, ?_⟩
      by_cases c : 0 ≤ j ∧ j < 60
      · refine iN (by rw [decide_eq_true c]; decide) ⟨⟨_, rfl⟩, g.trans G, hall2 ?_⟩
        show (nameT (.int j) || placeT (.int j)) = true
        simp only [nameT, placeT, Bool.false_or, decide_eq_true_eq]
        exact c
      · refine iP (by rw [decide_eq_false c]; rfl) (no _ G ?_)
        show (nameT (.int j) || placeT (.int j)) = false
        simp only [nameT, placeT, Bool.false_or, decide_eq_false_iff_not]
        exact c
    | str x =>
      refine iN (show ¬ isSub "str" "bool" = true by decide +kernel) fun p hp => ⟨v, _, p, ⟨rfl, rfl⟩, upd_same, tys (same_new hp _), iN (show ¬ (isSub "str" "int" || isSub "str" "str") = false by decide +kernel) ⟨_, tys (same_new hp _), iP (show isSub "str" "str" = true by decide +kernel) ?_⟩⟩
      have hx' := hsh x (List.mem_of_getElem? ht)
      refine ⟨v, _, rfl, tys (same_new hp _), short_str hr2 (fun y e => by cases e; exact hx'), fun H3 g3 => ⟨nameT (.str x), by rw [name_of hr2], ?_⟩⟩
      have G := (same_new hp (.tup [V.ty "int", V.ty "str"])).trans g3
      by_cases c : nameT (.str x) = true
      · refine iN (by rw [c]; decide) ⟨_, tys G, iN (show ¬ isSub "str" "int" = true by decide +kernel) ⟨⟨_, rfl⟩, g.trans G, hall2 ?_⟩⟩
        show (nameT (.str x) || placeT (.str x)) = true
        rw [c]; rfl
      · rw [Bool.not_eq_true] at c
        refine iP c (no _ G ?_)
        show (nameT (.str x) || placeT (.str x)) = false
        rw [c]; rfl
  · rintro σ H2 ⟨⟨o1, rfl⟩, g, hall⟩
    walk_at "rd3"
    rw [hl, List.take_length] at hall
    have e : pathOk (.lst us) = true := by
      show (decide (us.length ≤ 8) && us.all stepOk) = true
      rw [decide_eq_true (by omega), hall]; rfl
    rw [← e]; exact q _ g
end
end K41
namespace K41
open PySem L2
local macro_rules | `(tactic| walk_at "rd") => `(tactic| simp only [cxOf_K, nox_K, compCx_K, tSeq, tNext, tAsg, gName, tRet, tRetN, tIfS, tDrop, tOp, tUn, tVar, tC, tCall, tCons, tNil, tTest, tB, tAnd, tOr, tNot, tAndV, tOrV, tNotV, tIf, tCB, tBM, tComp, tTrue, tPart, tNoPart, tSl, tChain, tIsN, tNotN, tLst, tTup, tFor_eq, sDPut, tDNewK, tNever, rI0, rI, rU, rEq, rNe, rMulS, rInC, iRng1, iStr, CDiv, CMul, CPow, scal, List.append_nil, List.getElem?_cons_zero, List.getElem?_cons_succ, List.set_cons_zero, List.set_cons_succ, List.map_cons, List.map_nil, List.length_cons, List.length_nil, sizeLine_eq, Nat.reduceAdd, Nat.reduceLeDiff, Option.join_some, Option.join_none, Option.some.injEq, V.int.injEq, V.str.injEq, V.bl.injEq, V.ref.injEq, V.ty.injEq, List.cons.injEq, and_true, true_and, and_self, exists_eq_left', exists_eq_left, exists_and_left, exists_and_right, decide_eq_true_eq, Bool.not_eq_eq_eq_not, Bool.not_true, Bool.not_false, decide_eq_false_iff_not, Int.reduceLT, Int.reduceLE, Int.reduceNeg, Int.reducePow, Int.reduceAdd, Int.reduceSub, Int.reduceMul, Int.reduceToNat, natAbs10, Nat.reduceLT, Nat.reducePow, or_true, true_or, if_true, if_false, Bool.false_eq_true, ite_true, ite_false, reduceCtorEq])
local macro_rules | `(tactic| walk_at "rd3") => `(tactic| simp only [gTup, gCons, gNil, iZip, tIsT, tDisp, tPairs, tBM0, iList, iDict, tThaw, tMaxD, rMaxD, tDGet, rVals, tComp, cxOf_K, nox_K, compCx_K, tSeq, tNext, tAsg, gName, tRet, tRetN, tIfS, tDrop, tOp, tUn, tVar, tC, tCall, tCons, tNil, tTest, tB, tAnd, tOr, tNot, tAndV, tOrV, tNotV, tIf, tCB, tBM, tComp, tTrue, tPart, tNoPart, tSl, tChain, tIsN, tNotN, tLst, tTup, tFor_eq, sDPut, tDNewK, tNever, rI0, rI, rU, rEq, rNe, rMulS, rInC, iRng1, iStr, CDiv, CMul, CPow, scal, List.append_nil, List.getElem?_cons_zero, List.getElem?_cons_succ, List.set_cons_zero, List.set_cons_succ, List.map_cons, List.map_nil, List.length_cons, List.length_nil, sizeLine_eq, Nat.reduceAdd, Nat.reduceLeDiff, Option.join_some, Option.join_none, Option.some.injEq, V.int.injEq, V.str.injEq, V.bl.injEq, V.ref.injEq, V.ty.injEq, List.cons.injEq, and_true, true_and, and_self, exists_eq_left', exists_eq_left, exists_and_left, exists_and_right, decide_eq_true_eq, Bool.not_eq_eq_eq_not, Bool.not_true, Bool.not_false, decide_eq_false_iff_not, Int.reduceLT, Int.reduceLE, Int.reduceNeg, Int.reducePow, Int.reduceAdd, Int.reduceSub, Int.reduceMul, Int.reduceToNat, natAbs10, Nat.reduceLT, Nat.reducePow, or_true, true_or, if_true, if_false, Bool.false_eq_true, ite_true, ite_false, reduceCtorEq])
seal L2.PSs L2.PS L2.PE L2.PT L2.PW L2.PA L2.PI L2.PG L2.PGs L2.PPs L2.PTs
abbrev sDeed : Stmt := top 24
abbrev sLDG : Stmt := top 41
def wTake : T := .str (ts (Str.ofString "take"))
def wPut : T := .str (ts (Str.ofString "put"))
def wIns : T := .str (ts (Str.ofString "insert"))
def isW (t w : T) : Bool := match t, w with
  | .str x, .str y => decide (x = y)
  | _, _ => false
def deedOk : T → Bool
  | .tup [a, p] => pathOk p && isW a wTake
  | .tup [a, p, x] => pathOk p && ((isW a wPut || isW a wIns) && thingT x)
  | _ => false
/-- what a deed may hold: a word, flat or a list; a path; a thing -/
def dOk : T → Prop
  | .tup [a, p] => isD a ∧ T.gd p ∧ T.sz p ≤ 1000
  | .tup [a, p, x] => isD a ∧ T.gd p ∧ T.sz p ≤ 1000 ∧ T.gd x ∧ T.sz x ≤ 1000 ∧ T.dep x < 20
  | _ => True
where isD : T → Prop
  | .dic _ _ => False
  | .tup _ => False
  | _ => True
theorem gd_short {t : T} (h : T.gd t) (hz : T.sz t ≤ 1000) (hl : ∀ us, t = .lst us → us.length ≤ 100) : shortT t := by
  cases t with
  | str x => exact h.1
  | lst us => exact ⟨hl us rfl, fun x hx => (T.gds_mem h hx).1⟩
  | _ => exact True.intro
theorem rIxT_i {K : PySem.W.Frag} {H : Hp} {a : Addr} {xs : List V} {i : Int} {v : V} {Q : VK} (h1 : SqT K H a xs) (h2 : atI xs i = some v) (q : Q v H) : rIxT K (.ref a) (.int i) H Q := ⟨a, xs, i, v, rfl, rfl, h1, h2, q⟩
theorem eqV_str (x : List Nat) (y : Str) : eqV (.str y) (.str (tx x)) = decide (x = ts y) := by
  show (y == tx x) = decide (x = ts y)
  rw [Bool.eq_iff_iff, beq_iff_eq, decide_eq_true_eq]
  constructor
  · intro e; rw [e]
  · intro e; rw [e, tx_ts]
theorem eqS_i {H : Hp} {v : V} {a : T} {z : Str} {Q : VK} (hv : Rep H v a) (hd : dOk.isD a) (q : Q (.bl (isW a (.str (ts z)))) H) : rEqS v (.str z) H Q := by
  refine ⟨z, rfl, ?_⟩
  cases a with
  | non => cases (show v = _ from hv); exact .inl ⟨rfl, q⟩
  | bl b => cases (show v = _ from hv); exact .inl ⟨rfl, q⟩
  | int b => cases (show v = _ from hv); exact .inl ⟨rfl, q⟩
  | str x =>
    cases (show v = _ from hv)
    refine .inl ⟨rfl, ?_⟩
    have e : decide (V.str (tx x) = V.str z) = isW (.str x) (.str (ts z)) := by
      show _ = decide (x = ts z)
      refine decide_eq_decide.mpr ⟨fun h => ?_, fun h => ?_⟩
      · rw [← V.str.inj h]
      · rw [h, tx_ts]
    rw [e]; exact q
  | lst us =>
    obtain ⟨a, xs, rfl, ha, _⟩ := hv
    exact .inr ⟨a, xs, rfl, ha, q⟩
  | dic _ _ => exact hd.elim
  | tup _ => exact hd.elim
theorem inS_i {K : PySem.W.Frag} {H : Hp} {v : V} {a : T} {p : Addr} {Q : VK} (hv : Rep H v a) (hd : dOk.isD a) (hp : H p = some (.tup [.str (Str.ofString "put"), .str (Str.ofString "insert")])) (q : Q (.bl (isW a wPut || isW a wIns)) H) : rInS K v (.ref p) H Q := by
  refine ⟨p, [Str.ofString "put", Str.ofString "insert"], rfl, hp, ?_⟩
  cases a with
  | non => cases (show v = _ from hv); exact .inl ⟨rfl, q⟩
  | bl b => cases (show v = _ from hv); exact .inl ⟨rfl, q⟩
  | int b => cases (show v = _ from hv); exact .inl ⟨rfl, q⟩
  | str x =>
    cases (show v = _ from hv)
    refine .inl ⟨rfl, ?_⟩
    have e : inV (V.str (tx x)) ([Str.ofString "put", Str.ofString "insert"].map V.str) = (isW (.str x) wPut || isW (.str x) wIns) := by
      show (eqV _ _ || (eqV _ _ || false)) = _
      rw [eqV_str, eqV_str, Bool.or_false]; rfl
    rw [e]; exact q
  | lst us =>
    obtain ⟨a, xs, rfl, ha, _⟩ := hv
    exact .inr ⟨a, xs, rfl, ha, q⟩
  | dic _ _ => exact hd.elim
  | tup _ => exact hd.elim
theorem isW_no {a w : T} (h : ∀ x, a ≠ .str x) : isW a w = false := by
  cases a with
  | str x => exact absurd rfl (h x)
  | _ => rfl
section
variable {P : Program} {w : World} {K : PySem.W.Frag} {mg : Str → Option Value} {base : Heap} {f : Addr} {fd : FuncData}
def spDeed : Sp := fun vs H Q _ => ∃ (v : V) (t : T), vs = [v] ∧ Rep H v t ∧ dOk t ∧ True ∧ (∀ a p r us, t = .tup (a :: p :: r) → p = .lst us → us.length ≤ 100) ∧ ∀ H', Same H H' → Q (.bl (deedOk t)) H'
theorem scDeed : FnScope ["thing"] ["thing"] (defScope sDeed) := ⟨rfl, rfl, rfl, by decide +kernel, rfl, by decide +kernel, by decide +kernel⟩
theorem ok_deed (F : Fun K "is_deed" "is_deed" sDeed f fd) (B : Bl mg) (Gis_path : Dn P w K mg base 3 "is_path" ["thing"] spIsPath) (Gis_thing : Dn P w K mg base 3 "is_thing" ["thing"] spThT) : FnOk P w K mg base CX0 4 f fd ["thing"] spDeed := by
  refine F.ok scDeed (fun vs H Q E h => ?_) (fun cdv A outer s H vs Q E hr h => ?_)
  · obtain ⟨v, t, rfl, _⟩ := h
    rfl
  obtain ⟨v, t, rfl, hv, hok, hz, hlen, q⟩ := h
  have nd := scDeed.nd
  have hu := hu_of hr
  refine ⟨_, (pss_cons (ps_if (PW.pt (pw_or (pt_not (pt_val (pe_callB (call_isi (T := "tuple") (by decide)) rfl B.isinstance bt_isinstance (pa_cons (pv 0) (pa_cons (pe_bltn (v := .ty "tuple") rfl B.tuple bt_tuple rfl) pa_nil))))) (pw_or (pt_not (pt_chain op_le op_le pe_int (pe_callB call_len_seq rfl B.len bt_len (pa_cons (pv 0) pa_nil)) pe_int)) (pw_or1 (pt_not (pt_val (pe_cd Gis_path hr (by omega) rfl (pa_cons (pe_ix ix_tup (pv 0) pe_int (fun _ _ => rfl)) pa_nil)))))))) (pss_one (ps_ret pe_bl)) pss_nil)
    (pss_cons (ps_if (pt_cmpR op_eq (pe_callB call_len_seq rfl B.len bt_len (pa_cons (pv 0) pa_nil)) pe_int (nomark _)) (pss_one (ps_ret (pe_cmpR (op_eq_S hu) (pe_ix ix_tup (pv 0) pe_int (fun _ _ => rfl)) pe_str (nomark _)))) pss_nil)
    (pss_one (ps_ret (pe_and (pe_cmpR (op_in_S hu) (pe_ix ix_tup (pv 0) pe_int (fun _ _ => rfl)) (pe_tup (pa_cons pe_str (pa_cons pe_str pa_nil))) (by with_unfolding_all rfl)) (pe_one (pe_cd Gis_thing hr (by omega) rfl (pa_cons (pe_ix ix_tup (pv 0) pe_int (fun _ _ => rfl)) pa_nil)))))))), ?_⟩
  rw [show start ["thing"] [v] = [some v] from rfl]
  walk_at "rd3"
  have q0 := q _ (Same.refl _)
  refine ⟨_, hv.ty, ?_⟩
  have nt : ∀ {y : String}, isSub y "tuple" = false → deedOk t = false → (if isSub y "tuple" = false then Q (V.bl false) H else False) := fun h e => iP h (e ▸ q0)
  cases t with
  | non => exact iP (show isSub "NoneType" "tuple" = false by decide +kernel) q0
  | bl b => exact iP (show isSub "bool" "tuple" = false by decide +kernel) q0
  | int b => exact iP (show isSub "int" "tuple" = false by decide +kernel) q0
  | str b => exact iP (show isSub "str" "tuple" = false by decide +kernel) q0
  | lst b => exact iP (show isSub "list" "tuple" = false by decide +kernel) q0
  | dic b c => exact iP (show isSub "dict" "tuple" = false by decide +kernel) q0
  | tup us =>
    refine iN (show ¬ isSub "tuple" "tuple" = false by decide +kernel) ?_
    obtain ⟨p, xs, rfl, hp, hx⟩ := hv
    have hl := hx.length
    refine ⟨p, rfl, xs, .inr (SqT.of hp), ?_⟩
    match us, hx, hok, q, q0, hlen, hz, hl with
    | [], hx, hok, q, q0, hlen, hz, hl => exact iN (by simp only [List.length_nil] at hl; omega) q0
    | [_], hx, hok, q, q0, hlen, hz, hl => exact iN (by simp only [List.length_cons, List.length_nil] at hl; omega) q0
    | _ :: _ :: _ :: _ :: _, hx, hok, q, q0, hlen, hz, hl => exact iP (by simp only [List.length_cons] at hl; omega) (iP (by simp only [List.length_cons] at hl; omega) q0)
    | [a, pt], hx, hok, q, q0, hlen, hz, hl =>
      simp only [List.length_cons, List.length_nil] at hl
      obtain ⟨d1, d2, d3⟩ := hok
      obtain ⟨va, r1, rfl, ra, vp, r2, rfl, rp, e⟩ := hx
      have e : r2 = [] := e
      subst e
      refine iP (by omega) (iN (by omega) (rIxT_i (SqT.of hp) (atI_nat (j := 1) rfl) ?_))
      refine ⟨vp, pt, rfl, rp, gd_short d2 d3 (fun us e => hlen a pt [] us rfl e), fun H1 g1 => ⟨pathOk pt, rfl, ?_⟩⟩
      have q : ∀ H', Same H H' → Q (V.bl (pathOk pt && isW a wTake)) H' := q
      by_cases c : pathOk pt = true
      · rw [c, Bool.true_and] at q
        exact iN (by rw [c]; decide) ⟨p, rfl, _, .inr (SqT.of (g1 _ _ hp)), iP (by rfl) (rIxT_i (SqT.of (g1 _ _ hp)) (atI_nat (j := 0) rfl) (eqS_i (Rep.same g1 _ _ ra) d1 (q _ g1)))⟩
      · rw [Bool.not_eq_true] at c
        rw [c, Bool.false_and] at q
        exact iP c (q _ g1)
    | [a, pt, x], hx, hok, q, q0, hlen, hz, hl =>
      simp only [List.length_cons, List.length_nil] at hl
      obtain ⟨d1, d2, d3, d4, d5, d6⟩ := hok
      obtain ⟨va, r1, rfl, ra, vp, r2, rfl, rp, vx, r3, rfl, rx, e⟩ := hx
      have e : r3 = [] := e
      subst e
      refine iP (by omega) (iN (by omega) (rIxT_i (SqT.of hp) (atI_nat (j := 1) rfl) ?_))
      refine ⟨vp, pt, rfl, rp, gd_short d2 d3 (fun us e => hlen a pt [x] us rfl e), fun H1 g1 => ⟨pathOk pt, rfl, ?_⟩⟩
      have q : ∀ H', Same H H' → Q (V.bl (pathOk pt && ((isW a wPut || isW a wIns) && thingT x))) H' := q
      by_cases c : pathOk pt = true
      · rw [c, Bool.true_and] at q
        refine iN (by rw [c]; decide) ⟨p, rfl, _, .inr (SqT.of (g1 _ _ hp)), iN (by show ¬ ((3 : Nat) : Int) = 2; decide) (rIxT_i (SqT.of (g1 _ _ hp)) (atI_nat (j := 0) rfl) fun p2 hp2 => ?_)⟩
        have g2 := g1.trans (same_new hp2 (.tup [V.str (Str.ofString "put"), V.str (Str.ofString "insert")]))
        refine inS_i (Rep.same g2 _ _ ra) d1 upd_same ⟨_, rfl, ?_⟩
        by_cases c2 : (isW a wPut || isW a wIns) = true
        · rw [c2, Bool.true_and] at q
          exact iP c2 (rIxT_i (SqT.of (g2 _ _ hp)) (atI_nat (j := 2) rfl) ⟨vx, x, rfl, Rep.same g2 _ _ rx, d4, d5, fun H3 g3 => q _ (g2.trans g3)⟩)
        · rw [Bool.not_eq_true] at c2
          rw [c2, Bool.false_and] at q
          exact iN (by rw [c2]; decide) (q _ g2)
      · rw [Bool.not_eq_true] at c
        rw [c, Bool.false_and] at q
        exact iP c (q _ g1)
theorem scLDG : FnScope ["_law_deed"] ["_law_deed"] (defScope sLDG) := ⟨rfl, rfl, rfl, by decide +kernel, rfl, by decide +kernel, by decide +kernel⟩
theorem ok_ldg (F : Fun K "_law_deed_good" "_law_deed_good" sLDG f fd) (B : Bl mg) (G_law_path_good : Dn P w K mg base 2 "_law_path_good" ["_law_path_here"] spIsPath) (G_law_thing_good : Dn P w K mg base 65 "_law_thing_good" ["_law_thing"] (spTG 20)) : FnOk P w K mg base CX0 66 f fd ["_law_deed"] spDeed := by
  refine F.ok scLDG (fun vs H Q E h => ?_) (fun cdv A outer s H vs Q E hr h => ?_)
  · obtain ⟨v, t, rfl, _⟩ := h
    rfl
  obtain ⟨v, t, rfl, hv, hok, hz, hlen, q⟩ := h
  have nd := scLDG.nd
  refine ⟨_, (pss_cons (ps_if (PW.pt (pw_or (pt_not (pt_val (pe_callB (call_isi (T := "tuple") (by decide)) rfl B.isinstance bt_isinstance (pa_cons (pv 0) (pa_cons (pe_bltn (v := .ty "tuple") rfl B.tuple bt_tuple rfl) pa_nil))))) (pw_or (pt_cmpR op_notIn_seq (pe_callB call_len_seq rfl B.len bt_len (pa_cons (pv 0) pa_nil)) (pe_tup (pa_cons pe_int (pa_cons pe_int pa_nil))) (by with_unfolding_all rfl)) (pw_or1 (pt_not (pt_val (pe_callB (call_isi (T := "str") (by decide)) rfl B.isinstance bt_isinstance (pa_cons (pe_ix ix_tup (pv 0) pe_int (fun _ _ => rfl)) (pa_cons (pe_bltn (v := .ty "str") rfl B.str bt_str rfl) pa_nil))))))))) (pss_one (ps_ret pe_bl)) pss_nil)
    (pss_cons (ps_if (PW.pt (pw_or (pt_cmpR op_notIn_seq (pe_ix ix_tup (pv 0) pe_int (fun _ _ => rfl)) (pe_ix ix_list (pe_lst (pa_cons (pe_lst (pa_cons pe_str pa_nil)) (pa_cons (pe_lst (pa_cons pe_str (pa_cons pe_str pa_nil))) pa_nil))) (pe_op op_sub (pe_callB call_len_seq rfl B.len bt_len (pa_cons (pv 0) pa_nil)) pe_int) (fun _ _ => rfl)) (by with_unfolding_all rfl)) (pw_or1 (pt_not (pt_val (pe_cd G_law_path_good hr (by omega) rfl (pa_cons (pe_ix ix_tup (pv 0) pe_int (fun _ _ => rfl)) pa_nil))))))) (pss_one (ps_ret pe_bl)) pss_nil)
    (pss_one (ps_ret (pe_or (pe_cmpR op_eq (pe_callB call_len_seq rfl B.len bt_len (pa_cons (pv 0) pa_nil)) pe_int (nomark _)) (pe_one (pe_cd G_law_thing_good hr (by omega) rfl (pa_cons (pe_ix ix_tup (pv 0) pe_int (fun _ _ => rfl)) pa_nil)))))))), ?_⟩
  rw [show start ["_law_deed"] [v] = [some v] from rfl]
  walk_at "rd3"
  have q0 := q _ (Same.refl _)
  refine ⟨_, hv.ty, ?_⟩
  cases t with
  | non => exact iP (show isSub "NoneType" "tuple" = false by decide +kernel) q0
  | bl b => exact iP (show isSub "bool" "tuple" = false by decide +kernel) q0
  | int b => exact iP (show isSub "int" "tuple" = false by decide +kernel) q0
  | str b => exact iP (show isSub "str" "tuple" = false by decide +kernel) q0
  | lst b => exact iP (show isSub "list" "tuple" = false by decide +kernel) q0
  | dic b c => exact iP (show isSub "dict" "tuple" = false by decide +kernel) q0
  | tup us =>
    refine iN (show ¬ isSub "tuple" "tuple" = false by decide +kernel) ?_
    obtain ⟨p, xs, rfl, hp, hx⟩ := hv
    have hl := hx.length
    refine ⟨p, rfl, xs, .inr (SqT.of hp), fun p1 hp1 => ⟨p1, _, rfl, .inr (SqT.of upd_same), rfl, rfl, ?_⟩⟩
    have s1 := same_new hp1 (.tup [V.int 2, V.int 3])
    generalize upd H p1 (.tup [V.int 2, V.int 3]) = H1 at s1
    have hin : inV (V.int xs.length) [V.int 2, V.int 3] = (decide (xs.length = 2) || decide (xs.length = 3)) := by
      show (((2 : Int) == (xs.length : Int)) || (((3 : Int) == (xs.length : Int)) || false)) = _
      rw [Bool.or_false]
      congr 1
      · rw [Bool.eq_iff_iff, beq_iff_eq, decide_eq_true_eq]; omega
      · rw [Bool.eq_iff_iff, beq_iff_eq, decide_eq_true_eq]; omega
    refine ⟨_, rfl, ?_⟩
    rw [hin]
    match us, hx, hok, q, q0, hlen, hz, hl with
    | [], hx, hok, q, q0, hlen, hz, hl => exact iP (by rw [if_pos rfl, decide_eq_false (by simp only [List.length_nil] at hl; omega), decide_eq_false (by simp only [List.length_nil] at hl; omega)]; rfl) (q _ s1)
    | [_], hx, hok, q, q0, hlen, hz, hl => exact iP (by rw [if_pos rfl, decide_eq_false (by simp only [List.length_cons, List.length_nil] at hl; omega), decide_eq_false (by simp only [List.length_cons, List.length_nil] at hl; omega)]; rfl) (q _ s1)
    | _ :: _ :: _ :: _ :: _, hx, hok, q, q0, hlen, hz, hl => exact iP (by rw [if_pos rfl, decide_eq_false (by simp only [List.length_cons] at hl; omega), decide_eq_false (by simp only [List.length_cons] at hl; omega)]; rfl) (q _ s1)
    | [a, pt], hx, hok, q, q0, hlen, hz, hl =>
      simp only [List.length_cons, List.length_nil] at hl
      obtain ⟨d1, d2, d3⟩ := hok
      obtain ⟨va, r1, rfl, ra, vp, r2, rfl, rp, e⟩ := hx
      have e : r2 = [] := e
      subst e
      refine iN (by simp) (rIxT_i (SqT.of (s1 _ _ hp)) (atI_nat (j := 0) rfl) ⟨_, tyS_same s1 ra.ty, ?_⟩)
      have q : ∀ H', Same H H' → Q (V.bl (pathOk pt && isW a wTake)) H' := q
      have nos : ∀ {y : String}, isSub y "str" = false → (∀ x, a ≠ .str x) → ∀ {R : Prop}, (if isSub y "str" = false then Q (V.bl false) H1 else R) := fun h e => iP h (by
        have := q _ s1
        rw [isW_no e, Bool.and_false] at this
        exact this)
      cases a with
      | non => exact nos (show isSub "NoneType" "str" = false by decide +kernel) nofun
      | bl b => exact nos (show isSub "bool" "str" = false by decide +kernel) nofun
      | int b => exact nos (show isSub "int" "str" = false by decide +kernel) nofun
      | lst b => exact nos (show isSub "list" "str" = false by decide +kernel) nofun
      | dic _ _ => exact d1.elim
      | tup _ => exact d1.elim
      | str x =>
        cases (show va = _ from ra)
        refine iN (show ¬ isSub "str" "str" = false by decide +kernel) (rIxT_i (SqT.of (s1 _ _ hp)) (atI_nat (j := 0) rfl) fun p2 hp2 p3 hp3 p4 hp4 => ?_)
        have e2 := upd_same (H := H1) (a := p2) (o := .lst [V.str (Str.ofString "take")])
        have s2 := same_new hp2 (.lst [V.str (Str.ofString "take")])
        have s3 := same_new hp3 (.lst [V.str (Str.ofString "put"), V.str (Str.ofString "insert")])
        have s4 := same_new hp4 (.lst [V.ref p2, V.ref p3])
        have G := s1.trans (s2.trans (s3.trans s4))
        have e2' := s4 _ _ (s3 _ _ e2)
        refine ⟨p, rfl, _, .inr (SqT.of (G _ _ hp)), rIxL_i (SqL.of upd_same) (atI_nat (j := 0) rfl) ?_⟩
        generalize upd (upd (upd H1 p2 (.lst [V.str (Str.ofString "take")])) p3 (.lst [V.str (Str.ofString "put"), V.str (Str.ofString "insert")])) p4 (.lst [V.ref p2, V.ref p3]) = H4 at G e2' ⊢
        refine ⟨p2, _, rfl, .inl (SqL.of e2'), rfl, rfl, _, rfl, ?_⟩
        have hw : inV (V.str (tx x)) [V.str (Str.ofString "take")] = isW (.str x) wTake := by
          show (eqV _ _ || false) = _
          rw [eqV_str, Bool.or_false]; rfl
        rw [hw]
        by_cases c : isW (.str x) wTake = true
        · rw [c, Bool.and_true] at q
          refine iN (by rw [c]; decide) (rIxT_i (SqT.of (G _ _ hp)) (atI_nat (j := 1) rfl) ⟨vp, pt, rfl, Rep.same G _ _ rp, gd_short d2 d3 (fun us e => hlen _ pt [] us rfl e), fun H5 g5 => ⟨pathOk pt, rfl, ?_⟩⟩)
          by_cases c2 : pathOk pt = true
          · rw [c2] at q
            exact iN (by rw [c2]; decide) ⟨p, rfl, _, .inr (SqT.of (g5 _ _ (G _ _ hp))), iP rfl (q _ (G.trans g5))⟩
          · rw [Bool.not_eq_true] at c2
            rw [c2] at q
            exact iP c2 (q _ (G.trans g5))
        · rw [Bool.not_eq_true] at c
          rw [c, Bool.and_false] at q
          exact iP (by rw [c]; rfl) (q _ G)
    | [a, pt, y], hx, hok, q, q0, hlen, hz, hl =>
      simp only [List.length_cons, List.length_nil] at hl
      obtain ⟨d1, d2, d3, d4, d5, d6⟩ := hok
      obtain ⟨va, r1, rfl, ra, vp, r2, rfl, rp, vx, r3, rfl, rx, e⟩ := hx
      have e : r3 = [] := e
      subst e
      refine iN (by simp) (rIxT_i (SqT.of (s1 _ _ hp)) (atI_nat (j := 0) rfl) ⟨_, tyS_same s1 ra.ty, ?_⟩)
      have q : ∀ H', Same H H' → Q (V.bl (pathOk pt && ((isW a wPut || isW a wIns) && thingT y))) H' := q
      have nos : ∀ {y : String}, isSub y "str" = false → (∀ x, a ≠ .str x) → ∀ {R : Prop}, (if isSub y "str" = false then Q (V.bl false) H1 else R) := fun h e => iP h (by
        have := q _ s1
        rw [isW_no e, isW_no e, Bool.or_false, Bool.false_and, Bool.and_false] at this
        exact this)
      cases a with
      | non => exact nos (show isSub "NoneType" "str" = false by decide +kernel) nofun
      | bl b => exact nos (show isSub "bool" "str" = false by decide +kernel) nofun
      | int b => exact nos (show isSub "int" "str" = false by decide +kernel) nofun
      | lst b => exact nos (show isSub "list" "str" = false by decide +kernel) nofun
      | dic _ _ => exact d1.elim
      | tup _ => exact d1.elim
      | str x =>
        cases (show va = _ from ra)
        refine iN (show ¬ isSub "str" "str" = false by decide +kernel) (rIxT_i (SqT.of (s1 _ _ hp)) (atI_nat (j := 0) rfl) fun p2 hp2 p3 hp3 p4 hp4 => ?_)
        have s2 := same_new hp2 (.lst [V.str (Str.ofString "take")])
        have e3 := upd_same (H := upd H1 p2 (.lst [V.str (Str.ofString "take")])) (a := p3) (o := .lst [V.str (Str.ofString "put"), V.str (Str.ofString "insert")])
        have s3 := same_new hp3 (.lst [V.str (Str.ofString "put"), V.str (Str.ofString "insert")])
        have s4 := same_new hp4 (.lst [V.ref p2, V.ref p3])
        have G := s1.trans (s2.trans (s3.trans s4))
        have e3' := s4 _ _ e3
        refine ⟨p, rfl, _, .inr (SqT.of (G _ _ hp)), rIxL_i (SqL.of upd_same) (atI_nat (j := 1) rfl) ?_⟩
        generalize upd (upd (upd H1 p2 (.lst [V.str (Str.ofString "take")])) p3 (.lst [V.str (Str.ofString "put"), V.str (Str.ofString "insert")])) p4 (.lst [V.ref p2, V.ref p3]) = H4 at G e3' ⊢
        refine ⟨p3, _, rfl, .inl (SqL.of e3'), rfl, rfl, _, rfl, ?_⟩
        have hw : inV (V.str (tx x)) [V.str (Str.ofString "put"), V.str (Str.ofString "insert")] = (isW (.str x) wPut || isW (.str x) wIns) := by
          show (eqV _ _ || (eqV _ _ || false)) = _
          rw [eqV_str, eqV_str, Bool.or_false]; rfl
        rw [hw]
        by_cases c : (isW (.str x) wPut || isW (.str x) wIns) = true
        · rw [c, Bool.true_and] at q
          refine iN (by rw [c]; decide) (rIxT_i (SqT.of (G _ _ hp)) (atI_nat (j := 1) rfl) ⟨vp, pt, rfl, Rep.same G _ _ rp, gd_short d2 d3 (fun us e => hlen _ pt [y] us rfl e), fun H5 g5 => ⟨pathOk pt, rfl, ?_⟩⟩)
          by_cases c2 : pathOk pt = true
          · rw [c2, Bool.true_and] at q
            have G5 := G.trans g5
            refine iN (by rw [c2]; decide) ⟨p, rfl, _, .inr (SqT.of (G5 _ _ hp)), iN (by show ¬ ((3 : Nat) : Int) = 2; decide) (rIxT_i (SqT.of (G5 _ _ hp)) (atI_nat (j := 2) rfl) ⟨vx, y, rfl, Rep.same G5 _ _ rx, d4, d6, Nat.le_refl _, d5, fun H6 g6 => q _ (G5.trans g6)⟩)⟩
          · rw [Bool.not_eq_true] at c2
            rw [c2, Bool.false_and] at q
            exact iP c2 (q _ (G.trans g5))
        · rw [Bool.not_eq_true] at c
          rw [c, Bool.false_and, Bool.and_false] at q
          exact iP (by rw [c]; rfl) (q _ G)
end
end K41
namespace K41
open PySem L2
local macro_rules | `(tactic| walk_at "rd") => `(tactic| simp only [cxOf_K, nox_K, compCx_K, tSeq, tNext, tAsg, gName, tRet, tRetN, tIfS, tDrop, tOp, tUn, tVar, tC, tCall, tCons, tNil, tTest, tB, tAnd, tOr, tNot, tAndV, tOrV, tNotV, tIf, tCB, tBM, tComp, tTrue, tPart, tNoPart, tSl, tChain, tIsN, tNotN, tLst, tTup, tFor_eq, sDPut, tDNewK, tNever, rI0, rI, rU, rEq, rNe, rMulS, rInC, iRng1, iStr, CDiv, CMul, CPow, scal, List.append_nil, List.getElem?_cons_zero, List.getElem?_cons_succ, List.set_cons_zero, List.set_cons_succ, List.map_cons, List.map_nil, List.length_cons, List.length_nil, sizeLine_eq, Nat.reduceAdd, Nat.reduceLeDiff, Option.join_some, Option.join_none, Option.some.injEq, V.int.injEq, V.str.injEq, V.bl.injEq, V.ref.injEq, V.ty.injEq, List.cons.injEq, and_true, true_and, and_self, exists_eq_left', exists_eq_left, exists_and_left, exists_and_right, decide_eq_true_eq, Bool.not_eq_eq_eq_not, Bool.not_true, Bool.not_false, decide_eq_false_iff_not, Int.reduceLT, Int.reduceLE, Int.reduceNeg, Int.reducePow, Int.reduceAdd, Int.reduceSub, Int.reduceMul, Int.reduceToNat, natAbs10, Nat.reduceLT, Nat.reducePow, or_true, true_or, if_true, if_false, Bool.false_eq_true, ite_true, ite_false, reduceCtorEq])
local macro_rules | `(tactic| walk_at "rd3") => `(tactic| simp only [gTup, gCons, gNil, iZip, tIsT, tDisp, tPairs, tBM0, iList, iDict, tThaw, tMaxD, rMaxD, tDGet, rVals, tComp, cxOf_K, nox_K, compCx_K, tSeq, tNext, tAsg, gName, tRet, tRetN, tIfS, tDrop, tOp, tUn, tVar, tC, tCall, tCons, tNil, tTest, tB, tAnd, tOr, tNot, tAndV, tOrV, tNotV, tIf, tCB, tBM, tComp, tTrue, tPart, tNoPart, tSl, tChain, tIsN, tNotN, tLst, tTup, tFor_eq, sDPut, tDNewK, tNever, rI0, rI, rU, rEq, rNe, rMulS, rInC, iRng1, iStr, CDiv, CMul, CPow, scal, List.append_nil, List.getElem?_cons_zero, List.getElem?_cons_succ, List.set_cons_zero, List.set_cons_succ, List.map_cons, List.map_nil, List.length_cons, List.length_nil, sizeLine_eq, Nat.reduceAdd, Nat.reduceLeDiff, Option.join_some, Option.join_none, Option.some.injEq, V.int.injEq, V.str.injEq, V.bl.injEq, V.ref.injEq, V.ty.injEq, List.cons.injEq, and_true, true_and, and_self, exists_eq_left', exists_eq_left, exists_and_left, exists_and_right, decide_eq_true_eq, Bool.not_eq_eq_eq_not, Bool.not_true, Bool.not_false, decide_eq_false_iff_not, Int.reduceLT, Int.reduceLE, Int.reduceNeg, Int.reducePow, Int.reduceAdd, Int.reduceSub, Int.reduceMul, Int.reduceToNat, natAbs10, Nat.reduceLT, Nat.reducePow, or_true, true_or, if_true, if_false, Bool.false_eq_true, ite_true, ite_false, reduceCtorEq])
seal L2.PSs L2.PS L2.PE L2.PT L2.PW L2.PA L2.PI L2.PG L2.PGs L2.PPs L2.PTs
abbrev sPapr : Stmt := top 23
abbrev sPath : Stmt := top 42
abbrev sPlain : Stmt := top 43
def DD (t : T) : Prop := dOk t ∧ ∀ a p r us, t = .tup (a :: p :: r) → p = .lst us → us.length ≤ 100
def paperOk : T → Bool
  | .lst ds => decide (ds.length ≤ 400) && ds.all deedOk
  | _ => false
def pDD : T → Prop
  | .lst ds => ds.length ≤ 3000 ∧ ∀ d ∈ ds, DD d
  | _ => True
section
variable {P : Program} {w : World} {K : PySem.W.Frag} {mg : Str → Option Value} {base : Heap} {f : Addr} {fd : FuncData}
def spPap : Sp := fun vs H Q _ => ∃ (v : V) (t : T), vs = [v] ∧ Rep H v t ∧ pDD t ∧ ∀ H', Same H H' → Q (.bl (paperOk t)) H'
theorem scPapr : FnScope ["thing"] ["thing"] (defScope sPapr) := ⟨rfl, rfl, rfl, by decide +kernel, rfl, by decide +kernel, by decide +kernel⟩
theorem ok_papr (F : Fun K "is_paper" "is_paper" sPapr f fd) (B : Bl mg) (M : Ms mg) (Gis_deed : Dn P w K mg base 4 "is_deed" ["thing"] spDeed) : FnOk P w K mg base CX0 5 f fd ["thing"] spPap := by
  refine F.ok scPapr (fun vs H Q E h => ?_) (fun cdv A outer s H vs Q E hr h => ?_)
  · obtain ⟨v, t, rfl, _⟩ := h
    rfl
  obtain ⟨v, t, rfl, hv, hp, q⟩ := h
  have nd := scPapr.nd
  refine ⟨_, (pss_cons (ps_if (PW.pt (pw_or (pt_not (pt_val (pe_callB (call_isi (T := "list") (by decide)) rfl B.isinstance bt_isinstance (pa_cons (pv 0) (pa_cons (pe_bltn (v := .ty "list") rfl B.list bt_list rfl) pa_nil))))) (pw_or1 (pt_cmpR op_gt (pe_callB call_len_l rfl B.len bt_len (pa_cons (pv 0) pa_nil)) (pe_gi rfl M.MOST_DEEDS) (nomark _))))) (pss_one (ps_ret pe_bl)) pss_nil)
    (pss_one (ps_ret (pe_callB (call_all rfl) rfl B.all bt_all (pa_cons (pe_comp (own := ["part"]) (F := []) ⟨rfl, by with_unfolding_all rfl, by with_unfolding_all rfl, by with_unfolding_all rfl, .nil⟩ rfl (pi_list (pv 0)) (fun _ _ _ _ => pg_name (i := 0) (by show (compN ["part"] []).Nodup; decide +kernel) rfl (Or.inl rfl)) (fun _ _ _ _ => pts_nil) (fun _ _ _ _ => (pe_cd Gis_deed hr (by omega) rfl (pa_cons (pv 0) pa_nil)))) pa_nil))))), ?_⟩
  rw [show start ["thing"] [v] = [some v] from rfl]
  walk_at "rd3"
  refine ⟨_, hv.ty, ?_⟩
  rcases ty_list t with hn | ⟨us, rfl⟩
  · refine iP hn ?_
    have e : paperOk t = false := by
      cases t with
      | lst us => exact absurd hn (by simp only [tyT]; decide +kernel)
      | _ => rfl
    rw [← e]; exact q _ (Same.refl _)
  refine iN (by simp only [tyT]; decide +kernel) ?_
  obtain ⟨a, xs, rfl, ha, hx⟩ := hv
  have hl := hx.length
  obtain ⟨h3000, hp⟩ := hp
  refine ⟨a, rfl, xs, SqL.of ha, ?_⟩
  by_cases h4 : 400 < xs.length
  · refine iP (by omega) ?_
    have e : paperOk (.lst us) = false := by
      show (decide (us.length ≤ 400) && us.all deedOk) = false
      rw [decide_eq_false (by omega)]; rfl
    rw [← e]; exact q _ (Same.refl _)
  refine iN (by omega) ⟨a, rfl, ⟨xs, SqL.of ha⟩, ?_⟩
  refine comp_list (K := K) (xs := xs) (fun i zs H2 => Same H H2 ∧ zs = ((us.take i).map deedOk).map V.bl) (by rw [sizeLine_eq]; omega) ⟨Same.refl _, rfl⟩ (fun i zs H2 _ h => SqL.of (h.1 _ _ ha)) ?_ ?_
  · rintro i v zs H2 hv _ ⟨g, rfl⟩
    obtain ⟨t, ht, hr'⟩ := hx.get hv
    obtain ⟨d1, d2⟩ := hp t (List.mem_of_getElem? ht)
    walk_at "rd3"
    refine ⟨v, t, rfl, Rep.same g _ _ hr', d1, True.intro, d2, fun H3 g3 => ⟨g.trans g3, ?_⟩⟩
    rw [take_succ_of ht, List.map_append, List.map_append]; rfl
  · rintro zs H2 _ ⟨g, rfl⟩ l hl'
    rw [hl, List.take_length]
    refine ⟨l, rfl, _, SqL.of upd_same, ?_⟩
    have e : (us.map deedOk).all id = paperOk (.lst us) := by
      show _ = (decide (us.length ≤ 400) && us.all deedOk)
      rw [decide_eq_true (by omega), Bool.true_and, List.all_map]; rfl
    rw [e]
    exact q _ (g.trans (same_new hl' _))
theorem step_cases {t : T} (h : stepOk t = true) : (∃ x, t = .str x ∧ okName x = true) ∨ ∃ i, t = .int i ∧ placeT (.int i) = true := by
  cases t with
  | str x => exact .inl ⟨x, rfl, by simpa [stepOk, nameT, placeT] using h⟩
  | int i => exact .inr ⟨i, rfl, by simpa [stepOk, nameT, placeT] using h⟩
  | _ => exact absurd h (by simp [stepOk, nameT, placeT])
theorem step_sc {u : T} (h : stepOk u = true) : Sc u := by
  rcases step_cases h with ⟨x, rfl, hx⟩ | ⟨i, rfl, _⟩
  · exact .inr ⟨_, rfl⟩
  · exact .inl ⟨_, rfl⟩
theorem let_sgn : ∀ c ∈ letL ++ figL, c ∈ sgnL := by decide +kernel
theorem name_mem {x : List Nat} (h : okName x = true) : ∀ c ∈ x, c ∈ letL ++ figL := by
  unfold okName at h
  simp only [Bool.and_eq_true, List.all_eq_true, decide_eq_true_eq] at h
  exact h.2
theorem name_gd {x : List Nat} (h : okName x = true) : T.gd (.str x) := ⟨Nat.le_trans (okName_len h) (by decide), fun c hc => .inl (let_sgn c (name_mem h c hc))⟩
theorem step_gd {u : T} (h : stepOk u = true) : T.gd u ∧ T.sz u = 1 ∧ T.dep u = 0 := by
  rcases step_cases h with ⟨x, rfl, hx⟩ | ⟨i, rfl, _⟩
  · exact ⟨name_gd hx, rfl, rfl⟩
  · exact ⟨True.intro, rfl, rfl⟩
def spLPath (K : PySem.W.Frag) : Sp := fun vs H Q _ => ∃ (a : Addr) (ns : List Int) (k : Int), vs = [.ref a, .int k] ∧ SqL K H a (ns.map V.int) ∧ ns.length ≤ 63 ∧ 0 ≤ k ∧ k < 900000 ∧ ∀ (p : Addr) (us : List T) (H' : Hp), Same H H' → H' p = some (.lst (us.map scv)) → (∀ u ∈ us, stepOk u = true) → us.length ≤ 8 → Q (.ref p) H'
theorem scPath : FnScope ["_law_script", "_law_k", "_law_path_here", "_law_j", "_law_more"] ["_law_script", "_law_k"] (defScope sPath) := ⟨rfl, rfl, rfl, by decide +kernel, rfl, by decide +kernel, by decide +kernel⟩
theorem ok_lpath (F : Fun K "_law_path" "_law_path" sPath f fd) (B : Bl mg) (G_law_cell : Dn P w K mg base 1 "_law_cell" ["_law_script", "_law_k"] (spCell K)) (G_law_name_by : Dn P w K mg base 1 "_law_name_by" ["_law_more"] spName) : FnOk P w K mg base CX0 2 f fd ["_law_script", "_law_k"] (spLPath K) := by
  refine F.ok scPath (fun vs H Q E h => ?_) (fun cdv A outer s H vs Q E hr h => ?_)
  · obtain ⟨a, ns, k, rfl, _⟩ := h
    rfl
  obtain ⟨a, ns, k, rfl, hS, h63, h0, h1, q⟩ := h
  have nd := scPath.nd
  refine ⟨_, (pss_cons (ps_set (i := 2) nd rfl (Or.inl rfl) (pe_lst pa_nil))
    (pss_cons (ps_for PassesOwn.never rfl (pi_range1 rfl B.range (pa_cons (pe_op op_mod (pe_cd G_law_cell hr (by omega) rfl (pa_cons (pv 0) (pa_cons (pv 1) pa_nil))) pe_int) pa_nil)) (pg_name (i := 3) nd rfl (Or.inl rfl)) (pss_cons (ps_set (i := 4) nd rfl (Or.inl rfl) (pe_cd G_law_cell hr (by omega) rfl (pa_cons (pv 0) (pa_cons (pe_op op_add (pe_op op_add (pv 1) pe_int) (pv 3)) pa_nil))))
    (pss_one (ps_expr (pe_bm PySem.F.plainAttrs_list PySem.F.slot_list_append PySem.F.type_list_append mt_append (pv 2) (pa_cons (pe_ix ix_list (pe_lst (pa_cons (pe_op op_mod (pe_op op_fdiv (pv 4) pe_int) pe_int) (pa_cons (pe_cd G_law_name_by hr (by omega) rfl (pa_cons (pe_op op_fdiv (pv 4) pe_int) pa_nil)) pa_nil))) (pe_op op_mod (pv 4) pe_int) (fun _ _ => rfl)) pa_nil))))))
    (pss_one (ps_ret (pv 2))))), ?_⟩
  rw [show start ["_law_script", "_law_k", "_law_path_here", "_law_j", "_law_more"] [.ref a, .int k] = [some (.ref a), some (.int k), none, none, none] from rfl]
  walk_at "rd3"
  intro p0 hp0
  have g0 := same_new hp0 (.lst [])
  refine spCell_i (g0.seq hS) h63 h0 (by omega) fun H1 g1 => ?_
  have hc0 := cellF_lo ns k
  have hc1 := cellF_hi ns k
  have hp1 : H1 p0 = some (.lst []) := g1 _ _ upd_same
  have G1 := g0.trans g1
  refine ⟨_, rfl, by omega, by omega, ?_⟩
  refine forB_rng (fun i σ H2 => (∃ o1 o2, σ = [some (V.ref a), some (V.int k), some (V.ref p0), o1, o2]) ∧ Same H H2 ∧ ∃ us : List T, H2 p0 = some (.lst (us.map scv)) ∧ (∀ u ∈ us, stepOk u = true) ∧ us.length = i) ⟨⟨_, _, rfl⟩, G1, [], hp1, fun _ h => (nomatch h), rfl⟩ ?_ ?_
  · rintro i σ H2 hi ⟨⟨o1, o2, rfl⟩, g2, us, hx, hst, hl⟩
    walk_at "rd3"
    refine spCell_i (g2.seq hS) h63 (by omega) (by omega) fun H3 g3 => ?_
    generalize hc : cellF ns (k + 1 + (0 + ↑i)) = m
    have hm0 : 0 ≤ m := by rw [← hc]; exact cellF_lo _ _
    have hm1 : m < 1000003 := by rw [← hc]; exact cellF_hi _ _
    refine ⟨Or.inl ⟨rfl, _, SqL.of (g3 _ _ hx)⟩, ?_⟩
    refine ⟨m, rfl, m, rfl, m / 2, rfl, by omega, by omega, fun x hx' H4 g4 p1 hp1 => ⟨m, rfl, ?_⟩⟩
    have s1 := g3.trans (g4.trans (same_new hp1 (.lst [V.int (m / 2 % 60), V.str (tx x)])))
    have fin : ∀ u, stepOk u = true → rAppend (V.ref p0) [scv u] (upd H4 p1 (.lst [V.int (m / 2 % 60), V.str (tx x)])) fun x H1 => (∃ x, some (V.int m) = x) ∧ Same H H1 ∧ ∃ us : List T, H1 p0 = some (HO.lst (List.map scv us)) ∧ (∀ (u : T), u ∈ us → stepOk u = true) ∧ us.length = i + 1 := fun u hu => by
      refine ⟨p0, _, _, rfl, rfl, s1 _ _ hx, by rw [sizeLine_eq, List.length_map]; omega, ⟨_, rfl⟩, (g2.trans s1).put hp0 _, us ++ [u], ?_, fun v hv => ?_, by simp [hl]⟩
      · rw [upd_same, List.map_append]; rfl
      · rcases List.mem_append.mp hv with z | z
        · exact hst v z
        · rw [List.mem_singleton.mp z]; exact hu
    by_cases c : m % 2 = 0
    · rw [c]
      refine rIxL_i (SqL.of upd_same) (atI_nat (j := 0) rfl) (fin (.int (m / 2 % 60)) ?_)
      simp only [stepOk, nameT, placeT, Bool.false_or, decide_eq_true_eq]
      omega
    · rw [show m % 2 = 1 by omega]
      refine rIxL_i (SqL.of upd_same) (atI_nat (j := 1) rfl) (fin (.str x) ?_)
      simp [stepOk, nameT, hx']
  · rintro σ H2 ⟨⟨o1, o2, rfl⟩, g2, us, hx, hst, hl⟩
    walk_at "rd3"
    exact q p0 us H2 g2 hx hst (by omega)
def XG (x : T) : Prop := T.gd x ∧ T.sz x ≤ 1000 ∧ T.dep x < 20
mutual
theorem nice_x : ∀ (d : Nat) (t : T), Nice d t → T.gd t ∧ T.dep t ≤ d ∧ T.sz t ≤ 5 ^ d
  | d, .non, _ => ⟨True.intro, Nat.zero_le _, Nat.one_le_pow _ _ (by decide)⟩
  | d, .bl _, _ => ⟨True.intro, Nat.zero_le _, Nat.one_le_pow _ _ (by decide)⟩
  | d, .int _, _ => ⟨True.intro, Nat.zero_le _, Nat.one_le_pow _ _ (by decide)⟩
  | d, .str x, h => by
    refine ⟨?_, Nat.zero_le _, Nat.one_le_pow _ _ (by decide)⟩
    have h' : okText x = true := h
    unfold okText at h'
    simp only [Bool.and_eq_true, decide_eq_true_eq, List.all_eq_true] at h'
    exact ⟨by omega, fun c hc => .inl (h'.2 c hc)⟩
  | d, .tup _, h => h.elim
  | d, .lst us, ⟨h1, h2, h3⟩ => by
    obtain ⟨a, b, c⟩ := nices_x (d - 1) us h3
    have e : 5 ^ d = 5 * 5 ^ (d - 1) := by rw [← Nat.pow_succ']; congr 1; omega
    have p1 : 1 ≤ 5 ^ (d - 1) := Nat.one_le_pow _ _ (by decide)
    have p2 := Nat.mul_le_mul_right (5 ^ (d - 1)) h2
    refine ⟨a, ?_, ?_⟩
    · show T.deps us + 1 ≤ d; omega
    · show T.szs us + 1 ≤ 5 ^ d; omega
  | d, .dic ks us, ⟨h1, h2, h3, h4, h5, h6⟩ => by
    obtain ⟨a, b, c⟩ := nices_x (d - 1) us h6
    have e : 5 ^ d = 5 * 5 ^ (d - 1) := by rw [← Nat.pow_succ']; congr 1; omega
    have p1 : 1 ≤ 5 ^ (d - 1) := Nat.one_le_pow _ _ (by decide)
    have p2 := Nat.mul_le_mul_right (5 ^ (d - 1)) h2
    refine ⟨⟨h4, h3, fun k hk => Nat.le_trans (okName_len (h5 k hk)) (by decide), a⟩, ?_, ?_⟩
    · show T.deps us + 1 ≤ d; omega
    · show T.szs us + 1 ≤ 5 ^ d; omega
theorem nices_x : ∀ (d : Nat) (ts : List T), NiceL d ts → T.gds ts ∧ T.deps ts ≤ d ∧ T.szs ts ≤ ts.length * 5 ^ d
  | _, [], _ => ⟨True.intro, Nat.zero_le _, Nat.zero_le _⟩
  | d, t :: ts, ⟨h1, h2⟩ => by
    obtain ⟨a1, b1, c1⟩ := nice_x d t h1
    obtain ⟨a2, b2, c2⟩ := nices_x d ts h2
    refine ⟨⟨a1, a2⟩, ?_, ?_⟩
    · show max (T.dep t) (T.deps ts) ≤ d; omega
    · show T.sz t + T.szs ts ≤ (ts.length + 1) * 5 ^ d
      rw [Nat.succ_mul]; omega
end
def Pl (t : T) : Prop := ∃ a us r, t = .tup (a :: .lst us :: r) ∧ (∀ u ∈ us, stepOk u = true) ∧ us.length ≤ 8 ∧ ((a = wTake ∧ r = []) ∨ ((a = wPut ∨ a = wIns) ∧ ∃ x, r = [x] ∧ XG x))
theorem rep_word {H : Hp} (z : Str) : Rep H (.str z) (.str (ts z)) := by
  show V.str z = V.str (tx (ts z))
  rw [tx_ts]
def spPlain (K : PySem.W.Frag) : Sp := fun vs H Q _ => ∃ (a : Addr) (ns : List Int) (k : Int), vs = [.ref a, .int k] ∧ SqL K H a (ns.map V.int) ∧ ns.length ≤ 63 ∧ 0 ≤ k ∧ k < 10000 ∧ ∀ v t H', Same H H' → Rep H' v t → Pl t → Q v H'
def spThingAny (K : PySem.W.Frag) (n : Nat) : Sp := fun vs H Q E => ∃ d, d ≤ n ∧ spThing K d vs H Q E
theorem scPlain : FnScope ["_law_script", "_law_k", "_law_more"] ["_law_script", "_law_k"] (defScope sPlain) := ⟨rfl, rfl, rfl, by decide +kernel, rfl, by decide +kernel, by decide +kernel⟩
theorem ok_plain (F : Fun K "_law_plain" "_law_plain" sPlain f fd) (B : Bl mg) (G_law_cell : Dn P w K mg base 1 "_law_cell" ["_law_script", "_law_k"] (spCell K)) (G_law_path : Dn P w K mg base 2 "_law_path" ["_law_script", "_law_k"] (spLPath K)) (G_law_thing_by : Dn P w K mg base (3 + 2) "_law_thing_by" ["_law_script", "_law_k", "_law_deep"] (spThingAny K 2)) : FnOk P w K mg base CX0 6 f fd ["_law_script", "_law_k"] (spPlain K) := by
  refine F.ok scPlain (fun vs H Q E h => ?_) (fun cdv A outer s H vs Q E hr h => ?_)
  · obtain ⟨a, ns, k, rfl, _⟩ := h
    rfl
  obtain ⟨a, ns, k, rfl, hS, h63, h0, h1, q⟩ := h
  have nd := scPlain.nd
  refine ⟨_, (pss_cons (ps_set (i := 2) nd rfl (Or.inl rfl) (pe_cd G_law_cell hr (by omega) rfl (pa_cons (pv 0) (pa_cons (pv 1) pa_nil))))
    (pss_cons (ps_if (pt_cmpR op_eq (pe_op op_mod (pv 2) pe_int) pe_int (nomark _)) (pss_one (ps_ret (pe_tup (pa_cons pe_str (pa_cons (pe_cd G_law_path hr (by omega) rfl (pa_cons (pv 0) (pa_cons (pe_op op_add (pv 1) pe_int) pa_nil))) pa_nil))))) pss_nil)
    (pss_one (ps_ret (pe_tup (pa_cons (pe_ix ix_list (pe_lst (pa_cons pe_str (pa_cons pe_str pa_nil))) (pe_op op_mod (pv 2) pe_int) (fun _ _ => rfl)) (pa_cons (pe_cd G_law_path hr (by omega) rfl (pa_cons (pv 0) (pa_cons (pe_op op_add (pv 1) pe_int) pa_nil))) (pa_cons (pe_cd G_law_thing_by hr (by omega) rfl (pa_cons (pv 0) (pa_cons (pe_op op_add (pv 1) pe_int) (pa_cons (pe_op op_mod (pe_op op_fdiv (pv 2) pe_int) pe_int) pa_nil)))) pa_nil)))))))), ?_⟩
  rw [show start ["_law_script", "_law_k", "_law_more"] [.ref a, .int k] = [some (.ref a), some (.int k), none] from rfl]
  walk_at "rd3"
  refine spCell_i hS h63 h0 (by omega) fun H1 g1 => ?_
  have hc0 := cellF_lo ns k
  have hc1 := cellF_hi ns k
  generalize cellF ns k = m at hc0 hc1 ⊢
  have rsc : ∀ {Hx : Hp} {us : List T}, (∀ u ∈ us, stepOk u = true) → Reps Hx (us.map scv) us := fun h => Sc.reps fun u hu => step_sc (h u hu)
  refine ⟨m, rfl, ?_⟩
  by_cases c : m % 3 = 0
  · refine iP c ⟨a, ns, k + 1, rfl, g1.seq hS, h63, by omega, by omega, fun p us H2 g2 hp hok hl p1 hp1 => ?_⟩
    have s1 := same_new hp1 (.tup [V.str (Str.ofString "take"), V.ref p])
    exact q _ (.tup [wTake, .lst us]) _ (g1.trans (g2.trans s1)) ⟨p1, _, rfl, upd_same, _, _, rfl, rep_word _, _, [], rfl, ⟨p, _, rfl, s1 _ _ hp, rsc hok⟩, rfl⟩ ⟨wTake, us, [], rfl, hok, hl, .inl ⟨rfl, rfl⟩⟩
  · refine iN c fun p0 hp0 => ⟨m, rfl, ?_⟩
    have s0 := same_new hp0 (.lst [V.str (Str.ofString "put"), V.str (Str.ofString "insert")])
    obtain ⟨wd, hv, hm⟩ := atI_of (xs := [V.str (Str.ofString "put"), V.str (Str.ofString "insert")]) (i := m % 2) (by omega) (by simp only [List.length_cons, List.length_nil]; omega)
    obtain ⟨wt, hw1, hw2⟩ : ∃ wt, (∀ {Hx : Hp}, Rep Hx wd wt) ∧ (wt = wPut ∨ wt = wIns) := by
      simp only [List.mem_cons, List.not_mem_nil, or_false] at hm
      rcases hm with rfl | rfl
      · exact ⟨wPut, rep_word _, .inl rfl⟩
      · exact ⟨wIns, rep_word _, .inr rfl⟩
    refine rIxL_i (SqL.of upd_same) hv ⟨a, ns, k + 1, rfl, (g1.trans s0).seq hS, h63, by omega, by omega, fun p us H2 g2 hp hok hl => ⟨m, rfl, ?_⟩⟩
    have G2 := g1.trans (s0.trans g2)
    obtain ⟨d, hd1, hd2⟩ : ∃ d : Nat, m / 6 % 3 = (d : Int) ∧ d ≤ 2 := ⟨(m / 6 % 3).toNat, by omega, by omega⟩
    rw [hd1]
    refine ⟨d, hd2, a, ns, k + 12, rfl, G2.seq hS, h63, by omega, ?_, fun x H3 t g3 hx hn p1 hp1 => ?_⟩
    · have : (5 : Int) ^ d ≤ 25 := by
        rcases (show d = 0 ∨ d = 1 ∨ d = 2 by omega) with rfl | rfl | rfl <;> decide
      have h2 : (0 : Int) ≤ k + 12 + 2 := by omega
      have := Int.mul_le_mul_of_nonneg_left this h2
      omega
    · obtain ⟨n1, n2, n3⟩ := nice_x d t hn
      have n4 : 5 ^ d ≤ 25 := by
        rcases (show d = 0 ∨ d = 1 ∨ d = 2 by omega) with rfl | rfl | rfl <;> decide
      have s1 := same_new hp1 (.tup [wd, V.ref p, x])
      exact q _ (.tup [wt, .lst us, t]) _ (G2.trans (g3.trans s1)) ⟨p1, _, rfl, upd_same, _, _, rfl, hw1, _, _, rfl, ⟨p, _, rfl, s1 _ _ (g3 _ _ hp), rsc hok⟩, _, [], rfl, Rep.same s1 _ _ hx, rfl⟩ ⟨wt, us, [t], rfl, hok, hl, .inr ⟨hw2, t, rfl, n1, by omega, by omega⟩⟩
end
end K41
namespace K41
open PySem L2
local macro_rules | `(tactic| walk_at "rd") => `(tactic| simp only [cxOf_K, nox_K, compCx_K, tSeq, tNext, tAsg, gName, tRet, tRetN, tIfS, tDrop, tOp, tUn, tVar, tC, tCall, tCons, tNil, tTest, tB, tAnd, tOr, tNot, tAndV, tOrV, tNotV, tIf, tCB, tBM, tComp, tTrue, tPart, tNoPart, tSl, tChain, tIsN, tNotN, tLst, tTup, tFor_eq, sDPut, tDNewK, tNever, rI0, rI, rU, rEq, rNe, rMulS, rInC, iRng1, iStr, CDiv, CMul, CPow, scal, List.append_nil, List.getElem?_cons_zero, List.getElem?_cons_succ, List.set_cons_zero, List.set_cons_succ, List.map_cons, List.map_nil, List.length_cons, List.length_nil, sizeLine_eq, Nat.reduceAdd, Nat.reduceLeDiff, Option.join_some, Option.join_none, Option.some.injEq, V.int.injEq, V.str.injEq, V.bl.injEq, V.ref.injEq, V.ty.injEq, List.cons.injEq, and_true, true_and, and_self, exists_eq_left', exists_eq_left, exists_and_left, exists_and_right, decide_eq_true_eq, Bool.not_eq_eq_eq_not, Bool.not_true, Bool.not_false, decide_eq_false_iff_not, Int.reduceLT, Int.reduceLE, Int.reduceNeg, Int.reducePow, Int.reduceAdd, Int.reduceSub, Int.reduceMul, Int.reduceToNat, natAbs10, Nat.reduceLT, Nat.reducePow, or_true, true_or, if_true, if_false, Bool.false_eq_true, ite_true, ite_false, reduceCtorEq])
local macro_rules | `(tactic| walk_at "rd3") => `(tactic| simp only [gTup, gCons, gNil, iZip, tIsT, tDisp, tPairs, tBM0, iList, iDict, tThaw, tMaxD, rMaxD, tDGet, rVals, tComp, cxOf_K, nox_K, compCx_K, tSeq, tNext, tAsg, gName, tRet, tRetN, tIfS, tDrop, tOp, tUn, tVar, tC, tCall, tCons, tNil, tTest, tB, tAnd, tOr, tNot, tAndV, tOrV, tNotV, tIf, tCB, tBM, tComp, tTrue, tPart, tNoPart, tSl, tChain, tIsN, tNotN, tLst, tTup, tFor_eq, sDPut, tDNewK, tNever, rI0, rI, rU, rEq, rNe, rMulS, rInC, iRng1, iStr, CDiv, CMul, CPow, scal, List.append_nil, List.getElem?_cons_zero, List.getElem?_cons_succ, List.set_cons_zero, List.set_cons_succ, List.map_cons, List.map_nil, List.length_cons, List.length_nil, sizeLine_eq, Nat.reduceAdd, Nat.reduceLeDiff, Option.join_some, Option.join_none, Option.some.injEq, V.int.injEq, V.str.injEq, V.bl.injEq, V.ref.injEq, V.ty.injEq, List.cons.injEq, and_true, true_and, and_self, exists_eq_left', exists_eq_left, exists_and_left, exists_and_right, decide_eq_true_eq, Bool.not_eq_eq_eq_not, Bool.not_true, Bool.not_false, decide_eq_false_iff_not, Int.reduceLT, Int.reduceLE, Int.reduceNeg, Int.reducePow, Int.reduceAdd, Int.reduceSub, Int.reduceMul, Int.reduceToNat, natAbs10, Nat.reduceLT, Nat.reducePow, or_true, true_or, if_true, if_false, Bool.false_eq_true, ite_true, ite_false, reduceCtorEq])
seal L2.PSs L2.PS L2.PE L2.PT L2.PW L2.PA L2.PI L2.PG L2.PGs L2.PPs L2.PTs
abbrev sBadP : Stmt := top 44
abbrev sBadT : Stmt := top 45
def PG (p : T) : Prop := T.gd p ∧ T.sz p ≤ 1000 ∧ ∀ us, p = .lst us → us.length ≤ 100
theorem cut_to (xs : List V) (k : Nat) : cutV xs none (some (k : Int)) = xs.take k := by
  unfold cutV
  rw [HT.sIx_nat, HT.sIx_none, List.drop_zero, Nat.sub_zero]
  by_cases h : k ≤ xs.length
  · rw [Nat.min_eq_left h]
  · rw [Nat.min_eq_right (by omega), List.take_of_length_le (Nat.le_refl _), List.take_of_length_le (by omega)]
theorem cut_from (xs : List V) (k : Nat) : cutV xs (some (k : Int)) none = xs.drop k := by
  unfold cutV
  rw [HT.sIx_nat, HT.sIx_none]
  by_cases h : k ≤ xs.length
  · rw [Nat.min_eq_left h, List.take_of_length_le (by rw [List.length_drop]; omega)]
  · rw [Nat.min_eq_right (by omega), List.drop_of_length_le (Nat.le_refl _), List.drop_of_length_le (by omega), List.take_nil]
section
variable {P : Program} {w : World} {K : PySem.W.Frag} {mg : Str → Option Value} {base : Heap} {f : Addr} {fd : FuncData}
def spBadP : Sp := fun vs H Q _ => ∃ (a : Addr) (us : List T) (m : Int), vs = [.ref a, .int m] ∧ H a = some (.lst (us.map scv)) ∧ (∀ u ∈ us, stepOk u = true) ∧ us.length ≤ 8 ∧ 0 ≤ m ∧ m < 2000000 ∧ ∀ v t H', Same H H' → Rep H' v t → PG t → Q v H'
theorem scBadP : FnScope ["_law_path_here", "_law_more", "_law_at", "_law_some", "_law_step", "_law_bent_here"] ["_law_path_here", "_law_more"] (defScope sBadP) := ⟨rfl, rfl, rfl, by decide +kernel, rfl, by decide +kernel, by decide +kernel⟩
theorem ok_badp (F : Fun K "_law_bad_path" "_law_bad_path" sBadP f fd) (B : Bl mg) : FnOk P w K mg base CX0 1 f fd ["_law_path_here", "_law_more"] spBadP := by
  refine F.ok scBadP (fun vs H Q E h => ?_) (fun cdv A outer s H vs Q E hr h => ?_)
  · obtain ⟨a, us, m, rfl, _⟩ := h
    rfl
  obtain ⟨a, us, m, rfl, ha, hok, hl, h0, h1, q⟩ := h
  have nd := scBadP.nd
  refine ⟨_, (pss_cons (ps_set (i := 2) nd rfl (Or.inl rfl) (pe_op op_mod (pv 1) (pe_op op_add (pe_callB call_len_l rfl B.len bt_len (pa_cons (pv 0) pa_nil)) pe_int)))
    (pss_cons (ps_set (i := 3) nd rfl (Or.inl rfl) (pe_lst (pa_cons (pe_un un_neg pe_int) (pa_cons (pe_op op_add pe_int (pe_op op_mul (pe_op op_mod (pe_op op_fdiv (pv 1) pe_int) pe_int) (pv 1))) (pa_cons pe_bl (pa_cons pe_str (pa_cons pe_str (pa_cons (pe_op op_mul_str pe_str pe_int) (pa_cons pe_non pa_nil)))))))))
    (pss_cons (ps_set (i := 4) nd rfl (Or.inl rfl) (pe_ix ix_list (pe_op op_cat (pv 3) (pe_lst (pa_cons pe_str (pa_cons (pe_tup (pa_cons pe_int pa_nil)) (pa_cons pe_str (pa_cons (pe_lst (pa_cons pe_int pa_nil)) (pa_cons pe_int (pa_cons (pe_op op_mul_str pe_str pe_int) pa_nil)))))))) (pe_op op_mod (pe_op op_fdiv (pv 1) pe_int) pe_int) (fun _ _ => rfl)))
    (pss_cons (ps_set (i := 5) nd rfl (Or.inl rfl) (pe_op op_cat (pe_op op_cat (pe_slice sl_list (pv 0) po_none (po_some (pv 2))) (pe_lst (pa_cons (pv 4) pa_nil))) (pe_slice sl_list (pv 0) (po_some (pv 2)) po_none)))
    (pss_one (ps_ret (pe_ix ix_list (pe_lst (pa_cons (pv 5) (pa_cons (pv 5) (pa_cons (pv 5) (pa_cons (pe_callTy call_tuple_of rfl B.tuple bt_tuple (pa_cons (pv 0) pa_nil)) (pa_cons (pe_op op_rep (pe_lst (pa_cons pe_int pa_nil)) pe_int) (pa_cons pe_str (pa_cons (pe_op op_cat (pv 0) (pe_op op_rep (pe_lst (pa_cons pe_str pa_nil)) pe_int)) pa_nil)))))))) (pe_op op_mod (pe_op op_fdiv (pv 1) pe_int) pe_int) (fun _ _ => rfl)))))))), ?_⟩
  rw [show start ["_law_path_here", "_law_more", "_law_at", "_law_some", "_law_step", "_law_bent_here"] [.ref a, .int m] = [some (.ref a), some (.int m), none, none, none, none] from rfl]
  walk_at "rd3"
  have rsc : ∀ {Hx : Hp} {us : List T}, (∀ u ∈ us, stepOk u = true) → Reps Hx (us.map scv) us := fun h => Sc.reps fun u hu => step_sc (h u hu)
  refine ⟨us.map scv, SqL.of ha, by omega, .inl (by omega), by decide +kernel, ?_⟩
  have hml : (us.map scv).length = us.length := List.length_map _
  generalize hA1 : [V.int (-1), V.int (60 + m / 40 % 2 * m), V.bl true, V.str (Str.ofString ""), V.str (Str.ofString "A"), V.str (tx (List.replicate 13 (ts (Str.ofString "a"))).flatten), V.non] = A1
  have l1 : A1.length = 7 := by rw [← hA1]; rfl
  intro p0 hp0
  have e0 := upd_same (H := H) (a := p0) (o := .lst A1)
  have g0 := same_new hp0 (.lst A1)
  generalize upd H p0 (.lst A1) = H0 at e0 g0 ⊢
  intro p1 hp1
  have e1 := upd_same (H := H0) (a := p1) (o := .tup [V.int 0])
  have s1 := same_new hp1 (.tup [V.int 0])
  generalize upd H0 p1 (.tup [V.int 0]) = H1 at e1 s1 ⊢
  intro p2 hp2
  have e2 := upd_same (H := H1) (a := p2) (o := .lst [V.int 0])
  have s2 := same_new hp2 (.lst [V.int 0])
  generalize upd H1 p2 (.lst [V.int 0]) = H2 at e2 s2 ⊢
  refine ⟨by decide +kernel, ?_⟩
  generalize hA2 : [V.str (Str.ofString "1a"), V.ref p1, V.str (Str.ofString "a_"), V.ref p2, V.int 59, V.str (tx (List.replicate 12 (ts (Str.ofString "a"))).flatten)] = A2
  have l2 : A2.length = 6 := by rw [← hA2]; rfl
  intro p3 hp3
  have e3 := upd_same (H := H2) (a := p3) (o := .lst A2)
  have s3 := same_new hp3 (.lst A2)
  generalize upd H2 p3 (.lst A2) = H3 at e3 s3 ⊢
  have G23 := s2.trans s3
  have G13 := s1.trans G23
  refine ⟨p0, p3, A1, A2, rfl, rfl, G13 _ _ e0, e3, by rw [sizeLine_eq]; omega, fun p4 hp4 => ?_⟩
  have s4 := same_new hp4 (.lst (A1 ++ A2))
  obtain ⟨st, hst, hm⟩ := atI_of (xs := A1 ++ A2) (i := m / 11 % 13) (by omega) (by rw [List.length_append]; omega)
  refine rIxL_i (SqL.of upd_same) hst ?_
  generalize upd H3 p4 (.lst (A1 ++ A2)) = H4 at s4 ⊢
  have G4 := g0.trans (G13.trans s4)
  obtain ⟨stt, hs1, hs2, hs3⟩ : ∃ t, Rep H4 st t ∧ T.gd t ∧ T.sz t ≤ 2 := by
    have wd : ∀ z : Str, (z.length ≤ 1000 ∧ ∀ c ∈ ts z, c ∈ sgnL ∨ c = 9 ∨ c = 10) → ∃ t, Rep H4 (V.str z) t ∧ T.gd t ∧ T.sz t ≤ 2 := fun z h => ⟨.str (ts z), rep_word z, ⟨by rw [← ts_len]; exact h.1, h.2⟩, (show 1 ≤ 2 by decide)⟩
    rw [List.mem_append] at hm
    rcases hm with hm | hm
    · rw [← hA1] at hm
      simp only [List.mem_cons, List.not_mem_nil, or_false] at hm
      rcases hm with rfl | rfl | rfl | rfl | rfl | rfl | rfl
      · exact ⟨.int _, rfl, True.intro, (show 1 ≤ 2 by decide)⟩
      · exact ⟨.int _, rfl, True.intro, (show 1 ≤ 2 by decide)⟩
      · exact ⟨.bl _, rfl, True.intro, (show 1 ≤ 2 by decide)⟩
      · exact wd _ (by decide +kernel)
      · exact wd _ (by decide +kernel)
      · exact wd _ (by decide +kernel)
      · exact ⟨.non, rfl, True.intro, (show 1 ≤ 2 by decide)⟩
    · rw [← hA2] at hm
      simp only [List.mem_cons, List.not_mem_nil, or_false] at hm
      rcases hm with rfl | rfl | rfl | rfl | rfl | rfl
      · exact wd _ (by decide +kernel)
      · exact ⟨.tup [.int 0], ⟨p1, _, rfl, s4 _ _ (G23 _ _ e1), _, [], rfl, rfl, rfl⟩, ⟨True.intro, True.intro⟩, (show 2 ≤ 2 by decide)⟩
      · exact wd _ (by decide +kernel)
      · exact ⟨.lst [.int 0], ⟨p2, _, rfl, s4 _ _ (s3 _ _ e2), _, [], rfl, rfl, rfl⟩, ⟨True.intro, True.intro⟩, (show 2 ≤ 2 by decide)⟩
      · exact ⟨.int _, rfl, True.intro, (show 1 ≤ 2 by decide)⟩
      · exact wd _ (by decide +kernel)
  have ha4 := G4 _ _ ha
  have b0 := Int.emod_nonneg m (show ((us.map scv).length : Int) + 1 ≠ 0 by omega)
  have b1 := Int.emod_lt_of_pos m (show (0 : Int) < ((us.map scv).length : Int) + 1 by omega)
  obtain ⟨k, hk⟩ : ∃ k : Nat, m % (((us.map scv).length : Int) + 1) = (k : Int) := ⟨_, (Int.toNat_of_nonneg b0).symm⟩
  rw [hk]
  have c1 : cutV (us.map scv) none (some (k : Int)) = (us.take k).map scv := by
    rw [cut_to, List.map_take]
  have c2 : cutV (us.map scv) (some (k : Int)) none = (us.drop k).map scv := by
    rw [cut_from, List.map_drop]
  refine ⟨a, _, rfl, SqL.of ha4, ?_⟩
  rw [c1]
  intro p5 hp5 p6 hp6
  have e5 := upd_same (H := H4) (a := p5) (o := .lst ((us.take k).map scv))
  have s5 := same_new hp5 (.lst ((us.take k).map scv))
  generalize upd H4 p5 (.lst ((us.take k).map scv)) = H5 at e5 s5 hp6 ⊢
  have e6 := upd_same (H := H5) (a := p6) (o := .lst [st])
  have s6 := same_new hp6 (.lst [st])
  generalize upd H5 p6 (.lst [st]) = H6 at e6 s6 ⊢
  have ht1 : ((us.take k).map scv).length ≤ 8 := by rw [List.length_map, List.length_take]; omega
  have ht2 : ((us.drop k).map scv).length ≤ 8 := by rw [List.length_map, List.length_drop]; omega
  refine ⟨p5, p6, _, _, rfl, rfl, s6 _ _ e5, e6, by rw [sizeLine_eq]; simp only [List.length_cons, List.length_nil]; omega, fun p7 hp7 => ?_⟩
  have e7 := upd_same (H := H6) (a := p7) (o := .lst ((us.take k).map scv ++ [st]))
  have s7 := same_new hp7 (.lst ((us.take k).map scv ++ [st]))
  generalize upd H6 p7 (.lst ((us.take k).map scv ++ [st])) = H7 at e7 s7 ⊢
  have G47 := s5.trans (s6.trans s7)
  refine ⟨a, _, rfl, SqL.of (G47 _ _ ha4), ?_⟩
  rw [c2]
  intro p8 hp8
  have e8 := upd_same (H := H7) (a := p8) (o := .lst ((us.drop k).map scv))
  have s8 := same_new hp8 (.lst ((us.drop k).map scv))
  generalize upd H7 p8 (.lst ((us.drop k).map scv)) = H8 at e8 s8 ⊢
  refine ⟨p7, p8, _, _, rfl, rfl, s8 _ _ e7, e8, by rw [sizeLine_eq, List.length_append]; simp only [List.length_cons, List.length_nil]; omega, fun p9 hp9 => ?_⟩
  have e9 := upd_same (H := H8) (a := p9) (o := .lst ((us.take k).map scv ++ [st] ++ (us.drop k).map scv))
  have s9 := same_new hp9 (.lst ((us.take k).map scv ++ [st] ++ (us.drop k).map scv))
  generalize upd H8 p9 (.lst ((us.take k).map scv ++ [st] ++ (us.drop k).map scv)) = H9 at e9 s9 ⊢
  have G49 := G47.trans (s8.trans s9)
  have ha9 := G49 _ _ ha4
  refine ⟨us.map scv, .inl ⟨SqL.of ha9, fun l hl' p10 hp10 => ?_⟩⟩
  have el := upd_same (H := H9) (a := l) (o := .tup (us.map scv))
  have sl := same_new hl' (.tup (us.map scv))
  generalize upd H9 l (.tup (us.map scv)) = Hl at el sl hp10 ⊢
  have e10 := upd_same (H := Hl) (a := p10) (o := .lst [V.int 0])
  have s10 := same_new hp10 (.lst [V.int 0])
  generalize upd Hl p10 (.lst [V.int 0]) = H10 at e10 s10 ⊢
  refine ⟨p10, 9, _, rfl, rfl, e10, by decide, by decide, by rw [sizeLine_eq]; decide, fun p11 hp11 p12 hp12 => ?_⟩
  have e11 := upd_same (H := H10) (a := p11) (o := .lst (List.replicate (9 : Int).toNat [V.int 0]).flatten)
  have s11 := same_new hp11 (.lst (List.replicate (9 : Int).toNat [V.int 0]).flatten)
  generalize upd H10 p11 (.lst (List.replicate (9 : Int).toNat [V.int 0]).flatten) = H11 at e11 s11 hp12 ⊢
  have e12 := upd_same (H := H11) (a := p12) (o := .lst [V.str (Str.ofString "b")])
  have s12 := same_new hp12 (.lst [V.str (Str.ofString "b")])
  generalize upd H11 p12 (.lst [V.str (Str.ofString "b")]) = H12 at e12 s12 ⊢
  refine ⟨p12, 8, _, rfl, rfl, e12, by decide, by decide, by rw [sizeLine_eq]; decide, fun p13 hp13 => ?_⟩
  have e13 := upd_same (H := H12) (a := p13) (o := .lst (List.replicate (8 : Int).toNat [V.str (Str.ofString "b")]).flatten)
  have s13 := same_new hp13 (.lst (List.replicate (8 : Int).toNat [V.str (Str.ofString "b")]).flatten)
  generalize upd H12 p13 (.lst (List.replicate (8 : Int).toNat [V.str (Str.ofString "b")]).flatten) = H13 at e13 s13 ⊢
  have G913 := sl.trans (s10.trans (s11.trans (s12.trans s13)))
  refine ⟨a, p13, _, _, rfl, rfl, G913 _ _ ha9, e13, by rw [sizeLine_eq, hml]; show us.length + 8 ≤ _; omega, fun p14 hp14 p15 hp15 => ?_⟩
  have e14 := upd_same (H := H13) (a := p14) (o := .lst (us.map scv ++ (List.replicate (8 : Int).toNat [V.str (Str.ofString "b")]).flatten))
  have s14 := same_new hp14 (.lst (us.map scv ++ (List.replicate (8 : Int).toNat [V.str (Str.ofString "b")]).flatten))
  generalize upd H13 p14 (.lst (us.map scv ++ (List.replicate (8 : Int).toNat [V.str (Str.ofString "b")]).flatten)) = H14 at e14 s14 hp15 ⊢
  have s15 := same_new hp15 (.lst [V.ref p9, V.ref p9, V.ref p9, V.ref l, V.ref p11, V.str (Str.ofString "a"), V.ref p14])
  obtain ⟨v, hv, hm2⟩ := atI_of (xs := [V.ref p9, V.ref p9, V.ref p9, V.ref l, V.ref p11, V.str (Str.ofString "a"), V.ref p14]) (i := m / 143 % 7) (by omega) (by simp only [List.length_cons, List.length_nil]; omega)
  refine rIxL_i (SqL.of upd_same) hv ?_
  generalize upd H14 p15 (.lst [V.ref p9, V.ref p9, V.ref p9, V.ref l, V.ref p11, V.str (Str.ofString "a"), V.ref p14]) = HE at s15 ⊢
  have GE9 := G913.trans (s14.trans s15)
  have GE4 := G49.trans GE9
  have GE := G4.trans GE4
  have sg : ∀ {us : List T}, (∀ u ∈ us, stepOk u = true) → T.gds us ∧ T.szs us = us.length := fun {us} => by
    induction us with
    | nil => exact fun _ => ⟨True.intro, rfl⟩
    | cons u us ih =>
      intro h
      obtain ⟨i1, i2⟩ := ih fun v hv => h v (List.mem_cons_of_mem _ hv)
      obtain ⟨j1, j2, _⟩ := step_gd (h u List.mem_cons_self)
      exact ⟨⟨j1, i1⟩, by show T.sz u + T.szs us = us.length + 1; omega⟩
  have gapp : ∀ {a b : List T}, T.gds a → T.gds b → T.gds (a ++ b) := fun {a b} ha hb => T.gds_of fun t ht => (List.mem_append.mp ht).elim (T.gds_mem ha) (T.gds_mem hb)
  have sapp : ∀ {a b : List T}, T.szs (a ++ b) = T.szs a + T.szs b := fun {a b} => by
    induction a with
    | nil => show T.szs b = 0 + T.szs b; omega
    | cons u a ih => show T.sz u + T.szs (a ++ b) = T.sz u + T.szs a + T.szs b; omega
  have ht : ∀ u ∈ us.take k, stepOk u = true := fun u hu => hok u (List.mem_of_mem_take hu)
  have hd : ∀ u ∈ us.drop k, stepOk u = true := fun u hu => hok u (List.mem_of_mem_drop hu)
  obtain ⟨t1, t2⟩ := sg ht
  obtain ⟨d1, d2⟩ := sg hd
  obtain ⟨w1, w2⟩ := sg hok
  have lt : (us.take k).length ≤ 8 := by rw [List.length_take]; omega
  have ld : (us.drop k).length ≤ 8 := by rw [List.length_drop]; omega
  have big : Q (V.ref p9) HE := by
    refine q _ (.lst (us.take k ++ [stt] ++ us.drop k)) HE GE ⟨p9, _, rfl, GE9 _ _ e9, ?_⟩ ⟨?_, ?_, fun vs e => ?_⟩
    · exact Reps.append (rsc hd) (Reps.append (show Reps HE [st] [stt] from ⟨st, [], rfl, Rep.same GE4 _ _ hs1, rfl⟩) (rsc ht))
    · exact gapp (gapp t1 ⟨hs2, True.intro⟩) d1
    · show T.szs (us.take k ++ [stt] ++ us.drop k) + 1 ≤ 1000
      rw [sapp, sapp]
      have : T.szs [stt] = T.sz stt + 0 := rfl
      omega
    · cases e
      rw [List.length_append, List.length_append, List.length_singleton]; omega
  simp only [List.mem_cons, List.not_mem_nil, or_false] at hm2
  rcases hm2 with rfl | rfl | rfl | rfl | rfl | rfl | rfl
  · exact big
  · exact big
  · exact big
  · exact q _ (.tup us) HE GE ⟨l, _, rfl, (s10.trans (s11.trans (s12.trans (s13.trans (s14.trans s15))))) _ _ el, rsc hok⟩ ⟨w1, (show T.szs us + 1 ≤ 1000 by omega), fun vs e => by cases e⟩
  · exact q _ (.lst (List.replicate 9 (.int 0))) HE GE ⟨p11, _, rfl, (s12.trans (s13.trans (s14.trans s15))) _ _ e11, ⟨_, _, rfl, rfl, _, _, rfl, rfl, _, _, rfl, rfl, _, _, rfl, rfl, _, _, rfl, rfl, _, _, rfl, rfl, _, _, rfl, rfl, _, _, rfl, rfl, _, _, rfl, rfl, rfl⟩⟩ ⟨⟨True.intro, True.intro, True.intro, True.intro, True.intro, True.intro, True.intro, True.intro, True.intro, True.intro⟩, by decide, fun vs e => by cases e; decide⟩
  · exact q _ (.str (ts (Str.ofString "a"))) HE GE (rep_word _) ⟨(show (ts (Str.ofString "a")).length ≤ 1000 ∧ ∀ c ∈ ts (Str.ofString "a"), c ∈ sgnL ∨ c = 9 ∨ c = 10 by decide +kernel), (show 1 ≤ 1000 by decide), fun vs e => by cases e⟩
  · refine q _ (.lst (us ++ List.replicate 8 (.str (ts (Str.ofString "b"))))) HE GE ⟨p14, _, rfl, s15 _ _ e14, ?_⟩ ⟨gapp w1 ?_, ?_, fun vs e => ?_⟩
    · refine Reps.append ?_ (rsc hok)
      exact ⟨_, _, rfl, rep_word _, _, _, rfl, rep_word _, _, _, rfl, rep_word _, _, _, rfl, rep_word _, _, _, rfl, rep_word _, _, _, rfl, rep_word _, _, _, rfl, rep_word _, _, _, rfl, rep_word _, rfl⟩
    · refine T.gds_of fun t ht => ?_
      rw [List.mem_replicate] at ht
      rw [ht.2]
      exact (show (ts (Str.ofString "b")).length ≤ 1000 ∧ ∀ c ∈ ts (Str.ofString "b"), c ∈ sgnL ∨ c = 9 ∨ c = 10 by decide +kernel)
    · show T.szs (us ++ List.replicate 8 (.str (ts (Str.ofString "b")))) + 1 ≤ 1000
      rw [sapp]
      have : T.szs (List.replicate 8 (T.str (ts (Str.ofString "b")))) = 8 := by decide +kernel
      omega
    · cases e
      rw [List.length_append, List.length_replicate]; omega
theorem rep_same_n {H : Hp} {x : V} {t : T} (h : Rep H x t) (n : Nat) : Reps H (List.replicate n [x]).flatten (List.replicate n t) := by
  induction n with
  | zero => rfl
  | succ n ih => rw [List.replicate_succ, List.replicate_succ, List.flatten_cons]; exact ⟨x, _, rfl, h, ih⟩
theorem same_n {t : T} (g : T.gd t) (n : Nat) : T.gds (List.replicate n t) ∧ T.szs (List.replicate n t) = n * T.sz t ∧ T.deps (List.replicate n t) ≤ T.dep t := by
  induction n with
  | zero => exact ⟨True.intro, by simp [T.szs], Nat.zero_le _⟩
  | succ n ih =>
    obtain ⟨a, b, c⟩ := ih
    rw [List.replicate_succ]
    exact ⟨⟨g, a⟩, by show T.sz t + T.szs _ = _; rw [Nat.succ_mul]; omega, by show max (T.dep t) (T.deps _) ≤ _; omega⟩
theorem as_gd (n : Nat) (h : n ≤ 1000) : T.gd (.str (List.replicate n (ts (Str.ofString "a"))).flatten) := by
  rw [ts_a, rep_one]
  refine ⟨by rw [List.length_replicate]; exact h, fun c hc => .inl ?_⟩
  rw [List.mem_replicate] at hc
  rw [hc.2]
  decide +kernel
def nkey (j : Nat) : List Nat := ts (Str.ofString "n" ++ Str.ofString (toString ((j : Nat) : Int)))
theorem nkey_nd : ((List.range 31).map nkey).Nodup ∧ ∀ k ∈ (List.range 31).map nkey, k.length ≤ 10 := by decide +kernel
/-- the thing so far -/
def BMi (m : Int) (H : Hp) (i : Nat) (σ : St) (H' : Hp) : Prop := ∃ v o t, σ = [some (V.int m), some v, o, none, none] ∧ Rep H' v t ∧ T.gd t ∧ T.sz t = i + 1 ∧ T.dep t = i ∧ Same H H'
def BMd (m : Int) (H : Hp) (σ : St) (H' : Hp) : Prop := ∃ v o t, σ = [some (V.int m), some v, o, none, none] ∧ Rep H' v t ∧ XG t ∧ Same H H'
def BMl (m ov : Int) (n : Nat) (H : Hp) (σ : St) (H' : Hp) : Prop := ∃ v o p A, σ = [some (V.int m), some v, o, some (V.int ov), some (V.ref p)] ∧ H' p = some (.lst A) ∧ A.length = n ∧ (∀ x ∈ A, ∃ t, Rep H' x t ∧ XG t) ∧ Same H H'
theorem xg_leaf {t : T} (h : T.gd t) (h1 : T.sz t = 1) (h2 : T.dep t = 0) : XG t := ⟨h, by omega, by omega⟩
theorem rep_ints {H : Hp} (n : Nat) : Reps H (List.replicate n [V.int 0]).flatten (List.replicate n (.int 0)) := by
  induction n with
  | zero => rfl
  | succ n ih => rw [List.replicate_succ, List.replicate_succ, List.flatten_cons]; exact ⟨V.int 0, _, rfl, rfl, ih⟩
theorem ints_x (n : Nat) : T.gds (List.replicate n (.int 0)) ∧ T.szs (List.replicate n (.int 0)) = n ∧ T.deps (List.replicate n (.int 0)) = 0 := by
  induction n with
  | zero => exact ⟨True.intro, rfl, rfl⟩
  | succ n ih =>
    obtain ⟨a, b, c⟩ := ih
    rw [List.replicate_succ]
    exact ⟨⟨True.intro, a⟩, by show 1 + T.szs _ = _; omega, by show max 0 (T.deps _) = 0; omega⟩
def spBadT : Sp := fun vs H Q _ => ∃ (m : Int), vs = [.int m] ∧ 0 ≤ m ∧ m < 2000000 ∧ ∀ v t H', Same H H' → Rep H' v t → XG t → Q v H'
theorem scBadT : FnScope ["_law_more", "_law_deep", "_law_j", "_law_over", "_law_some"] ["_law_more"] (defScope sBadT) := ⟨rfl, rfl, rfl, by decide +kernel, rfl, by decide +kernel, by decide +kernel⟩
theorem ok_badt (F : Fun K "_law_bad_thing" "_law_bad_thing" sBadT f fd) (B : Bl mg) : FnOk P w K mg base CX0 1 f fd ["_law_more"] spBadT := by
  refine F.ok scBadT (fun vs H Q E h => ?_) (fun cdv A outer s H vs Q E hr h => ?_)
  · obtain ⟨m, rfl, _⟩ := h
    rfl
  obtain ⟨m, rfl, h0, h1, q⟩ := h
  have nd := scBadT.nd
  refine ⟨_, (pss_cons (ps_set (i := 1) nd rfl (Or.inl rfl) pe_int)
    (pss_cons (ps_mid (ps_for PassesOwn.never rfl (pi_range1 rfl B.range (pa_cons (pe_op op_add pe_int (pe_op op_mod (pe_op op_fdiv (pv 0) pe_int) pe_int)) pa_nil)) (pg_name (i := 2) nd rfl (Or.inl rfl)) (pss_one (ps_set (i := 1) nd rfl (Or.inl rfl) (pe_lst (pa_cons (pv 1) pa_nil))))))
    (pss_cons (ps_set (i := 3) nd rfl (Or.inl rfl) (pe_op op_mod (pe_op op_fdiv (pv 0) pe_int) pe_int))
    (pss_cons (ps_mid (ps_set (i := 4) nd rfl (Or.inl rfl) (pe_lst (pa_cons (pe_tup pa_nil) (pa_cons (pe_op op_sub (pe_op op_add (pe_op op_pow pe_int pe_int) pe_int) (pv 3)) (pa_cons (pe_op op_sub (pe_un un_neg (pe_op op_pow pe_int pe_int)) (pe_op op_mod (pe_op op_fdiv (pv 0) pe_int) pe_int)) (pa_cons (pe_op op_mul_str pe_str (pe_op op_add pe_int (pv 3))) (pa_cons pe_str (pa_cons pe_str (pa_cons (pv 1) pa_nil))))))))))
    (pss_cons (ps_mid (ps_set (i := 4) nd rfl (Or.inl rfl) (pe_op op_cat (pv 4) (pe_lst (pa_cons (pe_op op_rep (pe_lst (pa_cons pe_int pa_nil)) (pe_op op_add pe_int (pv 3))) (pa_cons (pe_op op_rep (pe_lst (pa_cons (pe_op op_rep (pe_lst (pa_cons pe_int pa_nil)) pe_int) pa_nil)) (pe_op op_sub pe_int (pv 3))) (pa_cons (pe_disp (pps_cons pe_str (pe_op op_rep (pe_lst (pa_cons pe_int pa_nil)) pe_int) pps_nil) (by rfl) (by rfl) (List.cons_ne_nil _ _) (by decide)) pa_nil)))))))
    (pss_cons (ps_mid (ps_set (i := 4) nd rfl (Or.inl rfl) (pe_op op_cat (pv 4) (pe_lst (pa_cons (pe_callTy (call_dict_p rfl) rfl B.dict bt_dict (pa_cons (pe_comp (own := ["_law_j"]) (F := []) ⟨rfl, by with_unfolding_all rfl, by with_unfolding_all rfl, by with_unfolding_all rfl, .nil⟩ rfl (pi_range1 rfl B.range (pa_cons (pe_op op_add pe_int (pv 3)) pa_nil)) (fun _ _ _ _ => pg_name (i := 0) (by show (compN ["_law_j"] []).Nodup; decide +kernel) rfl (Or.inl rfl)) (fun _ _ _ _ => pts_nil) (fun _ _ _ _ => (pe_tup (pa_cons (pe_op op_add_str pe_str (pe_callTy call_str_int rfl B.str bt_str (pa_cons (pv 0) pa_nil))) (pa_cons (pv 0) pa_nil))))) pa_nil)) pa_nil)))))
    (pss_cons (ps_mid (ps_set (i := 4) nd rfl (Or.inl rfl) (pe_op op_cat (pv 4) (pe_lst (pa_cons (pe_lst (pa_cons (pe_disp (pps_cons pe_str pe_int pps_nil) (by rfl) (by rfl) (List.cons_ne_nil _ _) (by decide)) pa_nil)) (pa_cons (pe_lst (pa_cons (pe_lst (pa_cons (pe_tup (pa_cons pe_int pa_nil)) pa_nil)) pa_nil)) (pa_cons (pe_disp (pps_cons pe_str (pe_lst (pa_cons (pe_op op_add (pe_op op_pow pe_int pe_int) (pv 3)) pa_nil)) pps_nil) (by rfl) (by rfl) (List.cons_ne_nil _ _) (by decide)) (pa_cons (pe_disp (pps_cons pe_str (pe_disp (pps_cons pe_str pe_int pps_nil) (by rfl) (by rfl) (List.cons_ne_nil _ _) (by decide)) pps_nil) (by rfl) (by rfl) (List.cons_ne_nil _ _) (by decide)) (pa_cons (pe_lst (pa_cons (pe_lst (pa_cons (pe_op op_mul_str pe_str (pe_op op_add pe_int (pv 3))) pa_nil)) pa_nil)) pa_nil)))))))))
    (pss_one (ps_ret (pe_ix ix_list (pv 4) (pe_op op_mod (pv 0) pe_int) (fun _ _ => rfl))))))))))), ?_⟩
  rw [show start ["_law_more", "_law_deep", "_law_j", "_law_over", "_law_some"] [.int m] = [some (.int m), none, none, none, none] from rfl]
  walk_at "rd3"
  refine ⟨BMd m H, ?_, ?_⟩
  · walk_at "rd3"
    refine ⟨by omega, by omega, forB_rng (BMi m H) ⟨_, _, .int 0, rfl, rfl, True.intro, rfl, rfl, Same.refl _⟩ ?_ ?_⟩
    · rintro i σ H' hi ⟨v, o, t, rfl, hv, hg, hz, hd, g⟩
      walk_at "rd3"
      intro p hp
      have s1 := same_new hp (.lst [v])
      refine ⟨_, _, .lst [t], rfl, ⟨p, _, rfl, upd_same, v, [], rfl, Rep.same s1 _ _ hv, rfl⟩, ⟨hg, True.intro⟩, ?_, ?_, g.trans s1⟩
      · show T.sz t + 0 + 1 = _; omega
      · show max (T.dep t) 0 + 1 = _; omega
    · rintro σ H' ⟨v, o, t, rfl, hv, hg, hz, hd, g⟩
      exact ⟨v, o, t, rfl, hv, ⟨hg, by omega, by omega⟩, g⟩
  rintro σ H1 ⟨v, o, t, rfl, hv, hxg, g1⟩
  walk_at "rd3"
  have ov0 : 0 ≤ m / 11 % 2 := by omega
  have ov1 : m / 11 % 2 ≤ 1 := by omega
  generalize m / 11 % 2 = ov at ov0 ov1 ⊢
  refine ⟨BMl m ov 7 H, ?_, ?_⟩
  · walk_at "rd3"
    intro p0 hp0
    refine ⟨by decide +kernel, by omega, by omega, fun p1 hp1 => ?_⟩
    have s0 := same_new hp0 (.tup [])
    have e0 := upd_same (H := H1) (a := p0) (o := .tup [])
    generalize upd H1 p0 (.tup []) = Ha at s0 e0 hp1 ⊢
    have s1 := same_new hp1 (.lst [V.ref p0, V.int (1000000000001 - ov), V.int (-1000000000000 - m / 11 % 3), V.str (tx (List.replicate (30 + ov).toNat (ts (Str.ofString "a"))).flatten), V.str (Str.ofString "a\tb"), V.str (Str.ofString "a\nb"), v])
    refine ⟨_, _, p1, _, rfl, upd_same, rfl, fun x hx => ?_, g1.trans (s0.trans s1)⟩
    simp only [List.mem_cons, List.not_mem_nil, or_false] at hx
    rcases hx with rfl | rfl | rfl | rfl | rfl | rfl | rfl
    · exact ⟨.tup [], ⟨p0, [], rfl, s1 _ _ e0, rfl⟩, True.intro, (by decide), (by decide)⟩
    · exact ⟨.int _, rfl, xg_leaf True.intro rfl rfl⟩
    · exact ⟨.int _, rfl, xg_leaf True.intro rfl rfl⟩
    · exact ⟨.str _, rfl, xg_leaf (as_gd _ (by omega)) rfl rfl⟩
    · exact ⟨.str (ts (Str.ofString "a\tb")), rep_word _, xg_leaf (show (ts (Str.ofString "a\tb")).length ≤ 1000 ∧ ∀ c ∈ ts (Str.ofString "a\tb"), c ∈ sgnL ∨ c = 9 ∨ c = 10 by decide +kernel) rfl rfl⟩
    · exact ⟨.str (ts (Str.ofString "a\nb")), rep_word _, xg_leaf (show (ts (Str.ofString "a\nb")).length ≤ 1000 ∧ ∀ c ∈ ts (Str.ofString "a\nb"), c ∈ sgnL ∨ c = 9 ∨ c = 10 by decide +kernel) rfl rfl⟩
    · exact ⟨t, Rep.same (s0.trans s1) _ _ hv, hxg⟩
  rintro σ H2 ⟨v, o, p, A, rfl, hp, hA, hX, g2⟩
  walk_at "rd3"
  refine ⟨BMl m ov 10 H, ?_, ?_⟩
  · walk_at "rd3"
    intro q1 hq1
    have a1 := upd_same (H := H2) (a := q1) (o := .lst [V.int 0])
    have s1 := same_new hq1 (.lst [V.int 0])
    generalize upd H2 q1 (.lst [V.int 0]) = H3 at a1 s1 ⊢
    refine ⟨q1, 60 + ov, _, rfl, rfl, a1, by omega, by omega, by rw [sizeLine_eq]; show 1 * _ ≤ _; omega, fun q2 hq2 q3 hq3 => ?_⟩
    have a2 := upd_same (H := H3) (a := q2) (o := .lst (List.replicate (60 + ov).toNat [V.int 0]).flatten)
    have s2 := same_new hq2 (.lst (List.replicate (60 + ov).toNat [V.int 0]).flatten)
    generalize upd H3 q2 (.lst (List.replicate (60 + ov).toNat [V.int 0]).flatten) = H4 at a2 s2 hq3 ⊢
    have a3 := upd_same (H := H4) (a := q3) (o := .lst [V.int 0])
    have s3 := same_new hq3 (.lst [V.int 0])
    generalize upd H4 q3 (.lst [V.int 0]) = H5 at a3 s3 ⊢
    refine ⟨q3, 39, _, rfl, rfl, a3, by decide, by decide, by rw [sizeLine_eq]; decide, fun q4 hq4 q5 hq5 => ?_⟩
    have a4 := upd_same (H := H5) (a := q4) (o := .lst (List.replicate (39 : Int).toNat [V.int 0]).flatten)
    have s4 := same_new hq4 (.lst (List.replicate (39 : Int).toNat [V.int 0]).flatten)
    generalize upd H5 q4 (.lst (List.replicate (39 : Int).toNat [V.int 0]).flatten) = H6 at a4 s4 hq5 ⊢
    have a5 := upd_same (H := H6) (a := q5) (o := .lst [V.ref q4])
    have s5 := same_new hq5 (.lst [V.ref q4])
    generalize upd H6 q5 (.lst [V.ref q4]) = H7 at a5 s5 ⊢
    refine ⟨q5, 5 - ov, _, rfl, rfl, a5, by omega, by omega, by rw [sizeLine_eq]; show 1 * _ ≤ _; omega, fun q6 hq6 q7 hq7 q8 hq8 => ?_⟩
    have a6 := upd_same (H := H7) (a := q6) (o := .lst (List.replicate (5 - ov).toNat [V.ref q4]).flatten)
    have s6 := same_new hq6 (.lst (List.replicate (5 - ov).toNat [V.ref q4]).flatten)
    generalize upd H7 q6 (.lst (List.replicate (5 - ov).toNat [V.ref q4]).flatten) = H8 at a6 s6 hq7 hq8 ⊢
    have a8 := upd_same (H := upd H8 q7 (.dK [])) (a := q8) (o := .lst [V.int 0])
    refine ⟨q8, 61, _, rfl, rfl, a8, by decide, by decide, by rw [sizeLine_eq]; decide, fun q9 hq9 => ?_⟩
    have s789 := (same_new hq7 (.dK [])).trans ((same_new hq8 (.lst [V.int 0])).trans (same_new hq9 (.lst (List.replicate (61 : Int).toNat [V.int 0]).flatten)))
    have e7 := (same_new hq9 (.lst (List.replicate (61 : Int).toNat [V.int 0]).flatten)) _ _ (same_new hq8 (.lst [V.int 0]) _ _ (upd_same (H := H8) (a := q7) (o := .dK [])))
    have e9 := upd_same (H := upd (upd H8 q7 (.dK [])) q8 (.lst [V.int 0])) (a := q9) (o := .lst (List.replicate (61 : Int).toNat [V.int 0]).flatten)
    generalize upd (upd (upd H8 q7 (.dK [])) q8 (.lst [V.int 0])) q9 (.lst (List.replicate (61 : Int).toNat [V.int 0]).flatten) = H9 at s789 e7 e9 ⊢
    have hne : q9 ≠ q7 := fun z => by rw [z, e7] at e9; cases e9
    refine ⟨e7, [(Sum.inr (Str.ofString "a"), .ref q9)], rfl, (show 1 ≤ 15 by decide), fun q10 hq10 => ?_⟩
    have sd : Same H8 (upd H9 q7 (.dK (mergeK [] [(Sum.inr (Str.ofString "a"), .ref q9)]))) := s789.put hq7 _
    have ed := upd_same (H := H9) (a := q7) (o := .dK (mergeK [] [(Sum.inr (Str.ofString "a"), .ref q9)]))
    have e9' : upd H9 q7 (.dK (mergeK [] [(Sum.inr (Str.ofString "a"), .ref q9)])) q9 = some (.lst (List.replicate (61 : Int).toNat [V.int 0]).flatten) := by rw [upd_ne hne]; exact e9
    generalize upd H9 q7 (.dK (mergeK [] [(Sum.inr (Str.ofString "a"), .ref q9)])) = H10 at sd ed e9' hq10 ⊢
    have a10 := upd_same (H := H10) (a := q10) (o := .lst [V.ref q2, V.ref q6, V.ref q7])
    have s10 := same_new hq10 (.lst [V.ref q2, V.ref q6, V.ref q7])
    generalize upd H10 q10 (.lst [V.ref q2, V.ref q6, V.ref q7]) = H11 at a10 s10 ⊢
    have t6 := s6.trans (sd.trans s10)
    have t5 := s5.trans t6
    have t4 := s4.trans t5
    have t3 := s3.trans t4
    have t2 := s2.trans t3
    have t1 := s1.trans t2
    refine ⟨p, q10, _, _, rfl, rfl, t1 _ _ hp, a10, by rw [sizeLine_eq, hA]; show 7 + 3 ≤ 16777216; decide, fun q11 hq11 => ?_⟩
    have s11 := same_new hq11 (.lst (A ++ [V.ref q2, V.ref q6, V.ref q7]))
    refine ⟨_, _, q11, _, rfl, upd_same, by rw [List.length_append, hA]; rfl, fun x hx => ?_, g2.trans (t1.trans s11)⟩
    rcases List.mem_append.mp hx with hx | hx
    · obtain ⟨t, h1, h2⟩ := hX x hx
      exact ⟨t, Rep.same (t1.trans s11) _ _ h1, h2⟩
    simp only [List.mem_cons, List.not_mem_nil, or_false] at hx
    rcases hx with rfl | rfl | rfl
    · obtain ⟨i1, i2, i3⟩ := ints_x (60 + ov).toNat
      exact ⟨.lst (List.replicate (60 + ov).toNat (.int 0)), ⟨q2, _, rfl, s11 _ _ (t3 _ _ a2), rep_ints _⟩, i1, (show T.szs _ + 1 ≤ 1000 by omega), (show T.deps _ + 1 < 20 by omega)⟩
    · obtain ⟨i1, i2, i3⟩ := ints_x 39
      obtain ⟨j1, j2, j3⟩ := same_n (t := .lst (List.replicate 39 (.int 0))) i1 (5 - ov).toNat
      have z1 : T.sz (.lst (List.replicate 39 (.int 0))) = 40 := by show T.szs _ + 1 = 40; omega
      have z2 : T.dep (.lst (List.replicate 39 (.int 0))) = 1 := by show T.deps _ + 1 = 1; omega
      rw [z1] at j2
      rw [z2] at j3
      exact ⟨.lst (List.replicate (5 - ov).toNat (.lst (List.replicate 39 (.int 0)))), ⟨q6, _, rfl, s11 _ _ ((sd.trans s10) _ _ a6), rep_same_n (show Rep _ (V.ref q4) (.lst (List.replicate 39 (.int 0))) from ⟨q4, _, rfl, s11 _ _ (t5 _ _ a4), rep_ints 39⟩) _⟩, j1, (show T.szs _ + 1 ≤ 1000 by omega), (show T.deps _ + 1 < 20 by omega)⟩
    · obtain ⟨i1, i2, i3⟩ := ints_x 61
      refine ⟨.dic [ts (Str.ofString "a")] [.lst (List.replicate 61 (.int 0))], ⟨q7, _, rfl, s11 _ _ (s10 _ _ ed), rfl, _, [], rfl, ⟨q9, _, rfl, s11 _ _ (s10 _ _ e9'), rep_ints 61⟩, rfl⟩, ⟨by simp, rfl, by decide +kernel, i1, True.intro⟩, ?_, ?_⟩
      · show T.szs _ + 1 + 0 + 1 ≤ 1000; omega
      · show max (T.deps _ + 1) 0 + 1 < 20; omega
  rintro σ H2 ⟨v, o, p, A, rfl, hp, hA, hX, g2⟩
  walk_at "rd3"
  refine ⟨BMl m ov 11 H, ?_, ?_⟩
  · walk_at "rd3"
    refine ⟨by omega, by omega, comp_rng (fun i zs H3 => Same H2 H3 ∧ ∃ as : List Addr, zs = as.map V.ref ∧ as.length = i ∧ ∀ (j : Nat) a, as[j]? = some a → H3 a = some (.tup [V.str (tx (nkey j)), V.int (j : Int)])) (by rw [sizeLine_eq]; omega) ⟨Same.refl _, [], rfl, rfl, fun j a h => by simp at h⟩ ?_ ?_⟩
    · rintro i zs H3 hi _ ⟨g3, as, rfl, hl, ha⟩
      walk_at "rd3"
      rw [Int.zero_add]
      have hlg : ((i : Nat) : Int).natAbs.log2 < 1920 := by
        have : ((i : Nat) : Int).natAbs.log2 ≤ ((i : Nat) : Int).natAbs := Nat.log2_le_self _
        omega
      have hkl := nkey_nd.2 (nkey i) (List.mem_map.mpr ⟨i, List.mem_range.mpr (by omega), rfl⟩)
      refine ⟨hlg, ?_, fun a ha' => ?_⟩
      · have e : (Str.ofString "n" ++ Str.ofString (toString ((i : Nat) : Int))).length = (nkey i).length := by rw [ts_len]; rfl
        have e2 : (Str.ofString "n" ++ Str.ofString (toString ((i : Nat) : Int))).length = (Str.ofString "n").length + (Str.ofString (toString ((i : Nat) : Int))).length := by
          rw [ts_len, ts_app, List.length_append, ← ts_len, ← ts_len]
        omega
      · have s1 := same_new ha' (.tup [V.str (Str.ofString "n" ++ Str.ofString (toString ((i : Nat) : Int))), V.int (i : Int)])
        refine ⟨g3.trans s1, as ++ [a], by simp, by simp [hl], fun j b hb => ?_⟩
        by_cases c : j < as.length
        · rw [List.getElem?_append_left c] at hb
          exact s1 _ _ (ha j b hb)
        · rw [List.getElem?_append_right (by omega)] at hb
          have hj : j - as.length = 0 := by
            have := (List.getElem?_eq_some_iff.mp hb).1
            simpa using this
          rw [hj] at hb
          simp only [List.getElem?_cons_zero, Option.some.injEq] at hb
          subst hb
          have e : j = i := by omega
          subst e
          rw [upd_same]
          rw [show tx (nkey j) = Str.ofString "n" ++ Str.ofString (toString ((j : Nat) : Int)) from tx_ts _]
    · rintro zs H3 _ ⟨g3, as, rfl, hl, ha⟩ q1 hq1
      have s1 := same_new hq1 (.lst (as.map V.ref))
      have hkn : (((List.range as.length).map fun j => (Sum.inr (tx (nkey j)), V.int (j : Int)) : List (Key × V)).map (·.1)) = ((List.range as.length).map nkey).map nK := by rw [List.map_map, List.map_map]; rfl
      have hnd : ((List.range as.length).map nkey).Nodup := by
        have h31 := nkey_nd.1
        have hle : as.length ≤ 31 := by omega
        exact List.Nodup.sublist (List.Sublist.map _ (by
          have : (List.range 31).take as.length = List.range as.length := by rw [List.take_range, Nat.min_eq_left hle]
          rw [← this]; exact List.take_sublist _ _)) h31
      have hmg : mergeK [] ((List.range as.length).map fun j => (Sum.inr (tx (nkey j)), V.int (j : Int)) : List (Key × V)) = (List.range as.length).map fun j => (Sum.inr (tx (nkey j)), V.int (j : Int)) := mergeK_nodup _ [] (by rw [List.nil_append, hkn]; exact nodup_nK hnd)
      refine ⟨q1, rfl, as.map V.ref, upd_same, (List.range as.length).map fun j => (Sum.inr (tx (nkey j)), V.int (j : Int)), by simp, fun j kv hj => ?_, fun l hl' q2 hq2 => ?_⟩
      · rw [List.getElem?_map] at hj
        have hjl : j < as.length := by
          by_cases c : j < as.length
          · exact c
          · rw [List.getElem?_eq_none (by rw [List.length_range]; omega)] at hj; cases hj
        rw [List.getElem?_range hjl] at hj
        cases hj
        refine ⟨as[j], by rw [List.getElem?_map, List.getElem?_eq_getElem hjl]; rfl, s1 _ _ (ha j as[j] (List.getElem?_eq_getElem hjl))⟩
      · rw [hmg] at hq2 ⊢
        have s2 := same_new hl' (.dK ((List.range as.length).map fun j => (Sum.inr (tx (nkey j)), V.int (j : Int))))
        have e2 := upd_same (H := upd H3 q1 (.lst (as.map V.ref))) (a := l) (o := .dK ((List.range as.length).map fun j => (Sum.inr (tx (nkey j)), V.int (j : Int))))
        generalize upd (upd H3 q1 (.lst (as.map V.ref))) l (.dK ((List.range as.length).map fun j => (Sum.inr (tx (nkey j)), V.int (j : Int)))) = H4 at s2 e2 hq2 ⊢
        have a3 := upd_same (H := H4) (a := q2) (o := .lst [V.ref l])
        have s3 := same_new hq2 (.lst [V.ref l])
        generalize upd H4 q2 (.lst [V.ref l]) = H5 at a3 s3 ⊢
        have G := g3.trans (s1.trans (s2.trans s3))
        refine ⟨p, q2, _, _, rfl, rfl, G _ _ hp, a3, by rw [sizeLine_eq, hA]; show 10 + 1 ≤ 16777216; decide, fun q3 hq3 => ?_⟩
        have s4 := same_new hq3 (.lst (A ++ [V.ref l]))
        refine ⟨_, _, q3, _, rfl, upd_same, by rw [List.length_append, hA]; rfl, fun x hx => ?_, g2.trans (G.trans s4)⟩
        rcases List.mem_append.mp hx with hx | hx
        · obtain ⟨t, h1, h2⟩ := hX x hx
          exact ⟨t, Rep.same (G.trans s4) _ _ h1, h2⟩
        rw [List.mem_singleton] at hx
        subst hx
        have hri : ∀ (Hx : Hp) (n : List Nat), Reps Hx (n.map fun (j : Nat) => V.int (j : Int)) (n.map fun (j : Nat) => T.int (j : Int)) := fun Hx n => by
          induction n with
          | nil => rfl
          | cons j n ih => exact ⟨V.int j, _, rfl, rfl, ih⟩
        have hgi : ∀ n : List Nat, T.gds (n.map fun (j : Nat) => T.int (j : Int)) ∧ T.szs (n.map fun (j : Nat) => T.int (j : Int)) = n.length ∧ T.deps (n.map fun (j : Nat) => T.int (j : Int)) = 0 := fun n => by
          induction n with
          | nil => exact ⟨True.intro, rfl, rfl⟩
          | cons j n ih =>
            obtain ⟨a, b, c⟩ := ih
            exact ⟨⟨True.intro, a⟩, by show 1 + T.szs _ = n.length + 1; omega, by show max 0 (T.deps _) = 0; omega⟩
        obtain ⟨i1, i2, i3⟩ := hgi (List.range as.length)
        rw [List.length_range] at i2
        refine ⟨.dic ((List.range as.length).map nkey) ((List.range as.length).map fun (j : Nat) => T.int (j : Int)), ⟨l, _, rfl, s4 _ _ (s3 _ _ e2), hkn, ?_⟩, ⟨hnd, by simp, fun k hk => ?_, i1⟩, ?_, ?_⟩
        · rw [List.map_map]
          exact hri _ _
        · obtain ⟨j, hj, rfl⟩ := List.mem_map.mp hk
          have := nkey_nd.2 (nkey j) (List.mem_map.mpr ⟨j, List.mem_range.mpr (by have := List.mem_range.mp hj; omega), rfl⟩)
          omega
        · show T.szs _ + 1 ≤ 1000; omega
        · show T.deps _ + 1 < 20; omega
  rintro σ H2 ⟨v, o, p, A, rfl, hp, hA, hX, g2⟩
  walk_at "rd3"
  refine ⟨BMl m ov 16 H, ?_, ?_⟩
  · walk_at "rd3"
    intro q1 hq1
    refine ⟨upd_same, [(Sum.inr (Str.ofString "A"), .int 1)], rfl, (show 1 ≤ 15 by decide), ?_⟩
    simp only [upd_upd]
    intro q2 hq2
    have a1 := upd_same (H := H2) (a := q1) (o := .dK (mergeK [] [(Sum.inr (Str.ofString "A"), .int 1)]))
    have s1 := same_new hq1 (.dK (mergeK [] [(Sum.inr (Str.ofString "A"), .int 1)]))
    generalize upd H2 q1 (.dK (mergeK [] [(Sum.inr (Str.ofString "A"), .int 1)])) = H3 at a1 s1 hq2 ⊢
    have a2 := upd_same (H := H3) (a := q2) (o := .lst [V.ref q1])
    have s2 := same_new hq2 (.lst [V.ref q1])
    generalize upd H3 q2 (.lst [V.ref q1]) = H4 at a2 s2 ⊢
    intro q3 hq3
    have a3 := upd_same (H := H4) (a := q3) (o := .tup [V.int 1])
    have s3 := same_new hq3 (.tup [V.int 1])
    generalize upd H4 q3 (.tup [V.int 1]) = H5 at a3 s3 ⊢
    intro q4 hq4
    have a4 := upd_same (H := H5) (a := q4) (o := .lst [V.ref q3])
    have s4 := same_new hq4 (.lst [V.ref q3])
    generalize upd H5 q4 (.lst [V.ref q3]) = H6 at a4 s4 ⊢
    intro q5 hq5
    have a5 := upd_same (H := H6) (a := q5) (o := .lst [V.ref q4])
    have s5 := same_new hq5 (.lst [V.ref q4])
    generalize upd H6 q5 (.lst [V.ref q4]) = H7 at a5 s5 ⊢
    intro q6 hq6 q7 hq7
    have e6 := same_new hq7 (.lst [V.int (1000000000000 + ov)]) _ _ (upd_same (H := H7) (a := q6) (o := .dK []))
    have e7 := upd_same (H := upd H7 q6 (.dK [])) (a := q7) (o := .lst [V.int (1000000000000 + ov)])
    have s67 := (same_new hq6 (.dK [])).trans (same_new hq7 (.lst [V.int (1000000000000 + ov)]))
    generalize upd (upd H7 q6 (.dK [])) q7 (.lst [V.int (1000000000000 + ov)]) = H8 at e6 e7 s67 ⊢
    refine ⟨e6, [(Sum.inr (Str.ofString "a"), .ref q7)], rfl, (show 1 ≤ 15 by decide), ?_⟩
    have n76 : q7 ≠ q6 := fun z => by rw [z, e6] at e7; cases e7
    have s6 : Same H7 (upd H8 q6 (.dK (mergeK [] [(Sum.inr (Str.ofString "a"), .ref q7)]))) := s67.put hq6 _
    have a6 := upd_same (H := H8) (a := q6) (o := .dK (mergeK [] [(Sum.inr (Str.ofString "a"), .ref q7)]))
    have a7 : upd H8 q6 (.dK (mergeK [] [(Sum.inr (Str.ofString "a"), .ref q7)])) q7 = some (.lst [V.int (1000000000000 + ov)]) := by rw [upd_ne n76]; exact e7
    generalize upd H8 q6 (.dK (mergeK [] [(Sum.inr (Str.ofString "a"), .ref q7)])) = H9 at s6 a6 a7 ⊢
    intro q8 hq8 q9 hq9
    refine ⟨upd_same, [(Sum.inr (Str.ofString ""), .int 1)], rfl, (show 1 ≤ 15 by decide), ?_⟩
    have e8 := same_new hq9 (.dK (mergeK [] [(Sum.inr (Str.ofString ""), .int 1)])) _ _ (upd_same (H := H9) (a := q8) (o := .dK []))
    have e9 := upd_same (H := upd H9 q8 (.dK [])) (a := q9) (o := .dK (mergeK [] [(Sum.inr (Str.ofString ""), .int 1)]))
    have s89 := (same_new hq8 (.dK [])).trans (same_new hq9 (.dK (mergeK [] [(Sum.inr (Str.ofString ""), .int 1)])))
    have n98 : q9 ≠ q8 := fun z => by rw [z, upd_same] at hq9; cases hq9
    generalize upd (upd H9 q8 (.dK [])) q9 (.dK (mergeK [] [(Sum.inr (Str.ofString ""), .int 1)])) = H10 at e8 e9 s89 ⊢
    refine ⟨e8, [(Sum.inr (Str.ofString "a"), .ref q9)], rfl, (show 1 ≤ 15 by decide), by decide +kernel, by omega, by omega, ?_⟩
    have s8 : Same H9 (upd H10 q8 (.dK (mergeK [] [(Sum.inr (Str.ofString "a"), .ref q9)]))) := s89.put hq8 _
    have a8 := upd_same (H := H10) (a := q8) (o := .dK (mergeK [] [(Sum.inr (Str.ofString "a"), .ref q9)]))
    have a9 : upd H10 q8 (.dK (mergeK [] [(Sum.inr (Str.ofString "a"), .ref q9)])) q9 = some (.dK (mergeK [] [(Sum.inr (Str.ofString ""), .int 1)])) := by rw [upd_ne n98]; exact e9
    generalize upd H10 q8 (.dK (mergeK [] [(Sum.inr (Str.ofString "a"), .ref q9)])) = H11 at s8 a8 a9 ⊢
    intro q10 hq10
    have a10 := upd_same (H := H11) (a := q10) (o := .lst [V.str (tx (List.replicate (30 + ov).toNat (ts (Str.ofString "a"))).flatten)])
    have s10 := same_new hq10 (.lst [V.str (tx (List.replicate (30 + ov).toNat (ts (Str.ofString "a"))).flatten)])
    generalize upd H11 q10 (.lst [V.str (tx (List.replicate (30 + ov).toNat (ts (Str.ofString "a"))).flatten)]) = H12 at a10 s10 ⊢
    intro q11 hq11
    have a11 := upd_same (H := H12) (a := q11) (o := .lst [V.ref q10])
    have s11 := same_new hq11 (.lst [V.ref q10])
    generalize upd H12 q11 (.lst [V.ref q10]) = H13 at a11 s11 ⊢
    intro q12 hq12
    have a12 := upd_same (H := H13) (a := q12) (o := .lst [V.ref q2, V.ref q5, V.ref q6, V.ref q8, V.ref q11])
    have s12 := same_new hq12 (.lst [V.ref q2, V.ref q5, V.ref q6, V.ref q8, V.ref q11])
    generalize upd H13 q12 (.lst [V.ref q2, V.ref q5, V.ref q6, V.ref q8, V.ref q11]) = H14 at a12 s12 ⊢
    have t11 := s11.trans s12
    have t10 := s10.trans t11
    have t8 := s8.trans t10
    have t6 := s6.trans t8
    have t5 := s5.trans t6
    have t4 := s4.trans t5
    have t3 := s3.trans t4
    have t2 := s2.trans t3
    have t1 := s1.trans t2
    refine ⟨p, q12, _, _, rfl, rfl, t1 _ _ hp, a12, by rw [sizeLine_eq, hA]; show 11 + 5 ≤ 16777216; decide, fun q13 hq13 => ?_⟩
    have sE := same_new hq13 (.lst (A ++ [V.ref q2, V.ref q5, V.ref q6, V.ref q8, V.ref q11]))
    refine ⟨_, _, q13, _, rfl, upd_same, by rw [List.length_append, hA]; rfl, fun x hx => ?_, g2.trans (t1.trans sE)⟩
    rcases List.mem_append.mp hx with hx | hx
    · obtain ⟨t, h1, h2⟩ := hX x hx
      exact ⟨t, Rep.same (t1.trans sE) _ _ h1, h2⟩
    generalize upd H14 q13 (.lst (A ++ [V.ref q2, V.ref q5, V.ref q6, V.ref q8, V.ref q11])) = HE at sE ⊢
    simp only [List.mem_cons, List.not_mem_nil, or_false] at hx
    rcases hx with rfl | rfl | rfl | rfl | rfl
    · exact ⟨.lst [.dic [ts (Str.ofString "A")] [.int 1]], ⟨q2, _, rfl, sE _ _ (t3 _ _ a2), _, [], rfl, ⟨q1, _, rfl, sE _ _ (t2 _ _ a1), rfl, _, [], rfl, rfl, rfl⟩, rfl⟩, ⟨⟨by simp, rfl, by decide +kernel, True.intro, True.intro⟩, True.intro⟩, by decide, by decide⟩
    · exact ⟨.lst [.lst [.tup [.int 1]]], ⟨q5, _, rfl, sE _ _ (t6 _ _ a5), _, [], rfl, ⟨q4, _, rfl, sE _ _ (t5 _ _ a4), _, [], rfl, ⟨q3, _, rfl, sE _ _ (t4 _ _ a3), _, [], rfl, rfl, rfl⟩, rfl⟩, rfl⟩, ⟨⟨⟨True.intro, True.intro⟩, True.intro⟩, True.intro⟩, by decide, by decide⟩
    · refine ⟨.dic [ts (Str.ofString "a")] [.lst [.int (1000000000000 + ov)]], ⟨q6, _, rfl, sE _ _ (t8 _ _ a6), rfl, _, [], rfl, ⟨q7, _, rfl, sE _ _ (t8 _ _ a7), _, [], rfl, rfl, rfl⟩, rfl⟩, ⟨by simp, rfl, by decide +kernel, ⟨True.intro, True.intro⟩, True.intro⟩, ?_, ?_⟩
      · show 1 + 0 + 1 + 0 + 1 ≤ 1000; decide
      · show max (max 0 0 + 1) 0 + 1 < 20; decide
    · exact ⟨.dic [ts (Str.ofString "a")] [.dic [ts (Str.ofString "")] [.int 1]], ⟨q8, _, rfl, sE _ _ (t10 _ _ a8), rfl, _, [], rfl, ⟨q9, _, rfl, sE _ _ (t10 _ _ a9), rfl, _, [], rfl, rfl, rfl⟩, rfl⟩, ⟨by simp, rfl, by decide +kernel, ⟨by simp, rfl, by decide +kernel, True.intro, True.intro⟩, True.intro⟩, by decide, by decide⟩
    · refine ⟨.lst [.lst [.str (List.replicate (30 + ov).toNat (ts (Str.ofString "a"))).flatten]], ⟨q11, _, rfl, sE _ _ (s12 _ _ a11), _, [], rfl, ⟨q10, _, rfl, sE _ _ (t11 _ _ a10), _, [], rfl, rfl, rfl⟩, rfl⟩, ⟨⟨as_gd _ (by omega), True.intro⟩, True.intro⟩, ?_, ?_⟩
      · show 1 + 0 + 1 + 0 + 1 ≤ 1000; decide
      · show max (max 0 0 + 1) 0 + 1 < 20; decide
  rintro σ H2 ⟨v, o, p, A, rfl, hp, hA, hX, g2⟩
  walk_at "rd3"
  obtain ⟨x, hx, hm⟩ := atI_of (xs := A) (i := m % 16) (by omega) (by omega)
  obtain ⟨t, ht1, ht2⟩ := hX x hm
  exact rIxL_i (SqL.of hp) hx (q x t H2 g2 ht1 ht2)
end
end K41
namespace K41
open PySem L2
local macro_rules | `(tactic| walk_at "rd") => `(tactic| simp only [cxOf_K, nox_K, compCx_K, tSeq, tNext, tAsg, gName, tRet, tRetN, tIfS, tDrop, tOp, tUn, tVar, tC, tCall, tCons, tNil, tTest, tB, tAnd, tOr, tNot, tAndV, tOrV, tNotV, tIf, tCB, tBM, tComp, tTrue, tPart, tNoPart, tSl, tChain, tIsN, tNotN, tLst, tTup, tFor_eq, sDPut, tDNewK, tNever, rI0, rI, rU, rEq, rNe, rMulS, rInC, iRng1, iStr, CDiv, CMul, CPow, scal, List.append_nil, List.getElem?_cons_zero, List.getElem?_cons_succ, List.set_cons_zero, List.set_cons_succ, List.map_cons, List.map_nil, List.length_cons, List.length_nil, sizeLine_eq, Nat.reduceAdd, Nat.reduceLeDiff, Option.join_some, Option.join_none, Option.some.injEq, V.int.injEq, V.str.injEq, V.bl.injEq, V.ref.injEq, V.ty.injEq, List.cons.injEq, and_true, true_and, and_self, exists_eq_left', exists_eq_left, exists_and_left, exists_and_right, decide_eq_true_eq, Bool.not_eq_eq_eq_not, Bool.not_true, Bool.not_false, decide_eq_false_iff_not, Int.reduceLT, Int.reduceLE, Int.reduceNeg, Int.reducePow, Int.reduceAdd, Int.reduceSub, Int.reduceMul, Int.reduceToNat, natAbs10, Nat.reduceLT, Nat.reducePow, or_true, true_or, if_true, if_false, Bool.false_eq_true, ite_true, ite_false, reduceCtorEq])
local macro_rules | `(tactic| walk_at "rd3") => `(tactic| simp only [gTup, gCons, gNil, iZip, tIsT, tDisp, tPairs, tBM0, iList, iDict, tThaw, tMaxD, rMaxD, tDGet, rVals, tComp, cxOf_K, nox_K, compCx_K, tSeq, tNext, tAsg, gName, tRet, tRetN, tIfS, tDrop, tOp, tUn, tVar, tC, tCall, tCons, tNil, tTest, tB, tAnd, tOr, tNot, tAndV, tOrV, tNotV, tIf, tCB, tBM, tComp, tTrue, tPart, tNoPart, tSl, tChain, tIsN, tNotN, tLst, tTup, tFor_eq, sDPut, tDNewK, tNever, rI0, rI, rU, rEq, rNe, rMulS, rInC, iRng1, iStr, CDiv, CMul, CPow, scal, List.append_nil, List.getElem?_cons_zero, List.getElem?_cons_succ, List.set_cons_zero, List.set_cons_succ, List.map_cons, List.map_nil, List.length_cons, List.length_nil, sizeLine_eq, Nat.reduceAdd, Nat.reduceLeDiff, Option.join_some, Option.join_none, Option.some.injEq, V.int.injEq, V.str.injEq, V.bl.injEq, V.ref.injEq, V.ty.injEq, List.cons.injEq, and_true, true_and, and_self, exists_eq_left', exists_eq_left, exists_and_left, exists_and_right, decide_eq_true_eq, Bool.not_eq_eq_eq_not, Bool.not_true, Bool.not_false, decide_eq_false_iff_not, Int.reduceLT, Int.reduceLE, Int.reduceNeg, Int.reducePow, Int.reduceAdd, Int.reduceSub, Int.reduceMul, Int.reduceToNat, natAbs10, Nat.reduceLT, Nat.reducePow, or_true, true_or, if_true, if_false, Bool.false_eq_true, ite_true, ite_false, reduceCtorEq])
seal L2.PSs L2.PS L2.PE L2.PT L2.PW L2.PA L2.PI L2.PG L2.PGs L2.PPs L2.PTs
abbrev sBent : Stmt := top 46
theorem dd2 {a p : T} (h1 : dOk.isD a) (h2 : PG p) : DD (.tup [a, p]) := ⟨⟨h1, h2.1, h2.2.1⟩, fun a' p' r us e e2 => by cases e; exact h2.2.2 us e2⟩
theorem dd3 {a p x : T} (h1 : dOk.isD a) (h2 : PG p) (h3 : XG x) : DD (.tup [a, p, x]) := ⟨⟨h1, h2.1, h2.2.1, h3.1, h3.2.1, h3.2.2⟩, fun a' p' r us e e2 => by cases e; exact h2.2.2 us e2⟩
theorem dd4 {a p x y : T} {r : List T} (h2 : PG p) : DD (.tup (a :: p :: x :: y :: r)) := ⟨True.intro, fun a' p' r us e e2 => by cases e; exact h2.2.2 us e2⟩
theorem dd1 {a : T} : DD (.tup [a]) := ⟨True.intro, fun a' p' r us e => by cases e⟩
theorem dd0 : DD (.tup []) := ⟨True.intro, fun a' p' r us e => by cases e⟩
theorem ddn {t : T} (h : ∀ us, t ≠ .tup us) : DD t := by
  cases t with
  | tup us => exact absurd rfl (h us)
  | _ => exact ⟨True.intro, fun a' p' r us e => by cases e⟩
/-- a deed but for its word -/
theorem dd_rest {a p : T} {r : List T} (h1 : dOk.isD a) (h2 : PG p) (h3 : r = [] ∨ ∃ x, r = [x] ∧ XG x) : DD (.tup (a :: p :: r)) := by
  rcases h3 with rfl | ⟨x, rfl, hx⟩
  · exact dd2 h1 h2
  · exact dd3 h1 h2 hx
theorem steps_eq {H : Hp} : ∀ {xs : List V} {us : List T}, Reps H xs us → (∀ u ∈ us, stepOk u = true) → xs = us.map scv
  | xs, [], h, _ => h
  | _, u :: us, ⟨v, r, e, h1, h2⟩, hok => by
    rw [e, steps_eq h2 fun v hv => hok v (List.mem_cons_of_mem _ hv), (step_sc (hok u List.mem_cons_self)).of_rep h1]; rfl
theorem steps_gd : ∀ {us : List T}, (∀ u ∈ us, stepOk u = true) → T.gds us ∧ T.szs us = us.length
  | [], _ => ⟨True.intro, rfl⟩
  | u :: us, h => by
    obtain ⟨i1, i2⟩ := steps_gd fun v hv => h v (List.mem_cons_of_mem _ hv)
    obtain ⟨j1, j2, _⟩ := step_gd (h u List.mem_cons_self)
    exact ⟨⟨j1, i1⟩, by show T.sz u + T.szs us = us.length + 1; omega⟩
theorem steps_pg {us : List T} (h : ∀ u ∈ us, stepOk u = true) (hl : us.length ≤ 8) : PG (.lst us) := by
  obtain ⟨a, b⟩ := steps_gd h
  exact ⟨a, (show T.szs us + 1 ≤ 1000 by omega), fun vs e => by cases e; omega⟩
theorem cut1 (a : V) (xs : List V) : cutV (a :: xs) (some 1) none = xs := cut_from (a :: xs) 1
theorem cut2 (a b : V) (xs : List V) : cutV (a :: b :: xs) (some 2) none = xs := cut_from (a :: b :: xs) 2
theorem cut0 (a : V) (xs : List V) : cutV (a :: xs) none (some 1) = [a] := cut_to (a :: xs) 1
theorem cat1 {K : PySem.W.Frag} {H : Hp} {p0 : Addr} {va vb x : V} {rest : List V} {Q : VK} (hp0 : H p0 = some (.tup (va :: vb :: rest))) (hrn : rest.length ≤ 1) (q : ∀ p H', Same H H' → H' p = some (.tup (x :: vb :: rest)) → Q (.ref p) H') :
    ∀ p, H p = none → rSlTw K (.ref p0) (some 1) none (upd H p (.tup [x])) fun y H2 => rCatT K (.ref p) y H2 Q := by
  intro p hp
  have s1 := same_new hp (.tup [x])
  refine ⟨p0, _, rfl, SqT.of (s1 _ _ hp0), .inr ⟨fun h => ?_, fun p2 hp2 => ?_⟩⟩
  · have h1 := h.1
    rw [show (some (1 : Int)) = some ((1 : Nat) : Int) from rfl, HT.sIx_nat] at h1
    simp only [List.length_cons] at h1
    omega
  · rw [cut1]
    have s2 := same_new hp2 (.tup (vb :: rest))
    refine ⟨p, p2, [x], vb :: rest, rfl, rfl, SqT.of (s2 _ _ upd_same), SqT.of upd_same, (List.cons_ne_nil _ _), by rw [sizeLine_eq]; simp only [List.length_cons, List.length_nil]; omega, fun h => (nomatch h), fun _ p3 hp3 => ?_⟩
    exact q p3 _ (s1.trans (s2.trans (same_new hp3 _))) upd_same
theorem catT2 {K : PySem.W.Frag} {H : Hp} {p0 : Addr} {va vb x y : V} {rest : List V} {Q : VK} (hp0 : H p0 = some (.tup (va :: vb :: rest))) (hrn : rest.length ≤ 1) (q : ∀ p H', Same H H' → H' p = some (.tup (x :: y :: rest)) → Q (.ref p) H') :
    ∀ p, H p = none → rSlTw K (.ref p0) (some 2) none (upd H p (.tup [x, y])) fun y H2 => rCatT K (.ref p) y H2 Q := by
  intro p hp
  have s1 := same_new hp (.tup [x, y])
  refine ⟨p0, _, rfl, SqT.of (s1 _ _ hp0), .inr ⟨fun h => ?_, fun p2 hp2 => ?_⟩⟩
  · have h1 := h.1
    rw [show (some (2 : Int)) = some ((2 : Nat) : Int) from rfl, HT.sIx_nat] at h1
    simp only [List.length_cons] at h1
    omega
  · rw [cut2]
    have s2 := same_new hp2 (.tup rest)
    refine ⟨p, p2, [x, y], rest, rfl, rfl, SqT.of (s2 _ _ upd_same), SqT.of upd_same, (List.cons_ne_nil _ _), by rw [sizeLine_eq]; simp only [List.length_cons, List.length_nil]; omega, fun h => ?_, fun _ p3 hp3 => ?_⟩
    · subst h
      exact q p _ (s1.trans s2) (s2 _ _ upd_same)
    · exact q p3 _ (s1.trans (s2.trans (same_new hp3 _))) upd_same
section
variable {P : Program} {w : World} {K : PySem.W.Frag} {mg : Str → Option Value} {base : Heap} {f : Addr} {fd : FuncData}
def spBent : Sp := fun vs H Q _ => ∃ (v : V) (t : T) (m : Int), vs = [v, .int m] ∧ Rep H v t ∧ Pl t ∧ 0 ≤ m ∧ m < 2000000 ∧ ∀ v' t' H', Same H H' → Rep H' v' t' → DD t' → Q v' H'
theorem scBent : FnScope ["_law_deed", "_law_more", "_law_way", "_law_rest", "_law_words"] ["_law_deed", "_law_more"] (defScope sBent) := ⟨rfl, rfl, rfl, by decide +kernel, rfl, by decide +kernel, by decide +kernel⟩
theorem ok_bent (F : Fun K "_law_bent" "_law_bent" sBent f fd) (B : Bl mg) (G_law_bad_path : Dn P w K mg base 1 "_law_bad_path" ["_law_path_here", "_law_more"] spBadP) (G_law_bad_thing : Dn P w K mg base 1 "_law_bad_thing" ["_law_more"] spBadT) : FnOk P w K mg base CX0 2 f fd ["_law_deed", "_law_more"] spBent := by
  refine F.ok scBent (fun vs H Q E h => ?_) (fun cdv A outer s H vs Q E hr h => ?_)
  · obtain ⟨v, t, m, rfl, _⟩ := h
    rfl
  obtain ⟨v, t, m, rfl, hv, hpl, h0, h1, q⟩ := h
  have nd := scBent.nd
  refine ⟨_, (pss_cons (ps_set (i := 2) nd rfl (Or.inl rfl) (pe_op op_mod (pv 1) pe_int))
    (pss_cons (ps_set (i := 3) nd rfl (Or.inl rfl) (pe_op op_fdiv (pv 1) pe_int))
    (pss_cons (ps_if (pt_cmpR op_eq (pv 2) pe_int (nomark _)) (pss_cons (ps_set (i := 4) nd rfl (Or.inl rfl) (pe_lst (pa_cons pe_str (pa_cons pe_str (pa_cons pe_str (pa_cons pe_str (pa_cons pe_str (pa_cons pe_str (pa_cons pe_str (pa_cons pe_str (pa_cons pe_str (pa_cons pe_str pa_nil))))))))))))
    (pss_one (ps_ret (pe_op op_catT (pe_tup (pa_cons (pe_ix ix_list (pv 4) (pe_op op_mod (pv 3) pe_int) (fun _ _ => rfl)) pa_nil)) (pe_slice sl_tupw (pv 0) (po_some pe_int) po_none))))) pss_nil)
    (pss_cons (ps_if (pt_cmpR op_eq (pv 2) pe_int (nomark _)) (pss_one (ps_ret (pe_ix ix_list (pe_lst (pa_cons (pe_callTy call_list_of rfl B.list bt_list (pa_cons (pv 0) pa_nil)) (pa_cons (pe_slice sl_tupw (pv 0) po_none (po_some pe_int)) (pa_cons (pe_op op_catT (pv 0) (pe_tup (pa_cons pe_int pa_nil))) (pa_cons (pe_tup pa_nil) (pa_cons pe_non (pa_cons pe_int (pa_cons pe_str (pa_cons (pe_op op_catT (pv 0) (pe_tup (pa_cons (pe_lst pa_nil) pa_nil))) pa_nil))))))))) (pe_op op_mod (pv 3) pe_int) (fun _ _ => rfl)))) pss_nil)
    (pss_cons (ps_if (pt_cmpR op_lt (pv 2) pe_int (nomark _)) (pss_one (ps_ret (pe_op op_catT (pe_tup (pa_cons (pe_ix ix_tup (pv 0) pe_int (fun _ _ => rfl)) (pa_cons (pe_cd G_law_bad_path hr (by omega) rfl (pa_cons (pe_ix ix_tup (pv 0) pe_int (fun _ _ => rfl)) (pa_cons (pv 3) pa_nil))) pa_nil))) (pe_slice sl_tupw (pv 0) (po_some pe_int) po_none)))) pss_nil)
    (pss_cons (ps_if (pt_cmpR op_lt (pv 2) pe_int (nomark _)) (pss_one (ps_ret (pe_tup (pa_cons (pe_ix ix_list (pe_lst (pa_cons pe_str (pa_cons pe_str pa_nil))) (pe_op op_mod (pv 3) pe_int) (fun _ _ => rfl)) (pa_cons (pe_ix ix_tup (pv 0) pe_int (fun _ _ => rfl)) (pa_cons (pe_cd G_law_bad_thing hr (by omega) rfl (pa_cons (pe_op op_fdiv (pv 3) pe_int) pa_nil)) pa_nil)))))) pss_nil)
    (pss_one (ps_ret (pe_op op_catT (pe_tup (pa_cons (pe_ix ix_list (pe_lst (pa_cons pe_non (pa_cons pe_bl (pa_cons pe_int (pa_cons (pe_lst (pa_cons pe_str pa_nil)) pa_nil))))) (pe_op op_mod (pv 3) pe_int) (fun _ _ => rfl)) pa_nil)) (pe_slice sl_tupw (pv 0) (po_some pe_int) po_none)))))))))), ?_⟩
  rw [show start ["_law_deed", "_law_more", "_law_way", "_law_rest", "_law_words"] [v, .int m] = [some v, some (.int m), none, none, none] from rfl]
  walk_at "rd3"
  obtain ⟨a, us, r, rfl, hok, hl, har⟩ := hpl
  obtain ⟨p0, xs, rfl, hp0, va, x1, rfl, ra, vp, rest, rfl, ⟨pa, ys, rfl, hpa, hys⟩, hrest⟩ := hv
  have hys' := steps_eq hys hok
  subst hys'
  have hpg := steps_pg hok hl
  have hr3 : r = [] ∨ ∃ x, r = [x] ∧ XG x := by
    rcases har with ⟨_, e⟩ | ⟨_, h⟩
    · exact .inl e
    · exact .inr h
  have haD : dOk.isD a := by
    rcases har with ⟨rfl, _⟩ | ⟨rfl | rfl, _⟩ <;> exact True.intro
  have hrl := hrest.length
  have hrn : rest.length ≤ 1 := by
    rcases hr3 with rfl | ⟨x, rfl, _⟩
    · rw [hrl]; decide
    · rw [hrl]; exact Nat.le_refl _
  have rp : ∀ {Hx : Hp}, Same H Hx → Rep Hx (.ref pa) (.lst us) := fun g => ⟨pa, _, rfl, g _ _ hpa, Reps.same g _ _ hys⟩
  have fin : ∀ {x : V} {t : T} {p : Addr} {Hx : Hp}, Same H Hx → Rep Hx x t → dOk.isD t → Hx p = some (.tup (x :: .ref pa :: rest)) → Q (.ref p) Hx := fun {x t p Hx} g hx hd hp => by
    exact q _ (.tup (t :: .lst us :: r)) _ g ⟨p, _, rfl, hp, _, _, rfl, hx, _, _, rfl, rp g, Reps.same g _ _ hrest⟩ (dd_rest hd hpg hr3)
  by_cases c0 : m % 9 = 0
  · refine iP c0 fun p1 hp1 => ?_
    have s1 := same_new hp1 (.lst [V.str (Str.ofString "Put"), V.str (Str.ofString "puts"), V.str (Str.ofString "pu"), V.str (Str.ofString ""), V.str (Str.ofString "take "), V.str (Str.ofString "taken"), V.str (Str.ofString "inser"), V.str (Str.ofString "put"), V.str (Str.ofString "take"), V.str (Str.ofString "insert")])
    have e1 := upd_same (H := H) (a := p1) (o := .lst [V.str (Str.ofString "Put"), V.str (Str.ofString "puts"), V.str (Str.ofString "pu"), V.str (Str.ofString ""), V.str (Str.ofString "take "), V.str (Str.ofString "taken"), V.str (Str.ofString "inser"), V.str (Str.ofString "put"), V.str (Str.ofString "take"), V.str (Str.ofString "insert")])
    generalize upd H p1 _ = H1 at s1 e1 ⊢
    obtain ⟨wd, hw, hm⟩ := atI_of (xs := [V.str (Str.ofString "Put"), V.str (Str.ofString "puts"), V.str (Str.ofString "pu"), V.str (Str.ofString ""), V.str (Str.ofString "take "), V.str (Str.ofString "taken"), V.str (Str.ofString "inser"), V.str (Str.ofString "put"), V.str (Str.ofString "take"), V.str (Str.ofString "insert")]) (i := m / 9 % 10) (by omega) (by simp only [List.length_cons, List.length_nil]; omega)
    refine rIxL_i (SqL.of e1) hw (cat1 (s1 _ _ hp0) hrn fun p H' g hp => ?_)
    have hz : ∃ z, wd = .str z := by
      simp only [List.mem_cons, List.not_mem_nil, or_false] at hm
      rcases hm with rfl | rfl | rfl | rfl | rfl | rfl | rfl | rfl | rfl | rfl <;> exact ⟨_, rfl⟩
    obtain ⟨z, rfl⟩ := hz
    exact fin (s1.trans g) (rep_word z) True.intro hp
  refine iN c0 ?_
  by_cases c1 : m % 9 = 1
  · refine iP c1 ⟨p0, rfl, _, .inr (SqT.of hp0), fun l1 hl1 => ?_⟩
    have e1 := upd_same (H := H) (a := l1) (o := .lst (va :: V.ref pa :: rest))
    have s1 := same_new hl1 (.lst (va :: V.ref pa :: rest))
    generalize upd H l1 _ = H1 at s1 e1 ⊢
    refine ⟨p0, _, rfl, SqT.of (s1 _ _ hp0), .inr ⟨fun h => ?_, fun p2 hp2 => ?_⟩⟩
    · have h1 := h.2
      rw [show (some (1 : Int)) = some ((1 : Nat) : Int) from rfl, HT.sIx_nat] at h1
      simp only [List.length_cons] at h1
      omega
    rw [cut0]
    have e2 := upd_same (H := H1) (a := p2) (o := .tup [va])
    have s2 := same_new hp2 (.tup [va])
    generalize upd H1 p2 _ = H2 at s2 e2 ⊢
    intro p3 hp3
    have e3 := upd_same (H := H2) (a := p3) (o := .tup [V.int 0])
    have s3 := same_new hp3 (.tup [V.int 0])
    generalize upd H2 p3 _ = H3 at s3 e3 ⊢
    have g3 := s1.trans (s2.trans s3)
    refine ⟨p0, p3, _, _, rfl, rfl, SqT.of (g3 _ _ hp0), SqT.of e3, (List.cons_ne_nil _ _), by rw [sizeLine_eq]; simp only [List.length_cons, List.length_nil]; omega, fun h => (nomatch h), fun _ p4 hp4 => ?_⟩
    have e4 := upd_same (H := H3) (a := p4) (o := .tup (va :: V.ref pa :: rest ++ [V.int 0]))
    have s4 := same_new hp4 (.tup (va :: V.ref pa :: rest ++ [V.int 0]))
    generalize upd H3 p4 _ = H4 at s4 e4 ⊢
    intro p5 hp5 p6 hp6 p7 hp7
    have e5 := upd_same (H := H4) (a := p5) (o := .tup [])
    have s5 := same_new hp5 (.tup [])
    generalize upd H4 p5 _ = H5 at s5 e5 hp6 hp7 ⊢
    have e6 := upd_same (H := H5) (a := p6) (o := .lst [])
    have s6 := same_new hp6 (.lst [])
    generalize upd H5 p6 _ = H6 at s6 e6 hp7 ⊢
    have e7 := upd_same (H := H6) (a := p7) (o := .tup [V.ref p6])
    have s7 := same_new hp7 (.tup [V.ref p6])
    generalize upd H6 p7 _ = H7 at s7 e7 ⊢
    have g7 := g3.trans (s4.trans (s5.trans (s6.trans s7)))
    refine ⟨p0, p7, _, _, rfl, rfl, SqT.of (g7 _ _ hp0), SqT.of e7, (List.cons_ne_nil _ _), by rw [sizeLine_eq]; simp only [List.length_cons, List.length_nil]; omega, fun h => (nomatch h), fun _ p8 hp8 => ?_⟩
    have e8 := upd_same (H := H7) (a := p8) (o := .tup (va :: V.ref pa :: rest ++ [V.ref p6]))
    have s8 := same_new hp8 (.tup (va :: V.ref pa :: rest ++ [V.ref p6]))
    generalize upd H7 p8 _ = H8 at s8 e8 ⊢
    intro p9 hp9
    have e9 := upd_same (H := H8) (a := p9) (o := .lst [V.ref l1, V.ref p2, V.ref p4, V.ref p5, V.non, V.int 5, V.str (Str.ofString "take"), V.ref p8])
    have s9 := same_new hp9 (.lst [V.ref l1, V.ref p2, V.ref p4, V.ref p5, V.non, V.int 5, V.str (Str.ofString "take"), V.ref p8])
    generalize upd H8 p9 _ = H9 at s9 e9 ⊢
    have g89 := s8.trans s9
    have g69 := s7.trans g89
    have g59 := s6.trans g69
    have g49 := s5.trans g59
    have g39 := s4.trans g49
    have g29 := s3.trans g39
    have g19 := s2.trans g29
    have g09 := s1.trans g19
    obtain ⟨wd, hw, hm⟩ := atI_of (xs := [V.ref l1, V.ref p2, V.ref p4, V.ref p5, V.non, V.int 5, V.str (Str.ofString "take"), V.ref p8]) (i := m / 9 % 8) (by omega) (by simp only [List.length_cons, List.length_nil]; omega)
    refine rIxL_i (SqL.of e9) hw ?_
    simp only [List.mem_cons, List.not_mem_nil, or_false] at hm
    have more : ∀ (v : V) (x : T) (p : Addr), Rep H9 v x → XG x → H9 p = some (.tup (va :: V.ref pa :: rest ++ [v])) → Q (.ref p) H9 := fun v x p hx hg hp => by
      rcases hr3 with rfl | ⟨y, rfl, hy⟩
      · have e : rest = [] := hrest
        subst e
        exact q _ (.tup [a, .lst us, x]) _ g09 ⟨p, _, rfl, hp, _, _, rfl, Rep.same g09 _ _ ra, _, _, rfl, rp g09, _, _, rfl, hx, rfl⟩ (dd3 haD hpg hg)
      · obtain ⟨vy, r0, rfl, ry, e⟩ := hrest
        have e : r0 = [] := e
        subst e
        exact q _ (.tup [a, .lst us, y, x]) _ g09 ⟨p, _, rfl, hp, _, _, rfl, Rep.same g09 _ _ ra, _, _, rfl, rp g09, _, _, rfl, Rep.same g09 _ _ ry, _, _, rfl, hx, rfl⟩ (dd4 hpg)
    rcases hm with rfl | rfl | rfl | rfl | rfl | rfl | rfl | rfl
    · exact q _ (.lst (a :: .lst us :: r)) _ g09 ⟨l1, _, rfl, g19 _ _ e1, _, _, rfl, Rep.same g09 _ _ ra, _, _, rfl, rp g09, Reps.same g09 _ _ hrest⟩ (ddn fun _ h => nomatch h)
    · exact q _ (.tup [a]) _ g09 ⟨p2, _, rfl, g29 _ _ e2, _, _, rfl, Rep.same g09 _ _ ra, rfl⟩ dd1
    · exact more _ (.int 0) p4 rfl ⟨True.intro, (show 1 ≤ 1000 by decide), (show 0 < 20 by decide)⟩ (g49 _ _ e4)
    · exact q _ (.tup []) _ g09 ⟨p5, _, rfl, g59 _ _ e5, rfl⟩ dd0
    · exact q _ .non _ g09 rfl (ddn fun _ h => nomatch h)
    · exact q _ (.int 5) _ g09 rfl (ddn fun _ h => nomatch h)
    · exact q _ _ _ g09 (rep_word _) (ddn fun _ h => nomatch h)
    · exact more _ (.lst []) p8 ⟨p6, [], rfl, g69 _ _ e6, rfl⟩ ⟨True.intro, (show 1 ≤ 1000 by decide), (show 1 < 20 by decide)⟩ (s9 _ _ e8)
  refine iN c1 ?_
  by_cases c5 : m % 9 < 5
  · refine iP c5 (rIxT_i (SqT.of hp0) (atI_nat (j := 0) rfl) (rIxT_i (SqT.of hp0) (atI_nat (j := 1) rfl) ⟨pa, us, m / 9, rfl, hpa, hok, hl, by omega, by omega, fun v t H1 g1 hv hg => ?_⟩))
    refine catT2 (g1 _ _ hp0) hrn fun p H' g hp => ?_
    have G := g1.trans g
    exact q _ (.tup (a :: t :: r)) _ G ⟨p, _, rfl, hp, _, _, rfl, Rep.same G _ _ ra, _, _, rfl, Rep.same g _ _ hv, Reps.same G _ _ hrest⟩ (dd_rest haD hg hr3)
  refine iN c5 ?_
  by_cases c8 : m % 9 < 8
  · refine iP c8 fun p1 hp1 => ?_
    have e1 := upd_same (H := H) (a := p1) (o := .lst [V.str (Str.ofString "put"), V.str (Str.ofString "insert")])
    have s1 := same_new hp1 (.lst [V.str (Str.ofString "put"), V.str (Str.ofString "insert")])
    generalize upd H p1 _ = H1 at s1 e1 ⊢
    obtain ⟨wd, hw, hm⟩ := atI_of (xs := [V.str (Str.ofString "put"), V.str (Str.ofString "insert")]) (i := m / 9 % 2) (by omega) (by simp only [List.length_cons, List.length_nil]; omega)
    have hz : ∃ z, wd = .str z := by
      simp only [List.mem_cons, List.not_mem_nil, or_false] at hm
      rcases hm with rfl | rfl <;> exact ⟨_, rfl⟩
    obtain ⟨z, rfl⟩ := hz
    refine rIxL_i (SqL.of e1) hw (rIxT_i (SqT.of (s1 _ _ hp0)) (atI_nat (j := 1) rfl) ⟨m / 9 / 2, rfl, by omega, by omega, fun v t H2 g2 hv hg p3 hp3 => ?_⟩)
    have s3 := same_new hp3 (.tup [V.str z, V.ref pa, v])
    have G := s1.trans (g2.trans s3)
    exact q _ (.tup [.str (ts z), .lst us, t]) _ G ⟨p3, _, rfl, upd_same, _, _, rfl, rep_word z, _, _, rfl, rp G, _, _, rfl, Rep.same s3 _ _ hv, rfl⟩ (dd3 True.intro hpg hg)
  refine iN c8 fun p1 hp1 p2 hp2 => ?_
  have e1 := upd_same (H := H) (a := p1) (o := .lst [V.str (Str.ofString "put")])
  have s1 := same_new hp1 (.lst [V.str (Str.ofString "put")])
  generalize upd H p1 _ = H1 at s1 e1 hp2 ⊢
  have e2 := upd_same (H := H1) (a := p2) (o := .lst [V.non, V.bl true, V.int 0, V.ref p1])
  have s2 := same_new hp2 (.lst [V.non, V.bl true, V.int 0, V.ref p1])
  generalize upd H1 p2 _ = H2 at s2 e2 ⊢
  obtain ⟨wd, hw, hm⟩ := atI_of (xs := [V.non, V.bl true, V.int 0, V.ref p1]) (i := m / 9 % 4) (by omega) (by simp only [List.length_cons, List.length_nil]; omega)
  refine rIxL_i (SqL.of e2) hw (cat1 ((s1.trans s2) _ _ hp0) hrn fun p H' g hp => ?_)
  simp only [List.mem_cons, List.not_mem_nil, or_false] at hm
  have G := s1.trans (s2.trans g)
  rcases hm with rfl | rfl | rfl | rfl
  · exact fin (t := .non) G rfl True.intro hp
  · exact fin (t := .bl true) G rfl True.intro hp
  · exact fin (t := .int 0) G rfl True.intro hp
  · exact fin (t := .lst [wPut]) G ⟨p1, _, rfl, (s2.trans g) _ _ e1, _, _, rfl, rep_word _, rfl⟩ True.intro hp
end
end K41
namespace K41
open PySem L2
local macro_rules | `(tactic| walk_at "rd") => `(tactic| simp only [cxOf_K, nox_K, compCx_K, tSeq, tNext, tAsg, gName, tRet, tRetN, tIfS, tDrop, tOp, tUn, tVar, tC, tCall, tCons, tNil, tTest, tB, tAnd, tOr, tNot, tAndV, tOrV, tNotV, tIf, tCB, tBM, tComp, tTrue, tPart, tNoPart, tSl, tChain, tIsN, tNotN, tLst, tTup, tFor_eq, sDPut, tDNewK, tNever, rI0, rI, rU, rEq, rNe, rMulS, rInC, iRng1, iStr, CDiv, CMul, CPow, scal, List.append_nil, List.getElem?_cons_zero, List.getElem?_cons_succ, List.set_cons_zero, List.set_cons_succ, List.map_cons, List.map_nil, List.length_cons, List.length_nil, sizeLine_eq, Nat.reduceAdd, Nat.reduceLeDiff, Option.join_some, Option.join_none, Option.some.injEq, V.int.injEq, V.str.injEq, V.bl.injEq, V.ref.injEq, V.ty.injEq, List.cons.injEq, and_true, true_and, and_self, exists_eq_left', exists_eq_left, exists_and_left, exists_and_right, decide_eq_true_eq, Bool.not_eq_eq_eq_not, Bool.not_true, Bool.not_false, decide_eq_false_iff_not, Int.reduceLT, Int.reduceLE, Int.reduceNeg, Int.reducePow, Int.reduceAdd, Int.reduceSub, Int.reduceMul, Int.reduceToNat, natAbs10, Nat.reduceLT, Nat.reducePow, or_true, true_or, if_true, if_false, Bool.false_eq_true, ite_true, ite_false, reduceCtorEq])
local macro_rules | `(tactic| walk_at "rd3") => `(tactic| simp only [gTup, gCons, gNil, iZip, tIsT, tDisp, tPairs, tBM0, iList, iDict, tThaw, tMaxD, rMaxD, tDGet, rVals, tComp, cxOf_K, nox_K, compCx_K, tSeq, tNext, tAsg, gName, tRet, tRetN, tIfS, tDrop, tOp, tUn, tVar, tC, tCall, tCons, tNil, tTest, tB, tAnd, tOr, tNot, tAndV, tOrV, tNotV, tIf, tCB, tBM, tComp, tTrue, tPart, tNoPart, tSl, tChain, tIsN, tNotN, tLst, tTup, tFor_eq, sDPut, tDNewK, tNever, rI0, rI, rU, rEq, rNe, rMulS, rInC, iRng1, iStr, CDiv, CMul, CPow, scal, List.append_nil, List.getElem?_cons_zero, List.getElem?_cons_succ, List.set_cons_zero, List.set_cons_succ, List.map_cons, List.map_nil, List.length_cons, List.length_nil, sizeLine_eq, Nat.reduceAdd, Nat.reduceLeDiff, Option.join_some, Option.join_none, Option.some.injEq, V.int.injEq, V.str.injEq, V.bl.injEq, V.ref.injEq, V.ty.injEq, List.cons.injEq, and_true, true_and, and_self, exists_eq_left', exists_eq_left, exists_and_left, exists_and_right, decide_eq_true_eq, Bool.not_eq_eq_eq_not, Bool.not_true, Bool.not_false, decide_eq_false_iff_not, Int.reduceLT, Int.reduceLE, Int.reduceNeg, Int.reducePow, Int.reduceAdd, Int.reduceSub, Int.reduceMul, Int.reduceToNat, natAbs10, Nat.reduceLT, Nat.reducePow, or_true, true_or, if_true, if_false, Bool.false_eq_true, ite_true, ite_false, reduceCtorEq])
seal L2.PSs L2.PS L2.PE L2.PT L2.PW L2.PA L2.PI L2.PG L2.PGs L2.PPs L2.PTs
abbrev sLaw : Stmt := top 47
section
variable {P : Program} {w : World} {K : PySem.W.Frag} {mg : Str → Option Value} {base : Heap} {f : Addr} {fd : FuncData}
theorem small_away {H : Hp} {d : Addr} {o : HO} {t : T} {xs : List V} {us : List T} (hd : Rep H (.ref d) t) (hs : T.szs us < T.sz t) (h : Reps H xs us) : Reps (upd H d o) xs us :=
  Reps.away _ _ h fun z => by
    obtain ⟨t', h1, h2⟩ := Occs.sub _ _ h z
    have e := Rep.one _ _ _ hd h1
    subst e
    omega
theorem reps_set {H : Hp} {v : V} {t : T} (hv : Rep H v t) : ∀ {xs : List V} {us : List T} {j : Nat}, Reps H xs us → Reps H (xs.set j v) (us.set j t)
  | _, [], j, e => by
    have e' : _ = [] := e
    subst e'
    exact rfl
  | _, u :: us, 0, ⟨x, r, h1, h2, h3⟩ => by
    subst h1
    exact ⟨v, r, rfl, hv, h3⟩
  | _, u :: us, j + 1, ⟨x, r, h1, h2, h3⟩ => by
    subst h1
    exact ⟨x, r.set j v, rfl, h2, reps_set hv h3⟩
theorem reps_tk {H : Hp} : ∀ {xs : List V} {us : List T} {j : Nat}, Reps H xs us → Reps H (xs.take j) (us.take j)
  | _, [], j, e => by
    have e' : _ = [] := e
    subst e'
    simp only [List.take_nil]; exact rfl
  | _, u :: us, 0, _ => rfl
  | _, u :: us, j + 1, ⟨x, r, h1, h2, h3⟩ => by
    subst h1
    exact ⟨x, r.take j, rfl, h2, reps_tk h3⟩
theorem reps_many {H : Hp} {xs : List V} {us : List T} (h : Reps H xs us) : ∀ n : Nat, Reps H (List.replicate n xs).flatten (List.replicate n us).flatten
  | 0 => rfl
  | n + 1 => by
    rw [List.replicate_succ, List.replicate_succ, List.flatten_cons, List.flatten_cons]
    exact Reps.append (reps_many h n) h
theorem pl_dd {t : T} (h : Pl t) : DD t := by
  obtain ⟨a, us, r, rfl, hok, hl, har⟩ := h
  refine dd_rest ?_ (steps_pg hok hl) ?_
  · rcases har with ⟨rfl, _⟩ | ⟨rfl | rfl, _⟩ <;> exact True.intro
  · rcases har with ⟨_, e⟩ | ⟨_, h⟩
    · exact .inl e
    · exact .inr h
/-- behind the drawing, and behind each bending: a list of deeds -/
def MidP (H0 : Hp) (a : Addr) (m : Int) (n : Nat) : St → Hp → Prop := fun σ H => ∃ o p xs ds, σ = [some (V.ref a), some (V.ref p), some (V.int m), o, none, none, none] ∧ Same H0 H ∧ H p = some (.lst xs) ∧ Reps H xs ds ∧ ds.length ≤ n ∧ ∀ d ∈ ds, DD d
def MidD (H0 : Hp) (a : Addr) (m : Int) : St → Hp → Prop := fun σ H => ∃ o p xs ds, σ = [some (V.ref a), some (V.ref p), some (V.int m), o, some (V.bl (paperOk (.lst ds))), none, none] ∧ Same H0 H ∧ H p = some (.lst xs) ∧ Reps H xs ds ∧ ds.length ≤ 3000 ∧ ∀ d ∈ ds, DD d
def MidT (H0 : Hp) (a : Addr) (m : Int) : St → Hp → Prop := fun σ H => ∃ o o1 v t, σ = [some (V.ref a), o1, some (V.int m), o, some (V.bl (paperOk t)), some v, none] ∧ Same H0 H ∧ Rep H v t ∧ pDD t
def spLaw (K : PySem.W.Frag) : Sp := fun vs H Q _ => ∃ (a : Addr) (ns : List Int), vs = [.ref a] ∧ SqL K H a (ns.map V.int) ∧ ns.length ≤ 63 ∧ ∀ H', Q (.bl true) H'
theorem scLaw : FnScope ["_law_script", "_law_paper", "_law_more", "_law_at", "_law_due", "_law_thing", "_law_result"] ["_law_script"] (defScope sLaw) := ⟨rfl, rfl, rfl, by decide +kernel, rfl, by decide +kernel, by decide +kernel⟩
theorem ok_law (F : Fun K "law" "law" sLaw f fd) (B : Bl mg) (G_law_cell : Dn P w K mg base 1 "_law_cell" ["_law_script", "_law_k"] (spCell K)) (G_law_plain : Dn P w K mg base 6 "_law_plain" ["_law_script", "_law_k"] (spPlain K)) (G_law_bent : Dn P w K mg base 2 "_law_bent" ["_law_deed", "_law_more"] spBent)
    (G_law_deed_good : Dn P w K mg base 66 "_law_deed_good" ["_law_deed"] spDeed) (Gis_paper : Dn P w K mg base 5 "is_paper" ["thing"] spPap) : FnOk P w K mg base CX0 67 f fd ["_law_script"] (spLaw K) := by
  refine F.ok scLaw (fun vs H Q E h => ?_) (fun cdv A outer s H vs Q E hr h => ?_)
  · obtain ⟨a, ns, rfl, _⟩ := h
    rfl
  obtain ⟨a, ns, rfl, hS, h63, q⟩ := h
  have nd := scLaw.nd
  have hu0 := hr.units0
  have hu := hu_of hr
  refine ⟨_, (pss_cons (ps_comp (i := 1) nd rfl (Or.inl rfl) (own := ["_law_j"]) (F := [("_law_script", 0)]) ⟨rfl, by with_unfolding_all rfl, by with_unfolding_all rfl, by with_unfolding_all rfl, (.cons rfl rfl rfl .nil)⟩ rfl (pi_range1 rfl B.range (pa_cons (pe_op op_mod (pe_cd G_law_cell hr (by omega) rfl (pa_cons (pv 0) (pa_cons pe_int pa_nil))) pe_int) pa_nil)) (fun _ _ _ _ => pg_name (i := 0) (by show (compN ["_law_j"] [("_law_script", 0)]).Nodup; decide +kernel) rfl (Or.inl rfl)) (fun _ _ _ _ => pts_nil) (fun _ _ _ _ => (pe_cd G_law_plain hr (by omega) rfl (pa_cons (pv 1) (pa_cons (pe_op op_add pe_int (pe_op op_mul pe_int (pv 0))) pa_nil)))))
    (pss_cons (ps_set (i := 2) nd rfl (Or.inl rfl) (pe_cd G_law_cell hr (by omega) rfl (pa_cons (pv 0) (pa_cons pe_int pa_nil))))
    (pss_cons (ps_mid (ps_if (PW.pt (pw_and (pt_cmpR op_gt (pe_op op_mod (pv 2) pe_int) pe_int (nomark _)) (pw_and1 (pt_cmpR (op_ne_0 hu0) (pv 1) (pe_lst pa_nil) (nomark _))))) (pss_cons (ps_set (i := 3) nd rfl (Or.inl rfl) (pe_op op_mod (pe_op op_fdiv (pv 2) pe_int) (pe_callB call_len_l rfl B.len bt_len (pa_cons (pv 1) pa_nil))))
    (pss_one (ps_asg (pe_hide (pe_cd G_law_bent hr (by omega) rfl (pa_cons (pe_ix ix_list (pv 1) (pv 3) (fun _ _ => rfl)) (pa_cons (pe_cd G_law_cell hr (by omega) rfl (pa_cons (pv 0) (pa_cons pe_int pa_nil))) pa_nil)))) (pg_sub (pv 1) (pv 3) set_list)))) pss_nil))
    (pss_cons (ps_mid (ps_if (pt_cmpR op_eq (pe_op op_mod (pe_op op_fdiv (pv 2) pe_int) pe_int) pe_int (nomark _)) (pss_cons (ps_set (i := 1) nd rfl (Or.inl rfl) (pe_op op_rep (pe_op op_cat (pv 1) (pe_lst (pa_cons (pe_tup (pa_cons pe_str (pa_cons (pe_lst (pa_cons pe_str pa_nil)) pa_nil))) pa_nil))) pe_int))
    (pss_one (ps_set (i := 1) nd rfl (Or.inl rfl) (pe_slice sl_list (pv 1) po_none (po_some (pe_op op_add pe_int (pe_op op_mod (pe_op op_fdiv (pv 2) pe_int) pe_int))))))) pss_nil))
    (pss_cons (ps_mid (ps_set (i := 4) nd rfl (Or.inl rfl) (pe_and (pe_cmpR op_lt (pe_callB call_len_l rfl B.len bt_len (pa_cons (pv 1) pa_nil)) pe_int (nomark _)) (pe_one (pe_callB (call_all rfl) rfl B.all bt_all (pa_cons (pe_comp (own := ["_law_deed"]) (F := []) ⟨rfl, by with_unfolding_all rfl, by with_unfolding_all rfl, by with_unfolding_all rfl, .nil⟩ rfl (pi_list (pv 1)) (fun _ _ _ _ => pg_name (i := 0) (by show (compN ["_law_deed"] []).Nodup; decide +kernel) rfl (Or.inl rfl)) (fun _ _ _ _ => pts_nil) (fun _ _ _ _ => (pe_cd G_law_deed_good hr (by omega) rfl (pa_cons (pv 0) pa_nil)))) pa_nil))))))
    (pss_cons (ps_set (i := 5) nd rfl (Or.inl rfl) (pv 1))
    (pss_cons (ps_mid (ps_if (pt_cmpR op_eq (pe_op op_mod (pe_op op_fdiv (pv 2) pe_int) pe_int) pe_int (nomark _)) (pss_cons (ps_set (i := 5) nd rfl (Or.inl rfl) (pe_ix ix_list (pe_lst (pa_cons (pe_callTy call_tuple_of rfl B.tuple bt_tuple (pa_cons (pv 1) pa_nil)) (pa_cons pe_non (pa_cons pe_int (pa_cons pe_str (pa_cons pe_dnewK (pa_cons (pe_tup (pa_cons (pv 1) pa_nil)) (pa_cons pe_bl pa_nil)))))))) (pe_op op_mod (pe_op op_fdiv (pv 2) pe_int) pe_int) (fun _ _ => rfl)))
    (pss_one (ps_set (i := 4) nd rfl (Or.inl rfl) pe_bl))) pss_nil))
    (pss_cons (ps_set (i := 6) nd rfl (Or.inl rfl) (pe_cd Gis_paper hr (by omega) rfl (pa_cons (pv 5) pa_nil)))
    (pss_one (ps_ret (pe_and (pe_callB (call_isi (T := "bool") (by decide)) rfl B.isinstance bt_isinstance (pa_cons (pv 6) (pa_cons (pe_bltn (v := .ty "bool") rfl B.bool bt_bool rfl) pa_nil))) (pe_one (pe_cmpR op_eq (pv 6) (pv 4) (nomark _)))))))))))))), ?_⟩
  rw [show start ["_law_script", "_law_paper", "_law_more", "_law_at", "_law_due", "_law_thing", "_law_result"] [.ref a] = [some (.ref a), none, none, none, none, none, none] from rfl]
  walk_at "rd3"
  refine spCell_i hS h63 (by decide) (by decide) fun H1 g1 => ⟨_, rfl, ?_, ?_, ?_⟩
  · have := cellF_lo ns 0; omega
  · have := cellF_lo ns 0; omega
  have c00 := cellF_lo ns 0
  refine comp_rng (fun i zs H2 => Same H H2 ∧ ∃ ds, Reps H2 zs ds ∧ ds.length = i ∧ ∀ d ∈ ds, Pl d) (by rw [sizeLine_eq]; omega) ⟨g1, [], rfl, rfl, fun _ h => nomatch h⟩ ?_ ?_
  · rintro i zs H2 hi _ ⟨g2, ds, hR, hl, hpl⟩
    walk_at "rd3"
    refine ⟨a, ns, _, rfl, g2.seq hS, h63, by omega, by omega, fun v t H3 g3 hv ht => ⟨g2.trans g3, ds ++ [t], Reps.append (show Reps H3 [v] [t] from ⟨v, [], rfl, hv, rfl⟩) (Reps.same g3 _ _ hR), by simp [hl], fun d hd => ?_⟩⟩
    rcases List.mem_append.mp hd with z | z
    · exact hpl d z
    · rw [List.mem_singleton.mp z]; exact ht
  rintro zs H2 _ ⟨g2, ds, hR, hl, hpl⟩ p hp
  have hl5 : ds.length ≤ 5 := by omega
  have hpH : H p = none := none_back g2 hp
  have s3 := same_new hp (.lst zs)
  have G2 := g2.trans s3
  have hp2 : upd H2 p (.lst zs) p = some (.lst zs) := upd_same
  have hR3 := Reps.same s3 _ _ hR
  generalize upd H2 p (.lst zs) = H3 at G2 hp2 hR3 ⊢
  refine spCell_i (G2.seq hS) h63 (by decide) (by decide) fun H4 g4 => ?_
  have c20 := cellF_lo ns 1
  have c21 := cellF_hi ns 1
  generalize cellF ns 1 = m at c20 c21 ⊢
  have G4 := G2.trans g4
  have hR4 := Reps.same g4 _ _ hR3
  have hp4 := g4 _ _ hp2
  clear hR3 hp2 s3 hR G2 g4 g2 hp
  refine ⟨MidP H a m 5, ?_, ?_⟩
  · walk_at "rd3"
    have no : MidP H a m 5 [some (V.ref a), some (V.ref p), some (V.int m), none, none, none, none] H4 := ⟨_, _, _, _, rfl, G4, hp4, hR4, hl5, fun d hd => pl_dd (hpl d hd)⟩
    by_cases c : 0 < m % 4
    · refine iP c fun p1 hp1 => ?_
      have s1 := same_new hp1 (.lst [])
      have hp5 := s1 _ _ hp4
      have hR5 := Reps.same s1 _ _ hR4
      have G5 := G4.trans s1
      have e1 := upd_same (H := H4) (a := p1) (o := .lst [])
      generalize upd H4 p1 (.lst []) = H5 at hp5 hR5 G5 e1 ⊢
      refine ⟨p, p1, zs, rfl, rfl, SqL.of hp5, SqL.of e1, _, rfl, ?_⟩
      have no5 : MidP H a m 5 [some (V.ref a), some (V.ref p), some (V.int m), none, none, none, none] H5 := ⟨_, _, _, _, rfl, G5, hp5, hR5, hl5, fun d hd => pl_dd (hpl d hd)⟩
      by_cases hn : (if true = true then !zs.isEmpty else zs.isEmpty) = true
      · have hpos : 0 < zs.length := by
          cases zs with
          | nil => exact absurd hn (by decide)
          | cons _ _ => exact Nat.succ_pos _
        refine iP hn ⟨zs, SqL.of hp5, by omega, ?_⟩
        have hxl := hR5.length
        have b0 := Int.emod_nonneg (m / 4) (show (zs.length : Int) ≠ 0 by omega)
        have b1 := Int.emod_lt_of_pos (m / 4) (show (0 : Int) < zs.length by omega)
        obtain ⟨j, hj⟩ : ∃ j : Nat, m / 4 % (zs.length : Int) = (j : Int) := ⟨_, (Int.toNat_of_nonneg b0).symm⟩
        rw [hj] at b0 b1 ⊢
        have hjl : j < zs.length := by omega
        unfold tHides tHide
        refine ⟨p, .inr ⟨zs, hp5, fun o => ?_⟩⟩
        walk_at "rd3"
        have hRh : Reps (upd H5 p (.frz o (.lst zs))) zs ds := small_away (t := .lst ds) ⟨p, zs, rfl, hp5, hR5⟩ (Nat.lt_succ_self _) hR5
        obtain ⟨t, ht, hrt⟩ := hRh.get (i := j) (v := zs[j]) (by simp [hjl])
        have hmt := List.mem_of_getElem? ht
        have Gh : Same H (upd H5 p (.frz o (.lst zs))) := G5.put hpH _
        refine rIxL_i (xs := zs) (.inl ?_) (atI_nat (j := j) (v := zs[j]) (by simp [hjl])) (spCell_i (Gh.seq hS) h63 (by decide) (by decide) fun H6 g6 => ?_)
        · exact .inr ⟨o, upd_same⟩
        refine ⟨_, t, _, rfl, Rep.same g6 _ _ hrt, hpl t hmt, cellF_lo _ _, Int.lt_trans (cellF_hi _ _) (by decide), fun v' t' H7 g7 hv' hd' => ?_⟩
        simp only [gSub]
        walk_at "rd3"
        have g67 := g6.trans g7
        have hback : L2.thaw H5 H7 p = some (.lst zs) := hide_back hp5 (by intro o v z; cases z) g67
        have hoff : Rep (hide (L2.thaw H5 H7) p) v' t' := Rep.off (g67 p _ upd_same) hv'
        have hst : Same (hide H5 p) (hide (L2.thaw H5 H7) p) := hide_thaw g67
        have hzs : Reps (hide (L2.thaw H5 H7) p) zs ds := Reps.plain (fun b w n e => by
          have hb : b ≠ p := fun z => by subst z; rw [g67 b _ upd_same] at e; cases e; exact n _ _ rfl
          rw [hide_ne hb]
          exact thaw_of e n) _ _ (Reps.same g67 _ _ hRh)
        have gH : Same H (hide (L2.thaw H5 H7) p) := by
          have := hide_mono (d := p) G5
          rw [hide_new hpH] at this
          exact this.trans hst
        refine ⟨p, zs, _, j, rfl, rfl, hback, ?_, ?_⟩
        · unfold ixN
          rw [if_pos b0, if_pos b1]; rfl
        refine ⟨_, _, _, ds.set j t', rfl, gH.trans hide_sub, upd_same, Reps.same hide_sub _ _ (reps_set hoff hzs), by rw [List.length_set]; exact hl5, fun d hd => ?_⟩
        rcases List.mem_or_eq_of_mem_set hd with z | z
        · exact pl_dd (hpl d z)
        · rw [z]; exact hd'
      · exact iN hn no5
    · exact iN c no
  clear hR4 hp4 G4 hpH hpl hl hl5
  rintro σ H5 ⟨o, p, xs, ds, rfl, g5, hp5, hR5, hl5, hdd⟩
  refine ⟨MidP H a m 3000, ?_, ?_⟩
  · walk_at "rd3"
    by_cases c : m / 40 % 9 = 1
    · refine iP c fun p1 hp1 p2 hp2 p3 hp3 => ?_
      have hxl := hR5.length
      have e1 := upd_same (H := H5) (a := p1) (o := .lst [V.str (Str.ofString "a")])
      have s1 := same_new hp1 (.lst [V.str (Str.ofString "a")])
      generalize upd H5 p1 _ = H1 at s1 e1 hp2 hp3 ⊢
      have e2 := upd_same (H := H1) (a := p2) (o := .tup [V.str (Str.ofString "take"), V.ref p1])
      have s2 := same_new hp2 (.tup [V.str (Str.ofString "take"), V.ref p1])
      generalize upd H1 p2 _ = H2 at s2 e2 hp3 ⊢
      have e3 := upd_same (H := H2) (a := p3) (o := .lst [V.ref p2])
      have s3 := same_new hp3 (.lst [V.ref p2])
      generalize upd H2 p3 _ = H3 at s3 e3 ⊢
      have g3 := s1.trans (s2.trans s3)
      have hda : DD (.tup [wTake, .lst [.str (ts (Str.ofString "a"))]]) := dd2 True.intro (steps_pg (fun u hu => by
        rw [List.mem_singleton.mp hu]; decide +kernel) (by decide))
      have hra : Rep H3 (.ref p2) (.tup [wTake, .lst [.str (ts (Str.ofString "a"))]]) := ⟨p2, _, rfl, s3 _ _ e2, _, _, rfl, rep_word _, _, _, rfl, ⟨p1, _, rfl, (s2.trans s3) _ _ e1, _, _, rfl, rep_word _, rfl⟩, rfl⟩
      refine ⟨p, p3, xs, [V.ref p2], rfl, rfl, g3 _ _ hp5, e3, by rw [sizeLine_eq]; simp only [List.length_cons, List.length_nil]; omega, fun p4 hp4 => ?_⟩
      have e4 := upd_same (H := H3) (a := p4) (o := .lst (xs ++ [V.ref p2]))
      have s4 := same_new hp4 (.lst (xs ++ [V.ref p2]))
      generalize upd H3 p4 _ = H4 at s4 e4 ⊢
      have g4 := g3.trans s4
      have hR4 : Reps H4 (xs ++ [V.ref p2]) (ds ++ [.tup [wTake, .lst [.str (ts (Str.ofString "a"))]]]) := Reps.append (show Reps H4 [V.ref p2] [_] from ⟨_, [], rfl, Rep.same s4 _ _ hra, rfl⟩) (Reps.same g4 _ _ hR5)
      have hd4 : ∀ d ∈ ds ++ [.tup [wTake, .lst [.str (ts (Str.ofString "a"))]]], DD d := fun d hd => by
        rcases List.mem_append.mp hd with z | z
        · exact hdd d z
        · rw [List.mem_singleton.mp z]; exact hda
      have hx6 : (xs ++ [V.ref p2]).length ≤ 6 := by rw [List.length_append]; simp only [List.length_cons, List.length_nil]; omega
      have hds6 : (ds ++ [T.tup [wTake, .lst [.str (ts (Str.ofString "a"))]]]).length ≤ 6 := by rw [List.length_append]; simp only [List.length_cons, List.length_nil]; omega
      generalize xs ++ [V.ref p2] = xs' at e4 hR4 hx6
      generalize ds ++ [T.tup [wTake, .lst [.str (ts (Str.ofString "a"))]]] = ds' at hR4 hd4 hds6
      refine ⟨p4, 401, xs', rfl, rfl, e4, by decide, by decide, ?_, fun p5 hp5' => ?_⟩
      · have : xs'.length * (401 : Int).toNat ≤ 6 * 401 := Nat.mul_le_mul_right 401 hx6
        rw [sizeLine_eq]; omega
      have e5 := upd_same (H := H4) (a := p5) (o := .lst (List.replicate (401 : Int).toNat xs').flatten)
      have s5 := same_new hp5' (.lst (List.replicate (401 : Int).toNat xs').flatten)
      generalize upd H4 p5 _ = H5' at s5 e5 ⊢
      obtain ⟨k, hk⟩ : ∃ k : Nat, 399 + m / 360 % 3 = (k : Int) := ⟨_, (Int.toNat_of_nonneg (by omega)).symm⟩
      rw [hk]
      refine ⟨p5, _, rfl, SqL.of e5, fun p6 hp6 => ?_⟩
      rw [cut_to]
      have s6 := same_new hp6 (.lst ((List.replicate (401 : Int).toNat xs').flatten.take k))
      refine ⟨_, _, _, (List.replicate (401 : Int).toNat ds').flatten.take k, rfl, g5.trans (g4.trans (s5.trans s6)), upd_same, Reps.same (s5.trans s6) _ _ (reps_tk (reps_many hR4 _)), ?_, fun d hd => ?_⟩
      · rw [List.length_take, len_rep]
        have : (401 : Int).toNat * ds'.length ≤ 401 * 6 := Nat.mul_le_mul_left 401 hds6
        omega
      · have hd := List.mem_of_mem_take hd
        rw [List.mem_flatten] at hd
        obtain ⟨l, hl, hd⟩ := hd
        rw [List.eq_of_mem_replicate hl] at hd
        exact hd4 d hd
    · exact iN c ⟨_, _, _, _, rfl, g5, hp5, hR5, by omega, hdd⟩
  clear hR5 hp5 g5 hdd hl5
  rintro σ H6 ⟨o, p, xs, ds, rfl, g6, hp6, hR6, hl6, hdd⟩
  refine ⟨MidD H a m, ?_, ?_⟩
  · walk_at "rd3"
    have hxl := hR6.length
    refine ⟨xs, SqL.of hp6, ?_⟩
    by_cases c : (xs.length : Int) < 401
    · refine iP c ⟨⟨_, SqL.of hp6⟩, comp_list (K := K) (xs := xs) (fun i zs H2 => Same H6 H2 ∧ zs = ((ds.take i).map deedOk).map V.bl) (by rw [sizeLine_eq]; omega) ⟨Same.refl _, rfl⟩ (fun i zs H2 _ h => SqL.of (h.1 _ _ hp6)) ?_ ?_⟩
      · rintro i v zs H2 hv _ ⟨g, rfl⟩
        obtain ⟨t, ht, hr'⟩ := hR6.get hv
        obtain ⟨d1, d2⟩ := hdd t (List.mem_of_getElem? ht)
        walk_at "rd3"
        refine ⟨v, t, rfl, Rep.same g _ _ hr', d1, True.intro, d2, fun H3 g3 => ⟨g.trans g3, ?_⟩⟩
        rw [take_succ_of ht, List.map_append, List.map_append]; rfl
      · rintro zs H2 _ ⟨g, rfl⟩ l hl'
        rw [hxl, List.take_length]
        refine ⟨l, rfl, _, SqL.of upd_same, ?_⟩
        have e : (ds.map deedOk).all id = paperOk (.lst ds) := by
          show _ = (decide (ds.length ≤ 400) && ds.all deedOk)
          rw [decide_eq_true (by omega), Bool.true_and, List.all_map]; rfl
        rw [e]
        have g2 := g.trans (same_new hl' (.lst ((ds.map deedOk).map V.bl)))
        exact ⟨_, _, _, ds, rfl, g6.trans g2, g2 _ _ hp6, Reps.same g2 _ _ hR6, hl6, hdd⟩
    · have e : paperOk (.lst ds) = false := by
        show (decide (ds.length ≤ 400) && ds.all deedOk) = false
        rw [decide_eq_false (by omega)]; rfl
      exact iN c ⟨_, _, _, ds, by rw [e], g6, hp6, hR6, hl6, hdd⟩
  clear hR6 hp6 g6 hdd hl6
  rintro σ H7 ⟨o, p, xs, ds, rfl, g7, hp7, hR7, hl7, hdd⟩
  walk_at "rd3"
  refine ⟨MidT H a m, ?_, ?_⟩
  · walk_at "rd3"
    by_cases c : m / 40 % 9 = 2
    · refine iP c ⟨xs, .inl ⟨SqL.of hp7, fun l hl p1 hp1 p2 hp2 p3 hp3 => ?_⟩⟩
      have e0 := upd_same (H := H7) (a := l) (o := .tup xs)
      have s0 := same_new hl (.tup xs)
      generalize upd H7 l _ = H0 at s0 e0 hp1 hp2 hp3 ⊢
      have e1 := upd_same (H := H0) (a := p1) (o := .dK [])
      have s1 := same_new hp1 (.dK [])
      generalize upd H0 p1 _ = H1 at s1 e1 hp2 hp3 ⊢
      have e2 := upd_same (H := H1) (a := p2) (o := .tup [V.ref p])
      have s2 := same_new hp2 (.tup [V.ref p])
      generalize upd H1 p2 _ = H2 at s2 e2 hp3 ⊢
      have e3 := upd_same (H := H2) (a := p3) (o := .lst [V.ref l, V.non, V.int 0, V.str (Str.ofString ""), V.ref p1, V.ref p2, V.bl true])
      have s3 := same_new hp3 (.lst [V.ref l, V.non, V.int 0, V.str (Str.ofString ""), V.ref p1, V.ref p2, V.bl true])
      generalize upd H2 p3 _ = H3 at s3 e3 ⊢
      have g23 := s2.trans s3
      have g13 := s1.trans g23
      have g03 := s0.trans g13
      obtain ⟨wd, hw, hm⟩ := atI_of (xs := [V.ref l, V.non, V.int 0, V.str (Str.ofString ""), V.ref p1, V.ref p2, V.bl true]) (i := m / 360 % 7) (by omega) (by simp only [List.length_cons, List.length_nil]; omega)
      refine rIxL_i (SqL.of e3) hw ?_
      have fin : ∀ (x : V) (t : T), Rep H3 x t → paperOk t = false → pDD t → MidT H a m [some (V.ref a), some (V.ref p), some (V.int m), o, some (V.bl false), some x, none] H3 := fun x t hx ht hd => ⟨_, _, x, t, by rw [ht], g7.trans g03, hx, hd⟩
      simp only [List.mem_cons, List.not_mem_nil, or_false] at hm
      rcases hm with rfl | rfl | rfl | rfl | rfl | rfl | rfl
      · exact fin _ (.tup ds) ⟨l, _, rfl, g13 _ _ e0, Reps.same g03 _ _ hR7⟩ rfl True.intro
      · exact fin _ .non rfl rfl True.intro
      · exact fin _ (.int 0) rfl rfl True.intro
      · exact fin _ _ (rep_word _) rfl True.intro
      · exact fin _ (.dic [] []) ⟨p1, [], rfl, g23 _ _ e1, rfl, rfl⟩ rfl True.intro
      · exact fin _ (.tup [.lst ds]) ⟨p2, _, rfl, s3 _ _ e2, _, _, rfl, ⟨p, xs, rfl, g03 _ _ hp7, Reps.same g03 _ _ hR7⟩, rfl⟩ rfl True.intro
      · exact fin _ (.bl true) rfl rfl True.intro
    · exact iN c ⟨_, _, _, .lst ds, rfl, g7, ⟨p, xs, rfl, hp7, hR7⟩, hl7, hdd⟩
  clear hR7 hp7 g7 hdd hl7
  rintro σ H8 ⟨o, o1, v, t, rfl, g8, hv, hpd⟩
  walk_at "rd3"
  refine ⟨v, t, rfl, hv, hpd, fun H9 g9 => ⟨"bool", rfl, iP (by decide +kernel) ⟨rfl, ?_⟩⟩⟩
  rw [decide_eq_true rfl]
  exact q _
theorem thing_all (F : Fun K "_law_thing_by" "_law_thing_by" sThing f fd) (B : Bl mg) (Gc : Dn P w K mg base 1 "_law_cell" ["_law_script", "_law_k"] (spCell K)) (Gn : Dn P w K mg base 1 "_law_number_by" ["_law_more"] spNum)
    (Gt : Dn P w K mg base 2 "_law_text_by" ["_law_more"] spText) (Gm : Dn P w K mg base 1 "_law_name_by" ["_law_more"] spName) (b : Binds K fd ["_law_script", "_law_k", "_law_deep"] []) (kp : PySem.W.keepIn K (.ref f) = true) (m : mg "_law_thing_by" = some (.ref f)) :
    ∀ d : Nat, FnOk P w K mg base CX0 (3 + d) f fd ["_law_script", "_law_k", "_law_deep"] (spThing K d)
  | 0 => ok_thing0 F B Gc Gn Gt
  | d + 1 => ok_thingS F B Gc Gn Gt Gm ⟨_, _, thing_all F B Gc Gn Gt Gm b kp m d, b, kp, m⟩
theorem thing_any {n : Nat} (h : ∀ d : Nat, FnOk P w K mg base CX0 (3 + d) f fd ["_law_script", "_law_k", "_law_deep"] (spThing K d)) : FnOk P w K mg base CX0 (3 + n) f fd ["_law_script", "_law_k", "_law_deep"] (spThingAny K n) :=
  ⟨fun vs H Q E ⟨d, _, q⟩ => (h d).len vs H Q E q, fun A outer s H args us vs Q E hr he hb hv ⟨d, hd, hs⟩ => (h d).run A outer s H args us vs Q E (hr.mono (by omega)) he hb hv hs⟩
end
end K41
namespace K41
open PySem L2
theorem all_mk {l : PySem.W.OpenLaw} {w : World} {K : PySem.W.Frag} {h : Heap} {mg : Str → Option Value} {fa f0 f1 f2 f3 f4 f5 f6 f7 f8 f9 f10 f11 f12 f13 f14 f15 f16 f17 f18 f19 f20 f21 f22 f23 f24 f25 f26 f27 f28 f29 f30 f31 f32 f33 : Addr} (X : K.In h) (G : h.Ns mainGlobals mg) (hfa : mg "law" = some (.ref fa))
    {od0 an0 : Option Addr} {sl0 : Array (Option Value)} {oc0 kV0 dc0 pm0 cd0 ct0 : Value}
    {od1 an1 : Option Addr} {sl1 : Array (Option Value)} {oc1 kV1 dc1 pm1 cd1 ct1 : Value}
    {od2 an2 : Option Addr} {sl2 : Array (Option Value)} {oc2 kV2 dc2 pm2 cd2 ct2 : Value}
    {od3 an3 : Option Addr} {sl3 : Array (Option Value)} {oc3 kV3 dc3 pm3 cd3 ct3 : Value}
    {od4 an4 : Option Addr} {sl4 : Array (Option Value)} {oc4 kV4 dc4 pm4 cd4 ct4 : Value}
    {od5 an5 : Option Addr} {sl5 : Array (Option Value)} {oc5 kV5 dc5 pm5 cd5 ct5 : Value}
    {od6 an6 : Option Addr} {sl6 : Array (Option Value)} {oc6 kV6 dc6 pm6 cd6 ct6 : Value}
    {od7 an7 : Option Addr} {sl7 : Array (Option Value)} {oc7 kV7 dc7 pm7 cd7 ct7 : Value}
    {od8 an8 : Option Addr} {sl8 : Array (Option Value)} {oc8 kV8 dc8 pm8 cd8 ct8 : Value}
    {od9 an9 : Option Addr} {sl9 : Array (Option Value)} {oc9 kV9 dc9 pm9 cd9 ct9 : Value}
    {od10 an10 : Option Addr} {sl10 : Array (Option Value)} {oc10 kV10 dc10 pm10 cd10 ct10 : Value}
    {od11 an11 : Option Addr} {sl11 : Array (Option Value)} {oc11 kV11 dc11 pm11 cd11 ct11 : Value}
    {od12 an12 : Option Addr} {sl12 : Array (Option Value)} {oc12 kV12 dc12 pm12 cd12 ct12 : Value}
    {od13 an13 : Option Addr} {sl13 : Array (Option Value)} {oc13 kV13 dc13 pm13 cd13 ct13 : Value}
    {od14 an14 : Option Addr} {sl14 : Array (Option Value)} {oc14 kV14 dc14 pm14 cd14 ct14 : Value}
    {od15 an15 : Option Addr} {sl15 : Array (Option Value)} {oc15 kV15 dc15 pm15 cd15 ct15 : Value}
    {od16 an16 : Option Addr} {sl16 : Array (Option Value)} {oc16 kV16 dc16 pm16 cd16 ct16 : Value}
    {od17 an17 : Option Addr} {sl17 : Array (Option Value)} {oc17 kV17 dc17 pm17 cd17 ct17 : Value}
    {od18 an18 : Option Addr} {sl18 : Array (Option Value)} {oc18 kV18 dc18 pm18 cd18 ct18 : Value}
    {od19 an19 : Option Addr} {sl19 : Array (Option Value)} {oc19 kV19 dc19 pm19 cd19 ct19 : Value}
    {od20 an20 : Option Addr} {sl20 : Array (Option Value)} {oc20 kV20 dc20 pm20 cd20 ct20 : Value}
    {od21 an21 : Option Addr} {sl21 : Array (Option Value)} {oc21 kV21 dc21 pm21 cd21 ct21 : Value}
    {od22 an22 : Option Addr} {sl22 : Array (Option Value)} {oc22 kV22 dc22 pm22 cd22 ct22 : Value}
    {od23 an23 : Option Addr} {sl23 : Array (Option Value)} {oc23 kV23 dc23 pm23 cd23 ct23 : Value}
    {od24 an24 : Option Addr} {sl24 : Array (Option Value)} {oc24 kV24 dc24 pm24 cd24 ct24 : Value}
    {od25 an25 : Option Addr} {sl25 : Array (Option Value)} {oc25 kV25 dc25 pm25 cd25 ct25 : Value}
    {od26 an26 : Option Addr} {sl26 : Array (Option Value)} {oc26 kV26 dc26 pm26 cd26 ct26 : Value}
    {od27 an27 : Option Addr} {sl27 : Array (Option Value)} {oc27 kV27 dc27 pm27 cd27 ct27 : Value}
    {od28 an28 : Option Addr} {sl28 : Array (Option Value)} {oc28 kV28 dc28 pm28 cd28 ct28 : Value}
    {od29 an29 : Option Addr} {sl29 : Array (Option Value)} {oc29 kV29 dc29 pm29 cd29 ct29 : Value}
    {od30 an30 : Option Addr} {sl30 : Array (Option Value)} {oc30 kV30 dc30 pm30 cd30 ct30 : Value}
    {od31 an31 : Option Addr} {sl31 : Array (Option Value)} {oc31 kV31 dc31 pm31 cd31 ct31 : Value}
    {od32 an32 : Option Addr} {sl32 : Array (Option Value)} {oc32 kV32 dc32 pm32 cd32 ct32 : Value}
    {od33 an33 : Option Addr} {sl33 : Array (Option Value)} {oc33 kV33 dc33 pm33 cd33 ct33 : Value}
    {u0 : Tok}
    {u1 : Tok}
    {v0 : Tok}
    {v1 : Tok}
    {v2 : Tok}
    {v3 : Tok}
    {v4 : Tok}
    {v5 : Tok}
    {v6 : Tok}
    {v7 : Tok}
    (a0 : PySem.W.nsIn K mainGlobals "kind_of" = some (some (.ref f0)))
    (l0 : K.lookup f0 = some ⟨oc0, od0, .func (PySem.W.fnOf "kind_of" "kind_of" (defArgs sKindOf) (defBody sKindOf) (defScope sKindOf) .none kV0 dc0 pm0 an0 cd0 ct0), sl0⟩)
    (c0 : PySem.W.codeIn K cd0 "kind_of" = true)
    (k0 : PySem.W.keepIn K (.ref f0) = true)
    (a1 : PySem.W.nsIn K mainGlobals "is_name" = some (some (.ref f1)))
    (l1 : K.lookup f1 = some ⟨oc1, od1, .func (PySem.W.fnOf "is_name" "is_name" (defArgs sIsName) (defBody sIsName) (defScope sIsName) .none kV1 dc1 pm1 an1 cd1 ct1), sl1⟩)
    (c1 : PySem.W.codeIn K cd1 "is_name" = true)
    (k1 : PySem.W.keepIn K (.ref f1) = true)
    (a2 : PySem.W.nsIn K mainGlobals "is_text_sign" = some (some (.ref f2)))
    (l2 : K.lookup f2 = some ⟨oc2, od2, .func (PySem.W.fnOf "is_text_sign" "is_text_sign" (defArgs sSgn) (defBody sSgn) (defScope sSgn) .none kV2 dc2 pm2 an2 cd2 ct2), sl2⟩)
    (c2 : PySem.W.codeIn K cd2 "is_text_sign" = true)
    (k2 : PySem.W.keepIn K (.ref f2) = true)
    (a3 : PySem.W.nsIn K mainGlobals "is_thing" = some (some (.ref f3)))
    (l3 : K.lookup f3 = some ⟨oc3, od3, .func (PySem.W.fnOf "is_thing" "is_thing" (defArgs sTh) (defBody sTh) (defScope sTh) .none kV3 dc3 pm3 an3 cd3 ct3), sl3⟩)
    (c3 : PySem.W.codeIn K cd3 "is_thing" = true)
    (k3 : PySem.W.keepIn K (.ref f3) = true)
    (a4 : PySem.W.nsIn K mainGlobals "is_sound_outside" = some (some (.ref f4)))
    (l4 : K.lookup f4 = some ⟨oc4, od4, .func (PySem.W.fnOf "is_sound_outside" "is_sound_outside" (defArgs sSnd) (defBody sSnd) (defScope sSnd) .none kV4 dc4 pm4 an4 cd4 ct4), sl4⟩)
    (c4 : PySem.W.codeIn K cd4 "is_sound_outside" = true)
    (k4 : PySem.W.keepIn K (.ref f4) = true)
    (a5 : PySem.W.nsIn K mainGlobals "holds_parts" = some (some (.ref f5)))
    (l5 : K.lookup f5 = some ⟨oc5, od5, .func (PySem.W.fnOf "holds_parts" "holds_parts" (defArgs sHp) (defBody sHp) (defScope sHp) .none kV5 dc5 pm5 an5 cd5 ct5), sl5⟩)
    (c5 : PySem.W.codeIn K cd5 "holds_parts" = true)
    (k5 : PySem.W.keepIn K (.ref f5) = true)
    (a6 : PySem.W.nsIn K mainGlobals "parts_of" = some (some (.ref f6)))
    (l6 : K.lookup f6 = some ⟨oc6, od6, .func (PySem.W.fnOf "parts_of" "parts_of" (defArgs sPo) (defBody sPo) (defScope sPo) .none kV6 dc6 pm6 an6 cd6 ct6), sl6⟩)
    (c6 : PySem.W.codeIn K cd6 "parts_of" = true)
    (k6 : PySem.W.keepIn K (.ref f6) = true)
    (a7 : PySem.W.nsIn K mainGlobals "parts_of_all" = some (some (.ref f7)))
    (l7 : K.lookup f7 = some ⟨oc7, od7, .func (PySem.W.fnOf "parts_of_all" "parts_of_all" (defArgs sPa) (defBody sPa) (defScope sPa) .none kV7 dc7 pm7 an7 cd7 ct7), sl7⟩)
    (c7 : PySem.W.codeIn K cd7 "parts_of_all" = true)
    (k7 : PySem.W.keepIn K (.ref f7) = true)
    (a8 : PySem.W.nsIn K mainGlobals "is_path" = some (some (.ref f8)))
    (l8 : K.lookup f8 = some ⟨oc8, od8, .func (PySem.W.fnOf "is_path" "is_path" (defArgs sIsPath) (defBody sIsPath) (defScope sIsPath) .none kV8 dc8 pm8 an8 cd8 ct8), sl8⟩)
    (c8 : PySem.W.codeIn K cd8 "is_path" = true)
    (k8 : PySem.W.keepIn K (.ref f8) = true)
    (a9 : PySem.W.nsIn K mainGlobals "is_place" = some (some (.ref f9)))
    (l9 : K.lookup f9 = some ⟨oc9, od9, .func (PySem.W.fnOf "is_place" "is_place" (defArgs sPlace) (defBody sPlace) (defScope sPlace) .none kV9 dc9 pm9 an9 cd9 ct9), sl9⟩)
    (c9 : PySem.W.codeIn K cd9 "is_place" = true)
    (k9 : PySem.W.keepIn K (.ref f9) = true)
    (a10 : PySem.W.nsIn K mainGlobals "is_paper" = some (some (.ref f10)))
    (l10 : K.lookup f10 = some ⟨oc10, od10, .func (PySem.W.fnOf "is_paper" "is_paper" (defArgs sPapr) (defBody sPapr) (defScope sPapr) .none kV10 dc10 pm10 an10 cd10 ct10), sl10⟩)
    (c10 : PySem.W.codeIn K cd10 "is_paper" = true)
    (k10 : PySem.W.keepIn K (.ref f10) = true)
    (a11 : PySem.W.nsIn K mainGlobals "is_deed" = some (some (.ref f11)))
    (l11 : K.lookup f11 = some ⟨oc11, od11, .func (PySem.W.fnOf "is_deed" "is_deed" (defArgs sDeed) (defBody sDeed) (defScope sDeed) .none kV11 dc11 pm11 an11 cd11 ct11), sl11⟩)
    (c11 : PySem.W.codeIn K cd11 "is_deed" = true)
    (k11 : PySem.W.keepIn K (.ref f11) = true)
    (a12 : PySem.W.nsIn K mainGlobals "_law_cell" = some (some (.ref f12)))
    (l12 : K.lookup f12 = some ⟨oc12, od12, .func (PySem.W.fnOf "_law_cell" "_law_cell" (defArgs sCell) (defBody sCell) (defScope sCell) .none kV12 dc12 pm12 an12 cd12 ct12), sl12⟩)
    (c12 : PySem.W.codeIn K cd12 "_law_cell" = true)
    (k12 : PySem.W.keepIn K (.ref f12) = true)
    (a13 : PySem.W.nsIn K mainGlobals "_law_name_by" = some (some (.ref f13)))
    (l13 : K.lookup f13 = some ⟨oc13, od13, .func (PySem.W.fnOf "_law_name_by" "_law_name_by" (defArgs sName) (defBody sName) (defScope sName) .none kV13 dc13 pm13 an13 cd13 ct13), sl13⟩)
    (c13 : PySem.W.codeIn K cd13 "_law_name_by" = true)
    (k13 : PySem.W.keepIn K (.ref f13) = true)
    (a14 : PySem.W.nsIn K mainGlobals "_law_signs" = some (some (.ref f14)))
    (l14 : K.lookup f14 = some ⟨oc14, od14, .func (PySem.W.fnOf "_law_signs" "_law_signs" (defArgs sSigns) (defBody sSigns) (defScope sSigns) .none kV14 dc14 pm14 an14 cd14 ct14), sl14⟩)
    (c14 : PySem.W.codeIn K cd14 "_law_signs" = true)
    (k14 : PySem.W.keepIn K (.ref f14) = true)
    (a15 : PySem.W.nsIn K mainGlobals "_law_text_by" = some (some (.ref f15)))
    (l15 : K.lookup f15 = some ⟨oc15, od15, .func (PySem.W.fnOf "_law_text_by" "_law_text_by" (defArgs sText) (defBody sText) (defScope sText) .none kV15 dc15 pm15 an15 cd15 ct15), sl15⟩)
    (c15 : PySem.W.codeIn K cd15 "_law_text_by" = true)
    (k15 : PySem.W.keepIn K (.ref f15) = true)
    (a16 : PySem.W.nsIn K mainGlobals "_law_number_by" = some (some (.ref f16)))
    (l16 : K.lookup f16 = some ⟨oc16, od16, .func (PySem.W.fnOf "_law_number_by" "_law_number_by" (defArgs sNum) (defBody sNum) (defScope sNum) .none kV16 dc16 pm16 an16 cd16 ct16), sl16⟩)
    (c16 : PySem.W.codeIn K cd16 "_law_number_by" = true)
    (k16 : PySem.W.keepIn K (.ref f16) = true)
    (a17 : PySem.W.nsIn K mainGlobals "_law_thing_by" = some (some (.ref f17)))
    (l17 : K.lookup f17 = some ⟨oc17, od17, .func (PySem.W.fnOf "_law_thing_by" "_law_thing_by" (defArgs sThing) (defBody sThing) (defScope sThing) .none kV17 dc17 pm17 an17 cd17 ct17), sl17⟩)
    (c17 : PySem.W.codeIn K cd17 "_law_thing_by" = true)
    (k17 : PySem.W.keepIn K (.ref f17) = true)
    (a18 : PySem.W.nsIn K mainGlobals "_law_good_name" = some (some (.ref f18)))
    (l18 : K.lookup f18 = some ⟨oc18, od18, .func (PySem.W.fnOf "_law_good_name" "_law_good_name" (defArgs sGood) (defBody sGood) (defScope sGood) .none kV18 dc18 pm18 an18 cd18 ct18), sl18⟩)
    (c18 : PySem.W.codeIn K cd18 "_law_good_name" = true)
    (k18 : PySem.W.keepIn K (.ref f18) = true)
    (a19 : PySem.W.nsIn K mainGlobals "_law_inner" = some (some (.ref f19)))
    (l19 : K.lookup f19 = some ⟨oc19, od19, .func (PySem.W.fnOf "_law_inner" "_law_inner" (defArgs sInner) (defBody sInner) (defScope sInner) .none kV19 dc19 pm19 an19 cd19 ct19), sl19⟩)
    (c19 : PySem.W.codeIn K cd19 "_law_inner" = true)
    (k19 : PySem.W.keepIn K (.ref f19) = true)
    (a20 : PySem.W.nsIn K mainGlobals "_law_depth" = some (some (.ref f20)))
    (l20 : K.lookup f20 = some ⟨oc20, od20, .func (PySem.W.fnOf "_law_depth" "_law_depth" (defArgs sDepth) (defBody sDepth) (defScope sDepth) .none kV20 dc20 pm20 an20 cd20 ct20), sl20⟩)
    (c20 : PySem.W.codeIn K cd20 "_law_depth" = true)
    (k20 : PySem.W.keepIn K (.ref f20) = true)
    (a21 : PySem.W.nsIn K mainGlobals "_law_size" = some (some (.ref f21)))
    (l21 : K.lookup f21 = some ⟨oc21, od21, .func (PySem.W.fnOf "_law_size" "_law_size" (defArgs sSize) (defBody sSize) (defScope sSize) .none kV21 dc21 pm21 an21 cd21 ct21), sl21⟩)
    (c21 : PySem.W.codeIn K cd21 "_law_size" = true)
    (k21 : PySem.W.keepIn K (.ref f21) = true)
    (a22 : PySem.W.nsIn K mainGlobals "_law_narrow" = some (some (.ref f22)))
    (l22 : K.lookup f22 = some ⟨oc22, od22, .func (PySem.W.fnOf "_law_narrow" "_law_narrow" (defArgs sNarrow) (defBody sNarrow) (defScope sNarrow) .none kV22 dc22 pm22 an22 cd22 ct22), sl22⟩)
    (c22 : PySem.W.codeIn K cd22 "_law_narrow" = true)
    (k22 : PySem.W.keepIn K (.ref f22) = true)
    (a23 : PySem.W.nsIn K mainGlobals "_law_good" = some (some (.ref f23)))
    (l23 : K.lookup f23 = some ⟨oc23, od23, .func (PySem.W.fnOf "_law_good" "_law_good" (defArgs sGoodT) (defBody sGoodT) (defScope sGoodT) .none kV23 dc23 pm23 an23 cd23 ct23), sl23⟩)
    (c23 : PySem.W.codeIn K cd23 "_law_good" = true)
    (k23 : PySem.W.keepIn K (.ref f23) = true)
    (a24 : PySem.W.nsIn K mainGlobals "_law_path_good" = some (some (.ref f24)))
    (l24 : K.lookup f24 = some ⟨oc24, od24, .func (PySem.W.fnOf "_law_path_good" "_law_path_good" (defArgs sLPG) (defBody sLPG) (defScope sLPG) .none kV24 dc24 pm24 an24 cd24 ct24), sl24⟩)
    (c24 : PySem.W.codeIn K cd24 "_law_path_good" = true)
    (k24 : PySem.W.keepIn K (.ref f24) = true)
    (a25 : PySem.W.nsIn K mainGlobals "_law_inner_good" = some (some (.ref f25)))
    (l25 : K.lookup f25 = some ⟨oc25, od25, .func (PySem.W.fnOf "_law_inner_good" "_law_inner_good" (defArgs sIG) (defBody sIG) (defScope sIG) .none kV25 dc25 pm25 an25 cd25 ct25), sl25⟩)
    (c25 : PySem.W.codeIn K cd25 "_law_inner_good" = true)
    (k25 : PySem.W.keepIn K (.ref f25) = true)
    (a26 : PySem.W.nsIn K mainGlobals "_law_thing_good" = some (some (.ref f26)))
    (l26 : K.lookup f26 = some ⟨oc26, od26, .func (PySem.W.fnOf "_law_thing_good" "_law_thing_good" (defArgs sTG) (defBody sTG) (defScope sTG) .none kV26 dc26 pm26 an26 cd26 ct26), sl26⟩)
    (c26 : PySem.W.codeIn K cd26 "_law_thing_good" = true)
    (k26 : PySem.W.keepIn K (.ref f26) = true)
    (a27 : PySem.W.nsIn K mainGlobals "_law_deed_good" = some (some (.ref f27)))
    (l27 : K.lookup f27 = some ⟨oc27, od27, .func (PySem.W.fnOf "_law_deed_good" "_law_deed_good" (defArgs sLDG) (defBody sLDG) (defScope sLDG) .none kV27 dc27 pm27 an27 cd27 ct27), sl27⟩)
    (c27 : PySem.W.codeIn K cd27 "_law_deed_good" = true)
    (k27 : PySem.W.keepIn K (.ref f27) = true)
    (a28 : PySem.W.nsIn K mainGlobals "_law_path" = some (some (.ref f28)))
    (l28 : K.lookup f28 = some ⟨oc28, od28, .func (PySem.W.fnOf "_law_path" "_law_path" (defArgs sPath) (defBody sPath) (defScope sPath) .none kV28 dc28 pm28 an28 cd28 ct28), sl28⟩)
    (c28 : PySem.W.codeIn K cd28 "_law_path" = true)
    (k28 : PySem.W.keepIn K (.ref f28) = true)
    (a29 : PySem.W.nsIn K mainGlobals "_law_plain" = some (some (.ref f29)))
    (l29 : K.lookup f29 = some ⟨oc29, od29, .func (PySem.W.fnOf "_law_plain" "_law_plain" (defArgs sPlain) (defBody sPlain) (defScope sPlain) .none kV29 dc29 pm29 an29 cd29 ct29), sl29⟩)
    (c29 : PySem.W.codeIn K cd29 "_law_plain" = true)
    (k29 : PySem.W.keepIn K (.ref f29) = true)
    (a30 : PySem.W.nsIn K mainGlobals "_law_bad_path" = some (some (.ref f30)))
    (l30 : K.lookup f30 = some ⟨oc30, od30, .func (PySem.W.fnOf "_law_bad_path" "_law_bad_path" (defArgs sBadP) (defBody sBadP) (defScope sBadP) .none kV30 dc30 pm30 an30 cd30 ct30), sl30⟩)
    (c30 : PySem.W.codeIn K cd30 "_law_bad_path" = true)
    (k30 : PySem.W.keepIn K (.ref f30) = true)
    (a31 : PySem.W.nsIn K mainGlobals "_law_bad_thing" = some (some (.ref f31)))
    (l31 : K.lookup f31 = some ⟨oc31, od31, .func (PySem.W.fnOf "_law_bad_thing" "_law_bad_thing" (defArgs sBadT) (defBody sBadT) (defScope sBadT) .none kV31 dc31 pm31 an31 cd31 ct31), sl31⟩)
    (c31 : PySem.W.codeIn K cd31 "_law_bad_thing" = true)
    (k31 : PySem.W.keepIn K (.ref f31) = true)
    (a32 : PySem.W.nsIn K mainGlobals "_law_bent" = some (some (.ref f32)))
    (l32 : K.lookup f32 = some ⟨oc32, od32, .func (PySem.W.fnOf "_law_bent" "_law_bent" (defArgs sBent) (defBody sBent) (defScope sBent) .none kV32 dc32 pm32 an32 cd32 ct32), sl32⟩)
    (c32 : PySem.W.codeIn K cd32 "_law_bent" = true)
    (k32 : PySem.W.keepIn K (.ref f32) = true)
    (a33 : PySem.W.nsIn K mainGlobals "law" = some (some (.ref f33)))
    (l33 : K.lookup f33 = some ⟨oc33, od33, .func (PySem.W.fnOf "law" "law" (defArgs sLaw) (defBody sLaw) (defScope sLaw) .none kV33 dc33 pm33 an33 cd33 ct33), sl33⟩)
    (c33 : PySem.W.codeIn K cd33 "law" = true)
    (k33 : PySem.W.keepIn K (.ref f33) = true)
    (z0 : PySem.W.nsIn K mainGlobals "len" = some none)
    (z1 : PySem.W.nsIn K mainGlobals "range" = some none)
    (z2 : PySem.W.nsIn K mainGlobals "isinstance" = some none)
    (z3 : PySem.W.nsIn K mainGlobals "all" = some none)
    (z4 : PySem.W.nsIn K mainGlobals "sum" = some none)
    (z5 : PySem.W.nsIn K mainGlobals "int" = some none)
    (z6 : PySem.W.nsIn K mainGlobals "str" = some none)
    (z7 : PySem.W.nsIn K mainGlobals "bool" = some none)
    (z8 : PySem.W.nsIn K mainGlobals "list" = some none)
    (z9 : PySem.W.nsIn K mainGlobals "dict" = some none)
    (z10 : PySem.W.nsIn K mainGlobals "tuple" = some none)
    (y0 : PySem.W.nsIn K mainGlobals "max" = some none)
    (y1 : PySem.W.nsIn K mainGlobals "min" = some none)
    (y2 : PySem.W.nsIn K mainGlobals "sorted" = some none)
    (q0 : PySem.W.nsIn K mainGlobals "abs" = some none)
    (q1 : PySem.W.nsIn K mainGlobals "ord" = some none)
    (s0 : PySem.W.nsIn K mainGlobals "LETTERS" = some (some (.str (Str.ofString "abcdefghijklmnopqrstuvwxyz") u0)))
    (s1 : PySem.W.nsIn K mainGlobals "NAME_SIGNS" = some (some (.str (Str.ofString "abcdefghijklmnopqrstuvwxyz0123456789") u1)))
    (n0 : PySem.W.nsIn K mainGlobals "MOST_IN_NAME" = some (some (.int 12 v0)))
    (n1 : PySem.W.nsIn K mainGlobals "MOST_IN_TEXT" = some (some (.int 30 v1)))
    (n2 : PySem.W.nsIn K mainGlobals "MOST_IN_ROW" = some (some (.int 60 v2)))
    (n3 : PySem.W.nsIn K mainGlobals "MOST_IN_RECORD" = some (some (.int 30 v3)))
    (n4 : PySem.W.nsIn K mainGlobals "MOST_DEPTH" = some (some (.int 8 v4)))
    (n5 : PySem.W.nsIn K mainGlobals "MOST_SIZE" = some (some (.int 200 v5)))
    (n6 : PySem.W.nsIn K mainGlobals "MOST_STEPS" = some (some (.int 8 v6)))
    (n7 : PySem.W.nsIn K mainGlobals "MOST_DEEDS" = some (some (.int 400 v7))) :
    ∃ fd : FuncData, (∀ (s : Shared) (v : Value), BindsTo s fd ⟨[v], []⟩ [("_law_script", v)]) ∧ ∀ base : Heap, K.In base → base.Ns mainGlobals mg → FnOk l.prog w K mg base CX0 67 fa fd ["_law_script"] (spLaw K) := by
  have e := hfa.symm.trans (PySem.W.mg_of X G a33)
  cases e
  have Fkind_of := fun_mk (st := sKindOf) l0 c0 k0
  have bkind_of := Fkind_of.binds (ps := ["thing"]) fun _ _ _ _ _ _ us hl => match us, hl with | [_], _ => rfl
  have mkind_of := PySem.W.mg_of X G a0
  have pkind_of := k0
  have Fis_name := fun_mk (st := sIsName) l1 c1 k1
  have bis_name := Fis_name.binds (ps := ["thing"]) fun _ _ _ _ _ _ us hl => match us, hl with | [_], _ => rfl
  have mis_name := PySem.W.mg_of X G a1
  have pis_name := k1
  have Fis_text_sign := fun_mk (st := sSgn) l2 c2 k2
  have bis_text_sign := Fis_text_sign.binds (ps := ["sign"]) fun _ _ _ _ _ _ us hl => match us, hl with | [_], _ => rfl
  have mis_text_sign := PySem.W.mg_of X G a2
  have pis_text_sign := k2
  have Fis_thing := fun_mk (st := sTh) l3 c3 k3
  have bis_thing := Fis_thing.binds (ps := ["thing"]) fun _ _ _ _ _ _ us hl => match us, hl with | [_], _ => rfl
  have mis_thing := PySem.W.mg_of X G a3
  have pis_thing := k3
  have Fis_sound_outside := fun_mk (st := sSnd) l4 c4 k4
  have bis_sound_outside := Fis_sound_outside.binds (ps := ["thing"]) fun _ _ _ _ _ _ us hl => match us, hl with | [_], _ => rfl
  have mis_sound_outside := PySem.W.mg_of X G a4
  have pis_sound_outside := k4
  have Fholds_parts := fun_mk (st := sHp) l5 c5 k5
  have bholds_parts := Fholds_parts.binds (ps := ["thing"]) fun _ _ _ _ _ _ us hl => match us, hl with | [_], _ => rfl
  have mholds_parts := PySem.W.mg_of X G a5
  have pholds_parts := k5
  have Fparts_of := fun_mk (st := sPo) l6 c6 k6
  have bparts_of := Fparts_of.binds (ps := ["thing"]) fun _ _ _ _ _ _ us hl => match us, hl with | [_], _ => rfl
  have mparts_of := PySem.W.mg_of X G a6
  have pparts_of := k6
  have Fparts_of_all := fun_mk (st := sPa) l7 c7 k7
  have bparts_of_all := Fparts_of_all.binds (ps := ["holders"]) fun _ _ _ _ _ _ us hl => match us, hl with | [_], _ => rfl
  have mparts_of_all := PySem.W.mg_of X G a7
  have pparts_of_all := k7
  have Fis_path := fun_mk (st := sIsPath) l8 c8 k8
  have bis_path := Fis_path.binds (ps := ["thing"]) fun _ _ _ _ _ _ us hl => match us, hl with | [_], _ => rfl
  have mis_path := PySem.W.mg_of X G a8
  have pis_path := k8
  have Fis_place := fun_mk (st := sPlace) l9 c9 k9
  have bis_place := Fis_place.binds (ps := ["thing"]) fun _ _ _ _ _ _ us hl => match us, hl with | [_], _ => rfl
  have mis_place := PySem.W.mg_of X G a9
  have pis_place := k9
  have Fis_paper := fun_mk (st := sPapr) l10 c10 k10
  have bis_paper := Fis_paper.binds (ps := ["thing"]) fun _ _ _ _ _ _ us hl => match us, hl with | [_], _ => rfl
  have mis_paper := PySem.W.mg_of X G a10
  have pis_paper := k10
  have Fis_deed := fun_mk (st := sDeed) l11 c11 k11
  have bis_deed := Fis_deed.binds (ps := ["thing"]) fun _ _ _ _ _ _ us hl => match us, hl with | [_], _ => rfl
  have mis_deed := PySem.W.mg_of X G a11
  have pis_deed := k11
  have F_law_cell := fun_mk (st := sCell) l12 c12 k12
  have b_law_cell := F_law_cell.binds (ps := ["_law_script", "_law_k"]) fun _ _ _ _ _ _ us hl => match us, hl with | [_, _], _ => rfl
  have m_law_cell := PySem.W.mg_of X G a12
  have p_law_cell := k12
  have F_law_name_by := fun_mk (st := sName) l13 c13 k13
  have b_law_name_by := F_law_name_by.binds (ps := ["_law_more"]) fun _ _ _ _ _ _ us hl => match us, hl with | [_], _ => rfl
  have m_law_name_by := PySem.W.mg_of X G a13
  have p_law_name_by := k13
  have F_law_signs := fun_mk (st := sSigns) l14 c14 k14
  have b_law_signs := F_law_signs.binds (ps := []) fun _ _ _ _ _ _ us hl => match us, hl with | [], _ => rfl
  have m_law_signs := PySem.W.mg_of X G a14
  have p_law_signs := k14
  have F_law_text_by := fun_mk (st := sText) l15 c15 k15
  have b_law_text_by := F_law_text_by.binds (ps := ["_law_more"]) fun _ _ _ _ _ _ us hl => match us, hl with | [_], _ => rfl
  have m_law_text_by := PySem.W.mg_of X G a15
  have p_law_text_by := k15
  have F_law_number_by := fun_mk (st := sNum) l16 c16 k16
  have b_law_number_by := F_law_number_by.binds (ps := ["_law_more"]) fun _ _ _ _ _ _ us hl => match us, hl with | [_], _ => rfl
  have m_law_number_by := PySem.W.mg_of X G a16
  have p_law_number_by := k16
  have F_law_thing_by := fun_mk (st := sThing) l17 c17 k17
  have b_law_thing_by := F_law_thing_by.binds (ps := ["_law_script", "_law_k", "_law_deep"]) fun _ _ _ _ _ _ us hl => match us, hl with | [_, _, _], _ => rfl
  have m_law_thing_by := PySem.W.mg_of X G a17
  have p_law_thing_by := k17
  have F_law_good_name := fun_mk (st := sGood) l18 c18 k18
  have b_law_good_name := F_law_good_name.binds (ps := ["_law_word"]) fun _ _ _ _ _ _ us hl => match us, hl with | [_], _ => rfl
  have m_law_good_name := PySem.W.mg_of X G a18
  have p_law_good_name := k18
  have F_law_inner := fun_mk (st := sInner) l19 c19 k19
  have b_law_inner := F_law_inner.binds (ps := ["_law_thing"]) fun _ _ _ _ _ _ us hl => match us, hl with | [_], _ => rfl
  have m_law_inner := PySem.W.mg_of X G a19
  have p_law_inner := k19
  have F_law_depth := fun_mk (st := sDepth) l20 c20 k20
  have b_law_depth := F_law_depth.binds (ps := ["_law_thing"]) fun _ _ _ _ _ _ us hl => match us, hl with | [_], _ => rfl
  have m_law_depth := PySem.W.mg_of X G a20
  have p_law_depth := k20
  have F_law_size := fun_mk (st := sSize) l21 c21 k21
  have b_law_size := F_law_size.binds (ps := ["_law_thing"]) fun _ _ _ _ _ _ us hl => match us, hl with | [_], _ => rfl
  have m_law_size := PySem.W.mg_of X G a21
  have p_law_size := k21
  have F_law_narrow := fun_mk (st := sNarrow) l22 c22 k22
  have b_law_narrow := F_law_narrow.binds (ps := ["_law_thing"]) fun _ _ _ _ _ _ us hl => match us, hl with | [_], _ => rfl
  have m_law_narrow := PySem.W.mg_of X G a22
  have p_law_narrow := k22
  have F_law_good := fun_mk (st := sGoodT) l23 c23 k23
  have b_law_good := F_law_good.binds (ps := ["_law_thing"]) fun _ _ _ _ _ _ us hl => match us, hl with | [_], _ => rfl
  have m_law_good := PySem.W.mg_of X G a23
  have p_law_good := k23
  have F_law_path_good := fun_mk (st := sLPG) l24 c24 k24
  have b_law_path_good := F_law_path_good.binds (ps := ["_law_path_here"]) fun _ _ _ _ _ _ us hl => match us, hl with | [_], _ => rfl
  have m_law_path_good := PySem.W.mg_of X G a24
  have p_law_path_good := k24
  have F_law_inner_good := fun_mk (st := sIG) l25 c25 k25
  have b_law_inner_good := F_law_inner_good.binds (ps := ["_law_thing"]) fun _ _ _ _ _ _ us hl => match us, hl with | [_], _ => rfl
  have m_law_inner_good := PySem.W.mg_of X G a25
  have p_law_inner_good := k25
  have F_law_thing_good := fun_mk (st := sTG) l26 c26 k26
  have b_law_thing_good := F_law_thing_good.binds (ps := ["_law_thing"]) fun _ _ _ _ _ _ us hl => match us, hl with | [_], _ => rfl
  have m_law_thing_good := PySem.W.mg_of X G a26
  have p_law_thing_good := k26
  have F_law_deed_good := fun_mk (st := sLDG) l27 c27 k27
  have b_law_deed_good := F_law_deed_good.binds (ps := ["_law_deed"]) fun _ _ _ _ _ _ us hl => match us, hl with | [_], _ => rfl
  have m_law_deed_good := PySem.W.mg_of X G a27
  have p_law_deed_good := k27
  have F_law_path := fun_mk (st := sPath) l28 c28 k28
  have b_law_path := F_law_path.binds (ps := ["_law_script", "_law_k"]) fun _ _ _ _ _ _ us hl => match us, hl with | [_, _], _ => rfl
  have m_law_path := PySem.W.mg_of X G a28
  have p_law_path := k28
  have F_law_plain := fun_mk (st := sPlain) l29 c29 k29
  have b_law_plain := F_law_plain.binds (ps := ["_law_script", "_law_k"]) fun _ _ _ _ _ _ us hl => match us, hl with | [_, _], _ => rfl
  have m_law_plain := PySem.W.mg_of X G a29
  have p_law_plain := k29
  have F_law_bad_path := fun_mk (st := sBadP) l30 c30 k30
  have b_law_bad_path := F_law_bad_path.binds (ps := ["_law_path_here", "_law_more"]) fun _ _ _ _ _ _ us hl => match us, hl with | [_, _], _ => rfl
  have m_law_bad_path := PySem.W.mg_of X G a30
  have p_law_bad_path := k30
  have F_law_bad_thing := fun_mk (st := sBadT) l31 c31 k31
  have b_law_bad_thing := F_law_bad_thing.binds (ps := ["_law_more"]) fun _ _ _ _ _ _ us hl => match us, hl with | [_], _ => rfl
  have m_law_bad_thing := PySem.W.mg_of X G a31
  have p_law_bad_thing := k31
  have F_law_bent := fun_mk (st := sBent) l32 c32 k32
  have b_law_bent := F_law_bent.binds (ps := ["_law_deed", "_law_more"]) fun _ _ _ _ _ _ us hl => match us, hl with | [_, _], _ => rfl
  have m_law_bent := PySem.W.mg_of X G a32
  have p_law_bent := k32
  have Flaw := fun_mk (st := sLaw) l33 c33 k33
  have blaw := Flaw.binds (ps := ["_law_script"]) fun _ _ _ _ _ _ us hl => match us, hl with | [_], _ => rfl
  have mlaw := PySem.W.mg_of X G a33
  have plaw := k33
  have B : Bl mg := ⟨PySem.W.mg_none_of X G z0, PySem.W.mg_none_of X G z1, PySem.W.mg_none_of X G z2, PySem.W.mg_none_of X G z3, PySem.W.mg_none_of X G z4, PySem.W.mg_none_of X G z5, PySem.W.mg_none_of X G z6, PySem.W.mg_none_of X G z7, PySem.W.mg_none_of X G z8, PySem.W.mg_none_of X G z9, PySem.W.mg_none_of X G z10⟩
  have B2 : Bl2 mg := ⟨B, PySem.W.mg_none_of X G y0, PySem.W.mg_none_of X G y1, PySem.W.mg_none_of X G y2⟩
  have B5 : Bl5 mg := ⟨B2, PySem.W.mg_none_of X G q0, PySem.W.mg_none_of X G q1⟩
  have M : Ms mg := ⟨⟨_, PySem.W.mg_of X G s0⟩, ⟨_, PySem.W.mg_of X G s1⟩, ⟨_, PySem.W.mg_of X G n0⟩, ⟨_, PySem.W.mg_of X G n1⟩, ⟨_, PySem.W.mg_of X G n2⟩, ⟨_, PySem.W.mg_of X G n3⟩, ⟨_, PySem.W.mg_of X G n4⟩, ⟨_, PySem.W.mg_of X G n5⟩, ⟨_, PySem.W.mg_of X G n6⟩, ⟨_, PySem.W.mg_of X G n7⟩⟩
  refine ⟨PySem.W.fnOf "law" "law" (defArgs sLaw) (defBody sLaw) (defScope sLaw) .none kV33 dc33 pm33 an33 cd33 ct33, fun s v => .of_eq rfl, fun base _ _ => ?_⟩
  have Gcell : Dn l.prog w K mg base 1 "_law_cell" ["_law_script", "_law_k"] (spCell K) := ⟨_, _, ok_cell F_law_cell B, b_law_cell, p_law_cell, m_law_cell⟩
  have Gnum : Dn l.prog w K mg base 1 "_law_number_by" ["_law_more"] spNum := ⟨_, _, ok_num F_law_number_by, b_law_number_by, p_law_number_by, m_law_number_by⟩
  have Gname : Dn l.prog w K mg base 1 "_law_name_by" ["_law_more"] spName := ⟨_, _, ok_name F_law_name_by B, b_law_name_by, p_law_name_by, m_law_name_by⟩
  have Gsigns : Dn l.prog w K mg base 1 "_law_signs" [] spSigns := ⟨_, _, ok_signs F_law_signs, b_law_signs, p_law_signs, m_law_signs⟩
  have Gtext : Dn l.prog w K mg base 2 "_law_text_by" ["_law_more"] spText := ⟨_, _, ok_text F_law_text_by B Gsigns, b_law_text_by, p_law_text_by, m_law_text_by⟩
  have Gthing : Dn l.prog w K mg base (3 + 2) "_law_thing_by" ["_law_script", "_law_k", "_law_deep"] (spThingAny K 2) := ⟨_, _, thing_any (thing_all F_law_thing_by B Gcell Gnum Gtext Gname b_law_thing_by p_law_thing_by m_law_thing_by), b_law_thing_by, p_law_thing_by, m_law_thing_by⟩
  have Gko : Dn l.prog w K mg base 1 "kind_of" ["thing"] spKindR := ⟨_, _, ok_kind_of Fkind_of B, bkind_of, pkind_of, mkind_of⟩
  have Gkt : Dn l.prog w K mg base 1 "kind_of" ["thing"] spKind := ⟨_, _, kind_T (ok_kind_of Fkind_of B), bkind_of, pkind_of, mkind_of⟩
  have Ggn : Dn l.prog w K mg base 1 "_law_good_name" ["_law_word"] spGood := ⟨_, _, ok_good F_law_good_name B, b_law_good_name, p_law_good_name, m_law_good_name⟩
  have Gin : Dn l.prog w K mg base 1 "is_name" ["thing"] spGood := ⟨_, _, ok_is_name Fis_name B M, bis_name, pis_name, mis_name⟩
  have Gsg : Dn l.prog w K mg base 1 "is_text_sign" ["sign"] spSgn := ⟨_, _, ok_sgn Fis_text_sign B5, bis_text_sign, pis_text_sign, mis_text_sign⟩
  have Gso : Dn l.prog w K mg base 2 "is_sound_outside" ["thing"] spSnd := ⟨_, _, ok_snd Fis_sound_outside B5 M Gko Gsg Gin, bis_sound_outside, pis_sound_outside, mis_sound_outside⟩
  have Ghp : Dn l.prog w K mg base 1 "holds_parts" ["thing"] spHp := ⟨_, _, ok_hp Fholds_parts B, bholds_parts, pholds_parts, mholds_parts⟩
  have Gpo : Dn l.prog w K mg base 1 "parts_of" ["thing"] spPo := ⟨_, _, ok_po Fparts_of B, bparts_of, pparts_of, mparts_of⟩
  have Gpa : Dn l.prog w K mg base 2 "parts_of_all" ["holders"] spPa := ⟨_, _, ok_pa Fparts_of_all B Gpo, bparts_of_all, pparts_of_all, mparts_of_all⟩
  have Gth : Dn l.prog w K mg base 3 "is_thing" ["thing"] spThT := ⟨_, _, th_T (ok_th Fis_thing B M Gso Ghp Gpa), bis_thing, pis_thing, mis_thing⟩
  have Gpl : Dn l.prog w K mg base 2 "is_place" ["thing"] spPlace := ⟨_, _, ok_place Fis_place B M Gkt, bis_place, pis_place, mis_place⟩
  have Gip : Dn l.prog w K mg base 3 "is_path" ["thing"] spIsPath := ⟨_, _, ok_is_path Fis_path B M Gin Gpl, bis_path, pis_path, mis_path⟩
  have Gde : Dn l.prog w K mg base 4 "is_deed" ["thing"] spDeed := ⟨_, _, ok_deed Fis_deed B Gip Gth, bis_deed, pis_deed, mis_deed⟩
  have Gpp : Dn l.prog w K mg base 5 "is_paper" ["thing"] spPap := ⟨_, _, ok_papr Fis_paper B M Gde, bis_paper, pis_paper, mis_paper⟩
  have Gnr : Dn l.prog w K mg base 1 "_law_inner" ["_law_thing"] spInner := ⟨_, _, ok_inner F_law_inner B, b_law_inner, p_law_inner, m_law_inner⟩
  have Gdp : Dn l.prog w K mg base (2 + 20) "_law_depth" ["_law_thing"] (spDepth 20) := ⟨_, _, depth_all F_law_depth B2 Gnr b_law_depth p_law_depth m_law_depth 20, b_law_depth, p_law_depth, m_law_depth⟩
  have Gsz : Dn l.prog w K mg base (2 + 20) "_law_size" ["_law_thing"] (spSize 20) := ⟨_, _, size_all F_law_size B Gnr b_law_size p_law_size m_law_size 20, b_law_size, p_law_size, m_law_size⟩
  have Gnw : Dn l.prog w K mg base (2 + 20) "_law_narrow" ["_law_thing"] (spNarrow 20) := ⟨_, _, narrow_all F_law_narrow B Gnr b_law_narrow p_law_narrow m_law_narrow 20, b_law_narrow, p_law_narrow, m_law_narrow⟩
  have Ggd : Dn l.prog w K mg base 23 "_law_good" ["_law_thing"] spLG := ⟨_, _, ok_goodT F_law_good B Gnw Gdp Gsz, b_law_good, p_law_good, m_law_good⟩
  have Gtg : Dn l.prog w K mg base 65 "_law_thing_good" ["_law_thing"] (spTG 20) := ⟨_, _, (tg_all F_law_inner_good F_law_thing_good B B5 Ggn Gnr Ggd b_law_inner_good p_law_inner_good m_law_inner_good b_law_thing_good p_law_thing_good m_law_thing_good 20).2, b_law_thing_good, p_law_thing_good, m_law_thing_good⟩
  have Gpg : Dn l.prog w K mg base 2 "_law_path_good" ["_law_path_here"] spIsPath := ⟨_, _, ok_lpg F_law_path_good B Ggn, b_law_path_good, p_law_path_good, m_law_path_good⟩
  have Gdg : Dn l.prog w K mg base 66 "_law_deed_good" ["_law_deed"] spDeed := ⟨_, _, ok_ldg F_law_deed_good B Gpg Gtg, b_law_deed_good, p_law_deed_good, m_law_deed_good⟩
  have Gpth : Dn l.prog w K mg base 2 "_law_path" ["_law_script", "_law_k"] (spLPath K) := ⟨_, _, ok_lpath F_law_path B Gcell Gname, b_law_path, p_law_path, m_law_path⟩
  have Gpln : Dn l.prog w K mg base 6 "_law_plain" ["_law_script", "_law_k"] (spPlain K) := ⟨_, _, ok_plain F_law_plain B Gcell Gpth Gthing, b_law_plain, p_law_plain, m_law_plain⟩
  have Gbp : Dn l.prog w K mg base 1 "_law_bad_path" ["_law_path_here", "_law_more"] spBadP := ⟨_, _, ok_badp F_law_bad_path B, b_law_bad_path, p_law_bad_path, m_law_bad_path⟩
  have Gbt : Dn l.prog w K mg base 1 "_law_bad_thing" ["_law_more"] spBadT := ⟨_, _, ok_badt F_law_bad_thing B, b_law_bad_thing, p_law_bad_thing, m_law_bad_thing⟩
  have Gbn : Dn l.prog w K mg base 2 "_law_bent" ["_law_deed", "_law_more"] spBent := ⟨_, _, ok_bent F_law_bent B Gbp Gbt, b_law_bent, p_law_bent, m_law_bent⟩
  exact ok_law Flaw B Gcell Gpln Gbn Gdg Gpp
theorem walk {l : PySem.W.OpenLaw} {q : Program} {loose : List Str} {XP : (Str → Option Value) → Heap → Prop} {YP : World → Heap → Prop} {d : DefRec} {K : Params → PySem.W.Frag} (hn : l.most = some 63) (hdf : d.params.defaults = [])
    (hY : ∀ (w : World) (h : Heap), YP w h → (K w.params).In h)
    (F : ∀ (w : World) (mg : Str → Option Value) (fa : Addr) (h : Heap), (K w.params).In h → h.Ns mainGlobals mg → mg d.name = some (.ref fa) →
      ∃ fd : FuncData, (∀ (s : Shared) (u : Value), BindsTo s fd ⟨[u], []⟩ [("_law_script", u)]) ∧ ∀ base : Heap, (K w.params).In base → base.Ns mainGlobals mg → FnOk l.prog w (K w.params) mg base CX0 67 fa fd ["_law_script"] (spLaw (K w.params))) :
    PySem.W.WalkO q loose XP YP l.row.toRowW d [] (fun f vs => PySem.call f vs) :=
  L2.walk_of (n := 63) (k := 67) (x := "_law_script") (CX := fun _ => CX0) (sp := fun w => spLaw (K w.params)) hn (by decide) hdf ⟨rfl, by decide, by decide⟩ hY F (fun _ _ a ns hl _ hS => ⟨a, ns, rfl, hS, hl, fun _ => rfl⟩) fun _ _ _ _ _ z => z
end K41
open PySem PySem.W PyProof.Rows
set_option maxRecDepth 100000 in
set_option maxHeartbeats 0 in
theorem PySem.Challenge.cw_cabinet_k41_papers_known_holds : PySem.Challenge.rw_cabinet_k41_papers_known.Holds := by
  w_on; o_law; k_head; (case hw => w_witness2)
  k_fill
  refine K41.walk (l := PySem.Challenge.rw_cabinet_k41_papers_known) rfl rfl (fun w h Y => PySem.W.kIn_of Y) ?F
  case F =>
    intro w mg fa h KX G hmg
    refine' K41.all_mk KX G hmg ?a0 ?l0 ?c0 ?k0 ?a1 ?l1 ?c1 ?k1 ?a2 ?l2 ?c2 ?k2 ?a3 ?l3 ?c3 ?k3 ?a4 ?l4 ?c4 ?k4 ?a5 ?l5 ?c5 ?k5 ?a6 ?l6 ?c6 ?k6 ?a7 ?l7 ?c7 ?k7 ?a8 ?l8 ?c8 ?k8 ?a9 ?l9 ?c9 ?k9 ?a10 ?l10 ?c10 ?k10 ?a11 ?l11 ?c11 ?k11 ?a12 ?l12 ?c12 ?k12 ?a13 ?l13 ?c13 ?k13 ?a14 ?l14 ?c14 ?k14 ?a15 ?l15 ?c15 ?k15 ?a16 ?l16 ?c16 ?k16 ?a17 ?l17 ?c17 ?k17 ?a18 ?l18 ?c18 ?k18 ?a19 ?l19 ?c19 ?k19 ?a20 ?l20 ?c20 ?k20 ?a21 ?l21 ?c21 ?k21 ?a22 ?l22 ?c22 ?k22 ?a23 ?l23 ?c23 ?k23 ?a24 ?l24 ?c24 ?k24 ?a25 ?l25 ?c25 ?k25 ?a26 ?l26 ?c26 ?k26 ?a27 ?l27 ?c27 ?k27 ?a28 ?l28 ?c28 ?k28 ?a29 ?l29 ?c29 ?k29 ?a30 ?l30 ?c30 ?k30 ?a31 ?l31 ?c31 ?k31 ?a32 ?l32 ?c32 ?k32 ?a33 ?l33 ?c33 ?k33 ?z0 ?z1 ?z2 ?z3 ?z4 ?z5 ?z6 ?z7 ?z8 ?z9 ?z10 ?y0 ?y1 ?y2 ?q0 ?q1 ?s0 ?s1 ?n0 ?n1 ?n2 ?n3 ?n4 ?n5 ?n6 ?n7
    (case a0 => k_is); (case l0 => k_is); (case c0 => k_is); (case k0 => k_is); (case a1 => k_is); (case l1 => k_is); (case c1 => k_is); (case k1 => k_is)
    (case a2 => k_is); (case l2 => k_is); (case c2 => k_is); (case k2 => k_is); (case a3 => k_is); (case l3 => k_is); (case c3 => k_is); (case k3 => k_is)
    (case a4 => k_is); (case l4 => k_is); (case c4 => k_is); (case k4 => k_is); (case a5 => k_is); (case l5 => k_is); (case c5 => k_is); (case k5 => k_is)
    (case a6 => k_is); (case l6 => k_is); (case c6 => k_is); (case k6 => k_is); (case a7 => k_is); (case l7 => k_is); (case c7 => k_is); (case k7 => k_is)
    (case a8 => k_is); (case l8 => k_is); (case c8 => k_is); (case k8 => k_is); (case a9 => k_is); (case l9 => k_is); (case c9 => k_is); (case k9 => k_is)
    (case a10 => k_is); (case l10 => k_is); (case c10 => k_is); (case k10 => k_is); (case a11 => k_is); (case l11 => k_is); (case c11 => k_is); (case k11 => k_is)
    (case a12 => k_is); (case l12 => k_is); (case c12 => k_is); (case k12 => k_is); (case a13 => k_is); (case l13 => k_is); (case c13 => k_is); (case k13 => k_is)
    (case a14 => k_is); (case l14 => k_is); (case c14 => k_is); (case k14 => k_is); (case a15 => k_is); (case l15 => k_is); (case c15 => k_is); (case k15 => k_is)
    (case a16 => k_is); (case l16 => k_is); (case c16 => k_is); (case k16 => k_is); (case a17 => k_is); (case l17 => k_is); (case c17 => k_is); (case k17 => k_is)
    (case a18 => k_is); (case l18 => k_is); (case c18 => k_is); (case k18 => k_is); (case a19 => k_is); (case l19 => k_is); (case c19 => k_is); (case k19 => k_is)
    (case a20 => k_is); (case l20 => k_is); (case c20 => k_is); (case k20 => k_is); (case a21 => k_is); (case l21 => k_is); (case c21 => k_is); (case k21 => k_is)
    (case a22 => k_is); (case l22 => k_is); (case c22 => k_is); (case k22 => k_is); (case a23 => k_is); (case l23 => k_is); (case c23 => k_is); (case k23 => k_is)
    (case a24 => k_is); (case l24 => k_is); (case c24 => k_is); (case k24 => k_is); (case a25 => k_is); (case l25 => k_is); (case c25 => k_is); (case k25 => k_is)
    (case a26 => k_is); (case l26 => k_is); (case c26 => k_is); (case k26 => k_is); (case a27 => k_is); (case l27 => k_is); (case c27 => k_is); (case k27 => k_is)
    (case a28 => k_is); (case l28 => k_is); (case c28 => k_is); (case k28 => k_is); (case a29 => k_is); (case l29 => k_is); (case c29 => k_is); (case k29 => k_is)
    (case a30 => k_is); (case l30 => k_is); (case c30 => k_is); (case k30 => k_is); (case a31 => k_is); (case l31 => k_is); (case c31 => k_is); (case k31 => k_is)
    (case a32 => k_is); (case l32 => k_is); (case c32 => k_is); (case k32 => k_is); (case a33 => k_is); (case l33 => k_is); (case c33 => k_is); (case k33 => k_is)
    (case z0 => k_is); (case z1 => k_is); (case z2 => k_is); (case z3 => k_is); (case z4 => k_is); (case z5 => k_is); (case z6 => k_is); (case z7 => k_is)
    (case z8 => k_is); (case z9 => k_is); (case z10 => k_is); (case y0 => k_is); (case y1 => k_is); (case y2 => k_is); (case q0 => k_is); (case q1 => k_is)
    (case s0 => k_is); (case s1 => k_is); (case n0 => k_is); (case n1 => k_is); (case n2 => k_is); (case n3 => k_is); (case n4 => k_is); (case n5 => k_is)
    (case n6 => k_is); (case n7 => k_is)
