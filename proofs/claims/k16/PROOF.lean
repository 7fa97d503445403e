import PyProof.Rows.All
import Wide.All
import OpenK.AllK
import Wide.FinOn
import Lean
import PyProof.EqAt
import PyProof.EqKinds
import PyProof.TupleCall
import PyProof.StrReplace2
import PyProof.DictItems
import PyProof.EnumStmt
import PyProof.EnumFor
import PyProof.DictItemsLoops
import PyProof.ZipIter
import PyProof.IsRules
import PyProof.Rows.SortRev
import KE.KIntText
import OpenK.KRaise
import KE.TryInHelper
import PyProof.RulesRaise
import PyProof.Rows.RaiseClass
import PyProof.RaisesMany
import PyProof.ExcClass3
import PyProof.ExcBaseAll.ValueError
import KE.KTryMore
import PyProof.InstStoreFacts
import OpenK.KMake
import PyProof.ExcAttrAll.ValueError
import KE.KIsAll
import OpenK.KWalk
import OpenK.KDescr
import PyProof.PureStr
import PyProof.ExcStr
import PyProof.CallStr
import KE.KCallOwn
import KE.KSortTup
import PySem.Challenge.RW_cabinet_k16_whole_in_order
set_option Elab.async false
set_option linter.all false
set_option maxRecDepth 100000
set_option maxHeartbeats 4000000
namespace L2
open PySem PySem.Spec PyProof.Rows
abbrev Key := Sum Int Str
def keyIs : Key → Value → Bool
  | .inl k, v => Value.isInt k v
  | .inr x, v => Value.isStrOf x v
def keyH (w : World) : Key → Int
  | .inl k => hashInt k
  | .inr x => hashStr w x
theorem keyIs_shape : ∀ {k : Key} {v : Value}, keyIs k v = true → (∃ i t, k = Sum.inl i ∧ v = Value.int i t) ∨ (∃ x t, k = Sum.inr x ∧ v = Value.str x t)
  | .inl i, v, h => by
    obtain ⟨t, e⟩ := Value.isInt_shape (k := i) (v := v) h
    exact .inl ⟨i, t, rfl, e⟩
  | .inr x, v, h => by
    obtain ⟨t, e⟩ := Value.isStrOf_shape (x := x) (v := v) h
    exact .inr ⟨x, t, rfl, e⟩
theorem keyIs_int (i : Int) (t : Tok) : keyIs (.inl i) (.int i t) = true := by simp [keyIs, Value.isInt]
theorem keyIs_str (x : Str) (t : Tok) : keyIs (.inr x) (.str x t) = true := by simp [keyIs, Value.isStrOf]
theorem key_ll (a b : Int) : decide ((Sum.inl a : Key) = Sum.inl b) = (a == b) := by
  by_cases e : a = b
  · subst e; simp
  · have h : ¬ (Sum.inl a : Key) = Sum.inl b := fun q => e (Sum.inl.inj q)
    rw [decide_eq_false h]
    exact (beq_eq_false_iff_ne.mpr e).symm
theorem key_rr (a b : Str) : decide ((Sum.inr a : Key) = Sum.inr b) = decide (a = b) := by
  by_cases e : a = b
  · subst e; simp
  · have h : ¬ (Sum.inr a : Key) = Sum.inr b := fun q => e (Sum.inr.inj q)
    rw [decide_eq_false h, decide_eq_false e]
theorem key_lr (a : Int) (b : Str) : decide ((Sum.inl a : Key) = Sum.inr b) = false := decide_eq_false (fun q => nomatch q)
theorem key_rl (a : Str) (b : Int) : decide ((Sum.inr a : Key) = Sum.inl b) = false := decide_eq_false (fun q => nomatch q)
def mixKind (prog : Program) (w : World) : PySem.KeyKind prog w Key where
  is := keyIs
  hash := keyH w
  inj := fun v a b ha hb => by
    rcases keyIs_shape ha with ⟨i, t, rfl, rfl⟩ | ⟨x, t, rfl, rfl⟩
    · rcases keyIs_shape hb with ⟨j, u, rfl, e⟩ | ⟨y, u, rfl, e⟩
      · injection e with e1 _; rw [e1]
      · exact nomatch e
    · rcases keyIs_shape hb with ⟨j, u, rfl, e⟩ | ⟨y, u, rfl, e⟩
      · exact nomatch e
      · injection e with e1 _; rw [e1]
  byValue := fun k v h => by
    rcases keyIs_shape h with ⟨i, t, rfl, rfl⟩ | ⟨x, t, rfl, rfl⟩ <;> rfl
  pyHash := fun hv h => by
    rcases keyIs_shape hv with ⟨i, t, rfl, rfl⟩ | ⟨x, t, rfl, rfl⟩
    · exact wpAny_pyHash_int h
    · exact wpAny_pyHash_str h
  eqBool := fun hu hv h => by
    rcases keyIs_shape hu with ⟨i, t, rfl, rfl⟩ | ⟨x, t, rfl, rfl⟩
    · rcases keyIs_shape hv with ⟨j, u, rfl, rfl⟩ | ⟨y, u, rfl, rfl⟩
      · rw [key_ll] at h; exact wpAny_eqBool_int h
      · rw [key_lr] at h; exact SeqAt.EqAt.int_str i t y u _ _ _ _ h
    · rcases keyIs_shape hv with ⟨j, u, rfl, rfl⟩ | ⟨y, u, rfl, rfl⟩
      · rw [key_rl] at h; exact SeqAt.EqAt.str_int x t j u _ _ _ _ h
      · rw [key_rr] at h; exact wpAny_eqBool_str h
  «strs» := fun k x t v h => by
    rcases keyIs_shape h with ⟨i, u, rfl, e⟩ | ⟨y, u, rfl, e⟩
    · exact nomatch e
    · injection e with e1 _
      subst e1
      cases v <;> rfl
theorem mixKind_int (prog : Program) (w : World) (i : Int) (t : Tok) : (mixKind prog w).is (.inl i) (.int i t) = true := keyIs_int i t
theorem mixKind_str (prog : Program) (w : World) (x : Str) (t : Tok) : (mixKind prog w).is (.inr x) (.str x t) = true := keyIs_str x t
end L2
namespace L2
open PySem PySem.Spec PyProof.Rows
inductive V where
  | non | bl (b : Bool) | int (i : Int) | str (x : Str) | byt (b : Array UInt8) | flt (b : UInt64) | ref (a : Addr) | ty (n : String)
  deriving DecidableEq
def RelV : V → Value → Prop
  | .non, u => u = Value.none
  | .bl b, u => u = Value.bool b
  | .int i, u => ∃ t, u = Value.int i t
  | .str x, u => ∃ t, u = Value.str x t
  | .byt b, u => ∃ t, u = Value.bytes b t
  | .flt b, u => ∃ t, u = Value.float b t
  | .ref a, u => u = Value.ref a
  | .ty n, u => u = Value.type n
abbrev Vals : List V → List Value → Prop := Paired RelV
theorem Vals.length {xs : List V} {us : List Value} (r : Vals xs us) : xs.length = us.length := Paired.length r
theorem Vals.get : ∀ {xs : List V} {us : List Value} {i : Nat} {x : V}, Vals xs us → xs[i]? = some x → ∃ u, us[i]? = some u ∧ RelV x u
  | _, _, _, _, .nil, e => by simp at e
  | _, _, 0, _, .cons r _, e => by simp at e; subst e; exact ⟨_, rfl, r⟩
  | _, _, i + 1, x, .cons _ t, e => by
    obtain ⟨u, h1, h2⟩ := Vals.get (i := i) (x := x) t (by simpa using e)
    exact ⟨u, by simpa using h1, h2⟩
theorem Vals.append : ∀ {xs ys : List V} {us ws : List Value}, Vals xs us → Vals ys ws → Vals (xs ++ ys) (us ++ ws)
  | _, _, _, _, .nil, s => s
  | _, _, _, _, .cons r t, s => .cons r (Vals.append t s)
theorem Vals.take : ∀ {xs : List V} {us : List Value} (n : Nat), Vals xs us → Vals (xs.take n) (us.take n)
  | _, _, 0, _ => .nil
  | _, _, _ + 1, .nil => .nil
  | _, _, n + 1, .cons r t => .cons r (Vals.take n t)
theorem Vals.drop : ∀ {xs : List V} {us : List Value} (n : Nat), Vals xs us → Vals (xs.drop n) (us.drop n)
  | _, _, 0, r => r
  | _, _, _ + 1, .nil => .nil
  | _, _, n + 1, .cons _ t => Vals.drop n t
def RelO : Option V → Option Value → Prop
  | some v, some u => RelV v u
  | none, none => True
  | _, _ => False
def KV {κ : Type} : List (κ × V) → List (κ × Value) → Prop := Paired fun (p : κ × V) (q : κ × Value) => p.1 = q.1 ∧ RelV p.2 q.2
def kV : Key → V
  | .inl i => .int i
  | .inr x => .str x
inductive HO where
  /-- a list -/
  | lst (xs : List V)
  /-- a tuple (never changes) -/
  | tup (xs : List V)
  /-- a dict whose keys are ints and texts; one whose keys are tuples of ints and texts (the empty one is both) -/
  | dK (kvs : List (Key × V)) | dT (kvs : List (List Key × V))
  /-- a set of ints: its members, its size -/
  | set (S : Int → Bool) (n : Nat)
  /-- an instance of the class at C, its dict at dx, its attributes -/
  | ins (C dx : Addr) (fs : List (Str × V))
  /-- the dict of the instance at x -/
  | own (x : Addr)
  /-- the dict of an exception -/
  | xd (fs : List (Str × V))
  /-- a bound method, f of x -/
  | met (f x : Addr)
  /-- a range object lo, lo + 1, .. below hi -/
  | rng (lo hi : Int)
  /-- a thing that is known to the object (the script; a dict while a loop walks it): read, never written while it is so -/
  | frz (o : Obj) (u : HO)
  /-- a code object's table -/
  | tbl (ps : Array Value)
  /-- any other thing, by what is true of its one object (a def of one's own: SetO a S n := HO.ext fun h => ..) -/
  | ext (φ : Heap → Prop)
abbrev Hp := Addr → Option HO
def upd (H : Hp) (a : Addr) (o : HO) : Hp := fun b => if b = a then some o else H b
theorem upd_same {H : Hp} {a : Addr} {o : HO} : upd H a o a = some o := by unfold upd; rw [if_pos rfl]
theorem upd_ne {H : Hp} {a b : Addr} {o : HO} (h : b ≠ a) : upd H a o b = H b := by unfold upd; rw [if_neg h]
theorem ne_of {H : Hp} {a b : Addr} {o u : HO} (h : H a = some o) (h' : H b = some u) (d : o ≠ u) : a ≠ b := by
  intro e; subst e; rw [h] at h'; exact d (Option.some.inj h')
theorem ne_of_none {H : Hp} {a b : Addr} {o : HO} (h : H a = some o) (h' : H b = none) : a ≠ b := by
  intro e; subst e; rw [h] at h'; cases h'
section
variable (P : Program) (w : World)
def ObjOk (H : Hp) (h : Heap) (a : Addr) : HO → Prop
  | .lst xs => xs.length ≤ sizeLine ∧ ∃ (its : List Value) (n : Nat), Vals xs its ∧ h.get? a = some { cls := .type "list", data := .seq its.toArray n }
  | .tup xs => xs.length ≤ sizeLine ∧ ∃ its : List Value, Vals xs its ∧ IsTup h a its.toArray
  | .dK kvs => kvs.length ≤ sizeLine ∧ (a == sysModules) = false ∧ ∃ vs, KV kvs vs ∧ h.DictOf (mixKind P w) a vs
  | .dT kvs => kvs.length ≤ sizeLine ∧ (a == sysModules) = false ∧ ∃ xs : List (List Key × Addr × Value),
      Paired (fun (p : List Key × V) (q : List Key × Addr × Value) => p.1 = q.1 ∧ H q.2.1 = some (.tup (p.1.map kV)) ∧ RelV p.2 q.2.2) kvs xs ∧
      ∃ o es ep, h.get? a = some o ∧ o.ExactDict ∧ o.data = .dict es ep ∧ es.toList = xs.map (entryOfKey (tupleKind (mixKind P w))) ∧ (xs.map (·.1)).Nodup
  | .set S n => h.SetOf (intKind P w) a S n
  | .ins C dx fs => H dx = some (.own a) ∧ fs.length ≤ 1000 ∧ dx ≠ a ∧ h.get? a = some (PySem.W.instObj C dx) ∧
      ∃ mA, h.Ns1 dx mA ∧ (∀ f, RelO (fs.lookup f) (mA f)) ∧ PySem.Within mA (fs.map (·.1))
  | .own _ => ∃ o, h.get? a = some o
  | .xd fs => ∃ mA, h.Ns1 a mA ∧ ∀ f, RelO (fs.lookup f) (mA f)
  | .rng lo hi => ∃ t u v, h.get? a = some { cls := .type "range", data := .fields #[.int lo t, .int hi u, .int 1 v] }
  | .frz o u => h.get? a = some o ∧ ObjOk H h a u
  | .tbl ps => h.get? a = some { cls := .none, data := .fields ps }
  | .met f x => h.get? a = some (PySem.W.methodObj (.ref f) (.ref x))
  | .ext φ => φ h ∧ (∃ o, h.get? a = some o) ∧ ∀ h1 h2 : Heap, φ h1 → (∀ o, h1.get? a = some o → h2.get? a = some o) → φ h2
def HOk (H : Hp) (h : Heap) : Prop := ∀ a o, H a = some o → ObjOk P w H h a o
end
section
variable {P : Program} {w : World} {H H' : Hp} {h h' : Heap} {a : Addr} {o : HO}
theorem ObjOk.lt (x : ObjOk P w H h a o) : a < h.objs.size := by
  cases o with
  | lst xs => obtain ⟨_, _, _, _, e⟩ := x; exact Heap.lt_size e
  | tup xs => obtain ⟨_, _, _, p⟩ := x; exact p.lt
  | dK kvs => obtain ⟨_, _, _, _, o, _, _, e, _⟩ := x; exact Heap.lt_size e
  | dT kvs => obtain ⟨_, _, _, _, o, _, _, e, _⟩ := x; exact Heap.lt_size e
  | set S n => obtain ⟨o, _, _, _, e, _⟩ := x; exact Heap.lt_size e
  | ins C dx fs => obtain ⟨_, _, _, e, _⟩ := x; exact Heap.lt_size e
  | own y => obtain ⟨_, e⟩ := x; exact Heap.lt_size e
  | xd fs => obtain ⟨_, ⟨_, _, _, e, _⟩, _⟩ := x; exact Heap.lt_size e
  | rng lo hi => obtain ⟨_, _, _, e⟩ := x; exact Heap.lt_size e
  | frz ob u => obtain ⟨e, _⟩ := x; exact Heap.lt_size e
  | tbl ps => exact Heap.lt_size (show h.get? a = some _ from x)
  | met f y => exact Heap.lt_size (show h.get? a = some _ from x)
  | ext φ => obtain ⟨_, ⟨_, e⟩, _⟩ := x; exact Heap.lt_size e
theorem Paired.mapP {α β : Type} {F G : α → β → Prop} : ∀ {l₁ : List α} {l₂ : List β}, Paired F l₁ l₂ → (∀ a b, F a b → G a b) → Paired G l₁ l₂
  | _, _, .nil, _ => .nil
  | _, _, .cons r t, f => .cons (f _ _ r) (Paired.mapP t f)
theorem ObjOk.stay (x : ObjOk P w H h a o) (k : ∀ b u, (b = a ∨ H b = some (.own a)) → h.get? b = some u → h'.get? b = some u)
    (ho : ∀ b, H b = some (.own a) → H' b = some (.own a)) (ht : ∀ b xs, H b = some (.tup xs) → H' b = some (.tup xs)) : ObjOk P w H' h' a o := by
  induction o with
  | lst xs => obtain ⟨z, its, n, r, e⟩ := x; exact ⟨z, its, n, r, k _ _ (.inl rfl) e⟩
  | tup xs => obtain ⟨z, its, r, ob, e, c⟩ := x; exact ⟨z, its, r, ob, k _ _ (.inl rfl) e, c⟩
  | dK kvs => obtain ⟨z, y, vs, r, ob, es, ep, e, c⟩ := x; exact ⟨z, y, vs, r, ob, es, ep, k _ _ (.inl rfl) e, c⟩
  | dT kvs =>
    obtain ⟨z, y, xs, r, ob, es, ep, e, c⟩ := x
    exact ⟨z, y, xs, Paired.mapP r fun p q z => ⟨z.1, ht _ _ z.2.1, z.2.2⟩, ob, es, ep, k _ _ (.inl rfl) e, c⟩
  | set S n => obtain ⟨ob, es, ep, t, e, c⟩ := x; exact ⟨ob, es, ep, t, k _ _ (.inl rfl) e, c⟩
  | ins C dx fs =>
    obtain ⟨d, z, ne, e, mA, ⟨od, es, ep, e2, c⟩, r⟩ := x
    exact ⟨ho _ d, z, ne, k _ _ (.inl rfl) e, mA, ⟨od, es, ep, k _ _ (.inr d) e2, c⟩, r⟩
  | own y => obtain ⟨ob, e⟩ := x; exact ⟨ob, k _ _ (.inl rfl) e⟩
  | xd fs => obtain ⟨mA, ⟨od, es, ep, e, c⟩, r⟩ := x; exact ⟨mA, ⟨od, es, ep, k _ _ (.inl rfl) e, c⟩, r⟩
  | rng lo hi => obtain ⟨t, u, v, e⟩ := x; exact ⟨t, u, v, k _ _ (.inl rfl) e⟩
  | frz ob u ih => obtain ⟨e, q⟩ := x; exact ⟨k _ _ (.inl rfl) e, ih q⟩
  | tbl ps =>
    have e : h.get? a = some { cls := .none, data := .fields ps } := x
    show h'.get? a = some { cls := .none, data := .fields ps }
    exact k a _ (.inl rfl) e
  | met f y =>
    have e : h.get? a = some (PySem.W.methodObj (.ref f) (.ref y)) := x
    show h'.get? a = some (PySem.W.methodObj (.ref f) (.ref y))
    exact k a _ (.inl rfl) e
  | ext φ => obtain ⟨p, ⟨o, e⟩, st⟩ := x; exact ⟨st _ _ p fun o q => k _ _ (.inl rfl) q, ⟨o, k _ _ (.inl rfl) e⟩, st⟩
theorem HOk.lt (x : HOk P w H h) (e : H a = some o) : a < h.objs.size := (x a o e).lt
theorem HOk.fresh (x : HOk P w H h) (e : h.objs.size ≤ a) : H a = none := by
  cases q : H a with
  | none => rfl
  | some u => exact absurd (Nat.lt_of_lt_of_le (x.lt q) e) (Nat.lt_irrefl _)
theorem HOk.kept (x : HOk P w H h) (k : ∀ b u, h.get? b = some u → h'.get? b = some u) : HOk P w H h' := fun a o e =>
  (x a o e).stay (fun b u _ q => k b u q) (fun _ q => q) fun _ _ q => q
theorem HOk.laid (x : HOk P w H h) (k : ∀ b u, h.get? b = some u → h'.get? b = some u) (hp : h.objs.size ≤ a) (new : ObjOk P w (upd H a o) h' a o) : HOk P w (upd H a o) h' := fun b u e => by
  have hn := x.fresh hp
  by_cases hb : b = a
  · subst hb; rw [upd_same] at e; cases e; exact new
  · rw [upd_ne hb] at e
    exact (x b u e).stay (fun c v _ q => k c v q) (fun c q => by rw [upd_ne (ne_of_none q hn)]; exact q) fun c xs q => by rw [upd_ne (ne_of_none q hn)]; exact q
end
def Rd (H : Hp) (a : Addr) (u : HO) : Prop := H a = some u ∨ ∃ o, H a = some (.frz o u)
theorem Rd.ok {P : Program} {w : World} {H : Hp} {h : Heap} {a : Addr} {u : HO} (r : Rd H a u) (x : HOk P w H h) : ObjOk P w H h a u := by
  rcases r with r | ⟨o, r⟩
  · exact x a u r
  · obtain ⟨_, q⟩ := x a _ r
    exact q
def Mut : Option HO → Prop
  | some (.lst _) => True
  | some (.dK _) => True
  | some (.dT _) => True
  | some (.set _ _) => True
  | some (.ins _ _ _) => True
  | some (.ext _) => True
  | _ => False
section
variable {P : Program} {w : World} {H : Hp} {h h' : Heap} {x e : Addr} {o' : HO}
theorem HOk.write (ok : HOk P w H h) (mu : Mut (H x)) (he : e = x ∨ H e = some (.own x)) (k : ∀ b u, b ≠ e → h.get? b = some u → h'.get? b = some u) (heo : ∃ u, h'.get? e = some u)
    (new : ObjOk P w (upd H x o') h' x o') : HOk P w (upd H x o') h' := fun b u q => by
  have nown : ∀ c y, H c = some (.own y) → c ≠ x := fun c y r z => by subst z; rw [r] at mu; exact mu
  have ntup : ∀ c xs, H c = some (.tup xs) → c ≠ x := fun c xs r z => by subst z; rw [r] at mu; exact mu
  by_cases hb : b = x
  · subst hb; rw [upd_same] at q; cases q; exact new
  · rw [upd_ne hb] at q
    by_cases hbe : b = e
    · have q' : H b = some (.own x) := by
        rcases he with z | z
        · exact absurd (hbe.trans z) hb
        · rw [hbe]; exact z
      rw [q] at q'; cases q'
      obtain ⟨v, hv⟩ := heo
      exact ⟨v, by rw [hbe]; exact hv⟩
    · refine (ok b u q).stay (fun c v hc r => k c v ?_ r) (fun c r => by rw [upd_ne (nown c b r)]; exact r) fun c xs r => by rw [upd_ne (ntup c xs r)]; exact r
      rcases hc with rfl | hc
      · exact hbe
      · rintro rfl
        rcases he with z | z
        · exact nown c b hc z
        · rw [hc] at z; cases z; exact hb rfl
end
structure Un (fs ex : List Addr) (H H' : Hp) (h h' : Heap) : Prop where
  keep : ∀ b o, h.get? b = some o → H b = none → b ∉ fs → b ∉ ex → h'.get? b = some o
  slot : ∀ b o, h.get? b = some o → H b = none → b ∈ fs → b ∉ ex → ∃ sl, h'.get? b = some { o with slots := sl }
  free : ∀ b o, h.get? b = some o → H b = none → b ∉ ex → H' b = none
  there : ∀ b o, h.get? b = some o → b ∉ ex → ∃ o', h'.get? b = some o'
  tups : ∀ b xs, H b = some (.tup xs) → H' b = some (.tup xs)
  frzs : ∀ b o u, H b = some (.frz o u) → H' b = some (.frz o u)
  tbls : ∀ b ps, H b = some (.tbl ps) → ∃ more, H' b = some (.tbl (ps ++ more))
section
variable {fs fs' ex ex' : List Addr} {H H1 H2 : Hp} {h h1 h2 h' : Heap} {a x e : Addr} {o : HO}
theorem Un.any (u : Un fs ex H H1 h h1) {b : Addr} {ob : Obj} (q : h.get? b = some ob) (n : H b = none) (hx : b ∉ ex) : ∃ sl, h1.get? b = some { ob with slots := sl } := by
  by_cases hb : b ∈ fs
  · exact u.slot b ob q n hb hx
  · exact ⟨ob.slots, u.keep b ob q n hb hx⟩
theorem Un.kept (k : ∀ b u, h.get? b = some u → h'.get? b = some u) : Un fs ex H H h h' :=
  ⟨fun b ob q _ _ _ => k b ob q, fun b ob q _ _ _ => ⟨ob.slots, k b ob q⟩, fun _ _ _ n _ => n, fun b ob q _ => ⟨ob, k b ob q⟩, fun _ _ q => q, fun _ _ _ q => q, fun _ ps q => ⟨#[], by rw [q]; simp⟩⟩
theorem Un.refl : Un fs ex H H h h := Un.kept fun _ _ q => q
theorem Un.laid (k : ∀ b u, h.get? b = some u → h'.get? b = some u) (hp : h.objs.size ≤ a) (hn : H a = none) : Un fs ex H (upd H a o) h h' where
  keep := fun b u q _ _ _ => k b u q
  slot := fun b u q _ _ _ => ⟨u.slots, k b u q⟩
  free := fun b u q n _ => by rw [upd_ne (Nat.ne_of_lt (Nat.lt_of_lt_of_le (Heap.lt_size q) hp))]; exact n
  there := fun b u q _ => ⟨u, k b u q⟩
  tups := fun b xs q => by rw [upd_ne (ne_of_none q hn)]; exact q
  frzs := fun b u xs q => by rw [upd_ne (ne_of_none q hn)]; exact q
  tbls := fun b ps q => ⟨#[], by rw [upd_ne (ne_of_none q hn), q]; simp⟩
theorem Un.write (mu : Mut (H x)) (he : e = x ∨ H e = some (.own x)) (k : ∀ b u, b ≠ e → h.get? b = some u → h'.get? b = some u) (heo : ∃ u, h'.get? e = some u) : Un fs ex H (upd H x o) h h' := by
  have hx : ∀ b, H b = none → b ≠ x := fun b n z => by subst z; rw [n] at mu; exact mu
  have hb : ∀ b, H b = none → b ≠ e := fun b n z => by
    subst z
    rcases he with r | r
    · exact hx b n r
    · rw [n] at r; cases r
  have hm : ∀ b u, H b = some u → ¬ Mut (some u) → b ≠ x := fun b u q nm z => by subst z; rw [q] at mu; exact nm mu
  refine ⟨fun b u q n _ _ => k b u (hb b n) q, fun b u q n _ _ => ⟨u.slots, k b u (hb b n) q⟩, fun b u q n _ => by rw [upd_ne (hx b n)]; exact n, fun b u q _ => ?_,
    fun b xs q => by rw [upd_ne (hm b _ q fun z => z)]; exact q, fun b u xs q => by rw [upd_ne (hm b _ q fun z => z)]; exact q, fun b ps q => ⟨#[], by rw [upd_ne (hm b _ q fun z => z), q]; simp⟩⟩
  by_cases hbe : b = e
  · subst hbe; exact heo
  · exact ⟨u, k b u hbe q⟩
end
def trk (h : Heap) (H : Hp) : List Addr := (List.range h.objs.size).filter fun a => (H a).isSome
def hidT (h : Heap) (H : Hp) : Heap := PySem.W.hideAll h (trk h H)
theorem hidT_size (h : Heap) (H : Hp) : (hidT h H).objs.size = h.objs.size := PySem.W.hideAll_size _ _
theorem hidT_get {h : Heap} {H : Hp} {b : Addr} {o : Obj} (e : h.get? b = some o) (n : H b = none) : (hidT h H).get? b = some o :=
  PySem.W.hideAll_get _ e fun hm => by
    have q : (H b).isSome = true := (List.mem_filter.mp hm).2
    rw [n] at q; simp at q
theorem of_hidT {h : Heap} {H : Hp} {b : Addr} {o : Obj} (e : (hidT h H).get? b = some o) : h.get? b = some o ∧ H b = none := by
  have e' : h.get? b = some o := PySem.W.of_hideAll (trk h H) e
  refine ⟨e', ?_⟩
  cases q : H b with
  | none => rfl
  | some x =>
    have hm : b ∈ trk h H := List.mem_filter.mpr ⟨List.mem_range.mpr (Heap.lt_size e'), by simp [q]⟩
    have z : (hidT h H).get? b = none := PySem.W.hideAll_none (trk h H) hm
    rw [z] at e; cases e
def allNews (g h : Heap) (L : Addr) : List (Addr × Obj) := (List.range h.objs.size).filterMap fun a => if a = L ∨ (g.get? a).isSome = true then none else (h.get? a).map fun o => (a, o)
def rest (g h : Heap) (L d : Addr) : List (Addr × Obj) := (allNews g h L).filter fun p => decide (p.1 ≠ d)
end L2
namespace L2
open PySem PySem.Spec PyProof.Rows
structure Mod (K : PySem.W.Frag) (mg : Str → Option Value) (base : Heap) : Prop where
  kin : K.In base
  glob : base.Ns mainGlobals mg
  blt : ∃ mb, base.Ns builtinsNs mb ∧ ∀ x : Str, x ≠ "__name__" → mb x = bootBuiltins x
  nolimit : base.NoLimit
structure Cx where
  prog : Program
  w : World
  K : PySem.W.Frag
  mg : Str → Option Value
  base : Heap
  A : Around
  N : List Str
  s₀ : Shared
  H₀ : Hp
  env : Env
  outer : List Env
  stack : List Env
  ex : List Addr
  fn : Str → Bool
  calm : Bool
  pn : List (Addr × Obj)
  xe : Value → Shared → Prop
def frs (l : List Env) : List Addr := l.filterMap (·.frame)
abbrev Cx.fs (X : Cx) : List Addr := frs X.outer
def Vis (sc : Scope) (x : Str) : Prop := sc.names.lookup x = some .local ∨ sc.names.lookup x = some .cell ∨ sc.names.lookup x = some .free
def Loc (sc : Scope) (x : Str) : Prop := sc.names.lookup x = some .local ∨ sc.names.lookup x = some .cell
def Look (env : Env) (h : Heap) (m : Str → Option Value) (x : Str) (u : Value) : Prop :=
  (env.kindOf x = some .local ∧ m x = some u) ∨ ((env.kindOf x = some .cell ∨ env.kindOf x = some .free) ∧ ∃ c, env.cells.lookup x = some c ∧ h.IsCell c (some u))
structure Cx.Ok (X : Cx) : Prop where
  mod : Mod X.K X.mg X.base
  kind : X.env.scope.kind = .function
  glob : X.env.globals = mainGlobals
  blt : X.env.builtins = builtinsNs
  above : X.s₀.heap.objs.size ≤ X.env.locals
  inj : ∀ x y c, X.env.cells.lookup x = some c → X.env.cells.lookup y = some c → x = y
  has : ∀ x, (X.env.kindOf x = some .cell ∨ X.env.kindOf x = some .free) → ∃ c, X.env.cells.lookup x = some c
  cab : ∀ x c, X.fn x = true → X.env.cells.lookup x = some c → X.s₀.heap.objs.size ≤ c
  hd : X.calm = true → X.A.handled = none
  frames : X.A.frames = some X.stack
  stk : X.stack = X.outer ∨ (X.stack = X.env :: X.outer ∧ X.env.frame = some X.env.locals)
  exf : ∀ b ∈ X.ex, b ≠ X.env.locals ∧ ∀ x c, X.env.cells.lookup x = some c → c ≠ b
  bs : ∀ b o, X.base.get? b = some o → X.s₀.heap.get? b = some o ∧ X.H₀ b = none
  bsz : X.base.objs.size ≤ X.s₀.heap.objs.size
  noex : ∀ b o, X.base.get? b = some o → b ∉ X.ex
  exfs : ∀ b ∈ X.ex, b ∉ X.fs
  funs : X.s₀.heap.FunFrames X.base X.outer
  frf : ∀ b ∈ X.fs, X.H₀ b = none
structure Inv (X : Cx) (pins : List (Addr × Obj)) (σ : List (Option V)) (H : Hp) (s : Shared) : Prop where
  ok : X.Ok
  os : s.os = X.s₀.os
  bare : AllBare s.gens
  base : Un X.fs X.ex X.H₀ H X.s₀.heap s.heap
  loc : ∃ m, s.heap.Ns X.env.locals m ∧ ∀ (i : Nat) (x : Str) (v : V), X.N[i]? = some x → σ[i]? = some (some v) → Vis X.env.scope x → ∃ u, RelV v u ∧ Look X.env s.heap m x u
  cell : ∀ x c, X.env.cells.lookup x = some c → ∃ v, s.heap.IsCell c v
  free : H X.env.locals = none
  freeC : ∀ x c, X.env.cells.lookup x = some c → H c = none
  pin : ∀ p ∈ X.pn ++ pins, s.heap.get? p.1 = some p.2 ∧ H p.1 = none ∧ p.1 ≠ X.env.locals ∧ p.1 ∉ X.fs ∧ ∀ v, p.2.data ≠ .cell v
  hok : HOk X.prog X.w H s.heap
  len : σ.length = X.N.length
section
variable {X : Cx} {pins : List (Addr × Obj)} {σ : List (Option V)} {H H' : Hp} {s : Shared} {h' : Heap}
theorem Cx.Ok.nofr (ok : X.Ok) {b : Addr} {o : Obj} (e : X.base.get? b = some o) : b ∉ X.fs := fun hb => by
  have := (ok.funs.mem hb).1
  rw [e] at this; cases this
theorem Inv.bs (I : Inv X pins σ H s) : ∀ b o, X.base.get? b = some o → s.heap.get? b = some o ∧ H b = none := fun b o e =>
  ⟨I.base.keep b o (I.ok.bs b o e).1 (I.ok.bs b o e).2 (I.ok.nofr e) (I.ok.noex b o e), I.base.free b o (I.ok.bs b o e).1 (I.ok.bs b o e).2 (I.ok.noex b o e)⟩
theorem Inv.bk (I : Inv X pins σ H s) : ∀ b o, X.base.get? b = some o → s.heap.get? b = some o := fun b o e => (I.bs b o e).1
theorem Inv.mod (I : Inv X pins σ H s) : Mod X.K X.mg X.base := I.ok.mod
theorem Inv.kIn (I : Inv X pins σ H s) : X.K.In s.heap := I.ok.mod.kin.keeps I.bk
theorem Inv.lt (I : Inv X pins σ H s) : X.env.locals < s.heap.objs.size := let ⟨_, hn, _⟩ := I.loc; hn.lt
theorem Inv.sz (I : Inv X pins σ H s) : X.s₀.heap.objs.size ≤ s.heap.objs.size := Nat.le_trans I.ok.above (Nat.le_of_lt I.lt)
theorem Inv.nofs (I : Inv X pins σ H s) {a : Addr} (h : s.heap.objs.size ≤ a) : a ∉ X.fs := fun hb => by
  obtain ⟨_, o, ho, _⟩ := I.ok.funs.mem hb
  exact absurd (Nat.lt_of_lt_of_le (Heap.lt_size ho) (Nat.le_trans I.sz h)) (Nat.lt_irrefl _)
theorem Inv.cne (I : Inv X pins σ H s) : ∀ x c, X.env.cells.lookup x = some c → c ≠ X.env.locals := fun x c e z => by
  obtain ⟨v, o, ho, hd⟩ := I.cell x c e
  obtain ⟨m, ⟨o', es, ep, ho', hd', _⟩, _⟩ := I.loc
  rw [z, ho'] at ho; cases ho; rw [hd'] at hd; cases hd
theorem Inv.funs (I : Inv X pins σ H s) : s.heap.FunFrames X.base X.outer := by
  have all : ∀ (l : List Env), (∀ b ∈ frs l, b ∈ X.fs) → X.s₀.heap.FunFrames X.base l → s.heap.FunFrames X.base l := by
    intro l
    induction l with
    | nil => intro _ _; trivial
    | cons env r ih =>
      intro hs hl
      obtain ⟨hk, ⟨L, o, hf, hn, ho, hd⟩, hr⟩ := hl
      have hL : L ∈ X.fs := hs L (by unfold frs; rw [List.filterMap_cons, hf]; exact List.mem_cons_self)
      obtain ⟨sl, e⟩ := I.base.slot L o ho (I.ok.frf L hL) hL fun z => I.ok.exfs L z hL
      exact ⟨hk, ⟨L, _, hf, hn, e, hd⟩, ih (fun b hb => hs b (by unfold frs; rw [List.filterMap_cons, hf]; exact List.mem_cons_of_mem _ hb)) hr⟩
  exact all X.outer (fun _ hb => hb) I.ok.funs
theorem Inv.stack (I : Inv X pins σ H s) : s.heap.FunFrames X.base X.stack := by
  rcases I.ok.stk with e | ⟨e, hf⟩
  · rw [e]; exact I.funs
  · rw [e]
    obtain ⟨m, hn, _⟩ := I.loc
    refine .cons (by rw [I.ok.kind]; decide) hf hn ?_ I.funs
    exact Heap.get?_none_of_le (Nat.le_trans I.ok.bsz I.ok.above)
theorem Inv.stkSub (I : Inv X pins σ H s) : ∀ b ∈ frs X.stack, b ∈ X.env.locals :: X.fs := fun b hb => by
  rcases I.ok.stk with e | ⟨e, hf⟩
  · rw [e] at hb; exact List.mem_cons_of_mem _ hb
  · rw [e] at hb
    unfold frs at hb
    rw [List.filterMap_cons, hf] at hb
    exact hb
theorem Inv.stkFree (I : Inv X pins σ H s) : ∀ b ∈ frs X.stack, H b = none := fun b hb => by
  rcases List.mem_cons.mp (I.stkSub b hb) with e | hb
  · rw [e]; exact I.free
  · obtain ⟨_, o, ho, _⟩ := I.ok.funs.mem hb
    exact I.base.free b o ho (I.ok.frf b hb) fun z => I.ok.exfs b z hb
theorem Inv.step {g' : Array GenState} {t' : Nat} {d' : Drawn} {ch : List Addr} (I : Inv X pins σ H s)
    (hch : ∀ b ∈ ch, (b ∈ X.ex ∨ X.s₀.heap.objs.size ≤ b) ∧ b ≠ X.env.locals ∧ (∀ x c, X.env.cells.lookup x = some c → c ≠ b) ∧ ∀ p ∈ X.pn ++ pins, p.1 ≠ b)
    (keep : ∀ b o, b ≠ X.env.locals → b ∉ X.fs → b ∉ ch → s.heap.get? b = some o → H b = none → h'.get? b = some o)
    (slot : ∀ b o, b ≠ X.env.locals → b ∈ X.fs → b ∉ ch → s.heap.get? b = some o → H b = none → ∃ sl, h'.get? b = some { o with slots := sl }) (free : ∀ b o, b ∉ ch → s.heap.get? b = some o → H b = none → H' b = none)
    (there : ∀ b o, b ∉ ch → s.heap.get? b = some o → ∃ o', h'.get? b = some o')
    (tups : ∀ b xs, H b = some (.tup xs) → H' b = some (.tup xs)) (frzs : ∀ b o u, H b = some (.frz o u) → H' b = some (.frz o u)) (tbls : ∀ b ps, H b = some (.tbl ps) → ∃ more, H' b = some (.tbl (ps ++ more)))
    (ns : ∀ m, s.heap.Ns X.env.locals m → h'.Ns X.env.locals m) (hok : HOk X.prog X.w H' h') (hg : AllBare g') :
    Inv X pins σ H' { s with heap := h', gens := g', drawn := d', toks := t' } := by
  have neL : ∀ b o, X.s₀.heap.get? b = some o → b ≠ X.env.locals := fun b o e => Nat.ne_of_lt (Nat.lt_of_lt_of_le (Heap.lt_size e) I.ok.above)
  have neC : ∀ b o, X.s₀.heap.get? b = some o → b ∉ X.ex → b ∉ ch := fun b o e hx hb => by
    rcases (hch b hb).1 with z | z
    · exact hx z
    · exact absurd (Nat.lt_of_lt_of_le (Heap.lt_size e) z) (Nat.lt_irrefl _)
  have cellK : ∀ x c, X.env.cells.lookup x = some c → ∀ v, s.heap.IsCell c v → h'.IsCell c v := fun x c e v ⟨o, ho, hd⟩ => by
    have nch : c ∉ ch := fun z => (hch c z).2.2.1 x c e rfl
    by_cases hc : c ∈ X.fs
    · obtain ⟨sl, q⟩ := slot c o (I.cne x c e) hc nch ho (I.freeC x c e)
      exact ⟨_, q, hd⟩
    · exact ⟨o, keep c o (I.cne x c e) hc nch ho (I.freeC x c e), hd⟩
  refine ⟨I.ok, I.os, hg, ⟨fun b o e n hb hx => ?_, fun b o e n hb hx => ?_, fun b o e n hx => ?_, fun b o e hx => ?_, fun b xs e => tups b xs (I.base.tups b xs e), fun b o xs e => frzs b o xs (I.base.frzs b o xs e), fun b ps e => ?_⟩, ?_, fun x c e => ?_, ?_, fun x c e => ?_, fun p hp => ?_, hok, I.len⟩
  · exact keep b o (neL b o e) hb (neC b o e hx) (I.base.keep b o e n hb hx) (I.base.free b o e n hx)
  · obtain ⟨sl, e1⟩ := I.base.slot b o e n hb hx
    obtain ⟨sl', e2⟩ := slot b _ (neL b o e) hb (neC b o e hx) e1 (I.base.free b o e n hx)
    exact ⟨sl', e2⟩
  · obtain ⟨o', e1⟩ := I.base.there b o e hx
    exact free b o' (neC b o e hx) e1 (I.base.free b o e n hx)
  · obtain ⟨o', e1⟩ := I.base.there b o e hx
    exact there b o' (neC b o e hx) e1
  · obtain ⟨m1, e1⟩ := I.base.tbls b ps e
    obtain ⟨m2, e2⟩ := tbls b _ e1
    exact ⟨m1 ++ m2, by rw [e2, Array.append_assoc]⟩
  · obtain ⟨m, hn, hl⟩ := I.loc
    refine ⟨m, ns m hn, fun i x v e1 e2 e3 => ?_⟩
    obtain ⟨u, r, l⟩ := hl i x v e1 e2 e3
    refine ⟨u, r, ?_⟩
    rcases l with l | ⟨k, c, e, z⟩
    · exact .inl l
    · exact .inr ⟨k, c, e, cellK x c e _ z⟩
  · obtain ⟨v, z⟩ := I.cell x c e
    exact ⟨v, cellK x c e v z⟩
  · obtain ⟨m, ⟨o, _, _, ho, _⟩, _⟩ := I.loc
    exact free _ o (fun z => (hch _ z).2.1 rfl) ho I.free
  · obtain ⟨v, o, ho, hd⟩ := I.cell x c e
    exact free c o (fun z => (hch c z).2.2.1 x c e rfl) ho (I.freeC x c e)
  · obtain ⟨e, n, ne, nf, d⟩ := I.pin p hp
    have nch : p.1 ∉ ch := fun z => (hch p.1 z).2.2.2 p hp rfl
    exact ⟨keep p.1 p.2 ne nf nch e n, free p.1 p.2 nch e n, ne, nf, d⟩
theorem Inv.un {t' : Nat} (I : Inv X pins σ H s) (u : Un X.fs [] H H' s.heap h') (hok : HOk X.prog X.w H' h') : Inv X pins σ H' { s with heap := h', toks := t' } := by
  obtain ⟨m, ⟨o, es, ep, ho, r⟩, _⟩ := id I.loc
  obtain ⟨sl, hL⟩ := u.any ho I.free (by simp)
  exact I.step (g' := s.gens) (d' := s.drawn) (ch := []) (fun _ z => nomatch z) (fun b o _ hb _ e n => u.keep b o e n hb (by simp)) (fun b o _ hb _ e n => u.slot b o e n hb (by simp)) (fun b o _ e n => u.free b o e n (by simp)) (fun b o _ e => u.there b o e (by simp)) u.tups u.frzs u.tbls (fun m' hm => by
    obtain ⟨o', es', ep', ho', r'⟩ := hm
    rw [ho] at ho'; cases ho'
    exact ⟨_, es', ep', hL, r'⟩) hok I.bare
theorem Inv.call {g' : Array GenState} {t' : Nat} {d' : Drawn} {ch : List Addr} (I : Inv X pins σ H s) (u : Un (frs X.stack) ch H H' s.heap h') (hok : HOk X.prog X.w H' h') (hg : AllBare g')
    (hch : ∀ b ∈ ch, (b ∈ X.ex ∨ X.s₀.heap.objs.size ≤ b) ∧ b ≠ X.env.locals ∧ (∀ x c, X.env.cells.lookup x = some c → c ≠ b) ∧ ∀ p ∈ X.pn ++ pins, p.1 ≠ b) :
    Inv X pins σ H' { s with heap := h', gens := g', drawn := d', toks := t' } := by
  obtain ⟨m, ⟨o, es, ep, ho, r⟩, _⟩ := id I.loc
  obtain ⟨sl, hL⟩ := u.any ho I.free fun z => (hch _ z).2.1 rfl
  exact I.step (ch := ch) hch (fun b o hL hb hc e n => u.keep b o e n (fun z => (List.mem_cons.mp (I.stkSub b z)).elim hL hb) hc) (fun b o _ _ hc e n => u.any e n hc) (fun b o hc e n => u.free b o e n hc) (fun b o hc e => u.there b o e hc) u.tups u.frzs u.tbls (fun m' hm => by
    obtain ⟨o', es', ep', ho', r'⟩ := hm
    rw [ho] at ho'; cases ho'
    exact ⟨_, es', ep', hL, r'⟩) hok hg
theorem Inv.turned {t' : Nat} {it : Addr} (I : Inv X pins σ H s) (k : ∀ b o, b ≠ it → s.heap.get? b = some o → h'.get? b = some o) (hn : H it = none) (hL : it ≠ X.env.locals)
    (h1 : it ∈ X.ex ∨ X.s₀.heap.objs.size ≤ it) (h2 : ∀ x c, X.env.cells.lookup x = some c → c ≠ it) (h3 : ∀ p ∈ X.pn ++ pins, p.1 ≠ it) : Inv X pins σ H { s with heap := h', toks := t' } := by
  have nit : ∀ b u, H b = some u → b ≠ it := fun b u e z => by rw [z, hn] at e; cases e
  refine I.step (g' := s.gens) (d' := s.drawn) (ch := [it]) (fun b hb => ?_) (fun b o _ _ hc e _ => k b o (fun z => hc (by simp [z])) e) (fun b o _ _ hc e _ => ⟨o.slots, k b o (fun z => hc (by simp [z])) e⟩) (fun _ _ _ _ n => n)
    (fun b o hc e => ⟨o, k b o (fun z => hc (by simp [z])) e⟩) (fun _ _ e => e) (fun _ _ _ e => e) (fun b ps e => ⟨#[], by rw [e]; simp⟩) (fun m hm => ?_) (fun b u e => ?_) I.bare
  · have e : b = it := by simpa using hb
    subst e
    exact ⟨h1, hL, h2, h3⟩
  · obtain ⟨o, es, ep, ho, r⟩ := hm
    exact ⟨o, es, ep, k _ o (Ne.symm hL) ho, r⟩
  · refine (I.hok b u e).stay (fun c v hc q => k c v ?_ q) (fun _ q => q) fun _ _ q => q
    rcases hc with z | z
    · rw [z]; exact nit b u e
    · exact nit c _ z
theorem Inv.tok (I : Inv X pins σ H s) (t : Nat) : Inv X pins σ H { s with toks := t } := I.un (h' := s.heap) (t' := t) Un.refl I.hok
theorem Inv.kept {t' : Nat} (I : Inv X pins σ H s) (k : ∀ b u, s.heap.get? b = some u → h'.get? b = some u) : Inv X pins σ H { s with heap := h', toks := t' } := I.un (Un.kept k) (I.hok.kept k)
theorem Inv.laid {a : Addr} {o : HO} {t' : Nat} (I : Inv X pins σ H s) (k : ∀ b u, s.heap.get? b = some u → h'.get? b = some u) (hp : s.heap.objs.size ≤ a) (new : ObjOk X.prog X.w (upd H a o) h' a o) :
    Inv X pins σ (upd H a o) { s with heap := h', toks := t' } := I.un (Un.laid k hp (I.hok.fresh hp)) (I.hok.laid k hp new)
theorem Inv.write {x e : Addr} {o : HO} {t' : Nat} (I : Inv X pins σ H s) (mu : Mut (H x)) (he : e = x ∨ H e = some (.own x)) (k : ∀ b u, b ≠ e → s.heap.get? b = some u → h'.get? b = some u) (heo : ∃ u, h'.get? e = some u)
    (new : ObjOk X.prog X.w (upd H x o) h' x o) : Inv X pins σ (upd H x o) { s with heap := h', toks := t' } := I.un (Un.write mu he k heo) (I.hok.write mu he k heo new)
theorem Inv.weak {σ' : List (Option V)} (I : Inv X pins σ H s) (hl : σ'.length = σ.length) (w : ∀ (i : Nat) v, σ'[i]? = some (some v) → σ[i]? = some (some v)) : Inv X pins σ' H s :=
  ⟨I.ok, I.os, I.bare, I.base, let ⟨m, hn, hl'⟩ := I.loc; ⟨m, hn, fun i x v e1 e2 e3 => hl' i x v e1 (w i v e2) e3⟩, I.cell, I.free, I.freeC, I.pin, I.hok, hl.trans I.len⟩
theorem Inv.pins_of {pins' : List (Addr × Obj)} (I : Inv X pins σ H s) (h : ∀ p ∈ pins', s.heap.get? p.1 = some p.2 ∧ H p.1 = none ∧ p.1 ≠ X.env.locals ∧ p.1 ∉ X.fs ∧ ∀ v, p.2.data ≠ .cell v) : Inv X pins' σ H s :=
  ⟨I.ok, I.os, I.bare, I.base, I.loc, I.cell, I.free, I.freeC, fun p hp => (List.mem_append.mp hp).elim (fun z => I.pin p (List.mem_append_left _ z)) (h p), I.hok, I.len⟩
theorem nodup_ix {N : List Str} (hN : N.Nodup) {i j : Nat} {x : Str} (a : N[i]? = some x) (b : N[j]? = some x) : i = j := by
  obtain ⟨h1, e1⟩ := List.getElem?_eq_some_iff.mp a
  obtain ⟨h2, e2⟩ := List.getElem?_eq_some_iff.mp b
  exact (List.getElem_inj hN).mp (e1.trans e2.symm)
theorem store_ok2 {M : Model} {A : Around} {E : Value → Shared → Prop} {i : Nat} {x : Str} {v : V} {u : Value} {Q : Unit → Shared → Prop} (I : Inv X pins σ H s) (hN : X.N.Nodup) (hi : X.N[i]? = some x) (hx : Loc X.env.scope x) (r : RelV v u)
    (h : ∀ s', Inv X pins (σ.set i (some v)) H s' → (∃ a, Heap.SameBut a s.heap s'.heap ∧ (a = X.env.locals ∨ X.env.cells.lookup x = some a)) → Q () s') (hf : X.fn x = true ∨ X.env.scope.names.lookup x = some .local := by first | exact .inl rfl | exact .inr rfl | assumption) : wpAny M A (storeName X.env x u) Q E s := by
  obtain ⟨m, hn, hl⟩ := id I.loc
  have hcls : (X.env.scope.kind == .class || (X.env.scope.kind == .module && X.env.locals != X.env.globals)) = false := by rw [I.ok.kind]; rfl
  have hiσ : i < σ.length := by rw [I.len]; exact (List.getElem?_eq_some_iff.mp hi).1
  have cne := I.cne
  have tracked : ∀ {a : Addr} {h' : Heap}, (∃ o, s.heap.get? a = some o ∧ H a = none) → Heap.SameBut a s.heap h' → HOk X.prog X.w H h' := fun {a h'} ha hs b ob e => by
    obtain ⟨_, _, hfree⟩ := ha
    refine (I.hok b ob e).stay (fun c w' hc q => (hs.2 c ?_).trans q) (fun _ q => q) fun _ _ q => q
    rintro rfl
    rcases hc with rfl | hc
    · rw [hfree] at e; cases e
    · rw [hfree] at hc; cases hc
  rcases hx with hk | hk
  · refine wpAny_storeName_local hk hn (fun h' hn' hs => ?_) hcls
    obtain ⟨oL, _, _, hoL, _⟩ := id hn
    refine h _ ⟨I.ok, I.os, I.bare, ⟨fun b o e n hb hx => ?_, fun b o e n hb hx => ?_, I.base.free, fun b o e hx => ?_, I.base.tups, I.base.frzs, I.base.tbls⟩, ⟨_, hn', fun j y v' e1 e2 e3 => ?_⟩, fun y c e => ?_, I.free, I.freeC, fun p hp => ?_, tracked ⟨oL, hoL, I.free⟩ hs, by simpa using I.len⟩ ⟨_, hs, .inl rfl⟩
    · exact (hs.2 b (Nat.ne_of_lt (Nat.lt_of_lt_of_le (Heap.lt_size e) I.ok.above))).trans (I.base.keep b o e n hb hx)
    · obtain ⟨sl, e1⟩ := I.base.slot b o e n hb hx
      exact ⟨sl, (hs.2 b (Nat.ne_of_lt (Nat.lt_of_lt_of_le (Heap.lt_size e) I.ok.above))).trans e1⟩
    · obtain ⟨o', e1⟩ := I.base.there b o e hx
      exact ⟨o', (hs.2 b (Nat.ne_of_lt (Nat.lt_of_lt_of_le (Heap.lt_size e) I.ok.above))).trans e1⟩
    · by_cases hj : j = i
      · subst hj
        rw [hi] at e1; cases e1
        rw [List.getElem?_set_self hiσ] at e2
        cases e2
        exact ⟨u, r, .inl ⟨hk, by simp⟩⟩
      · rw [List.getElem?_set_ne (Ne.symm hj)] at e2
        obtain ⟨u', r', q⟩ := hl j y v' e1 e2 e3
        refine ⟨u', r', ?_⟩
        rcases q with ⟨k, e⟩ | ⟨k, c, e, z⟩
        · refine .inl ⟨k, ?_⟩
          have : y ≠ x := fun e => hj (nodup_ix hN e1 (e ▸ hi))
          simp [this, e]
        · exact .inr ⟨k, c, e, z.sameBut hs (cne y c e)⟩
    · obtain ⟨w', z⟩ := I.cell y c e
      exact ⟨w', z.sameBut hs (cne y c e)⟩
    · obtain ⟨e, n, ne, nf, d⟩ := I.pin p hp
      exact ⟨(hs.2 p.1 ne).trans e, n, ne, nf, d⟩
  · have hfn : X.fn x = true := by
      rcases hf with z | z
      · exact z
      · rw [z] at hk; cases hk
    obtain ⟨c, hc⟩ := I.ok.has x (.inl hk)
    obtain ⟨w', z⟩ := I.cell x c hc
    refine wpAny_storeName_cell I.ok.kind hk hc z (fun h' hc' hs => ?_)
    obtain ⟨oc, hoc, hocd⟩ := id z
    refine h { s with heap := h' } ⟨I.ok, I.os, I.bare, ⟨fun b o e n hb hx => ?_, fun b o e n hb hx => ?_, I.base.free, fun b o e hx => ?_, I.base.tups, I.base.frzs, I.base.tbls⟩, ⟨m, hn.sameBut hs (Ne.symm (cne x c hc)), fun j y v' e1 e2 e3 => ?_⟩, fun y c' e => ?_, I.free, I.freeC, fun p hp => ?_, tracked ⟨oc, hoc, I.freeC x c hc⟩ hs, by simpa using I.len⟩ ⟨c, hs, .inr hc⟩
    · exact (hs.2 b (Nat.ne_of_lt (Nat.lt_of_lt_of_le (Heap.lt_size e) (I.ok.cab x c hfn hc)))).trans (I.base.keep b o e n hb hx)
    · obtain ⟨sl, e1⟩ := I.base.slot b o e n hb hx
      exact ⟨sl, (hs.2 b (Nat.ne_of_lt (Nat.lt_of_lt_of_le (Heap.lt_size e) (I.ok.cab x c hfn hc)))).trans e1⟩
    · obtain ⟨o', e1⟩ := I.base.there b o e hx
      exact ⟨o', (hs.2 b (Nat.ne_of_lt (Nat.lt_of_lt_of_le (Heap.lt_size e) (I.ok.cab x c hfn hc)))).trans e1⟩
    · by_cases hj : j = i
      · subst hj
        rw [hi] at e1; cases e1
        rw [List.getElem?_set_self hiσ] at e2
        cases e2
        exact ⟨u, r, .inr ⟨.inl hk, c, hc, hc'⟩⟩
      · rw [List.getElem?_set_ne (Ne.symm hj)] at e2
        obtain ⟨u', r', q⟩ := hl j y v' e1 e2 e3
        refine ⟨u', r', ?_⟩
        rcases q with q | ⟨k, c', e, z'⟩
        · exact .inl q
        · refine .inr ⟨k, c', e, z'.sameBut hs ?_⟩
          rintro rfl
          exact hj (nodup_ix hN e1 (I.ok.inj _ _ _ e hc ▸ hi))
    · by_cases hcc : c' = c
      · subst hcc; exact ⟨_, hc'⟩
      · obtain ⟨w2, z2⟩ := I.cell y c' e
        exact ⟨w2, z2.sameBut hs hcc⟩
    · obtain ⟨e, n, ne, nf, d⟩ := I.pin p hp
      refine ⟨(hs.2 p.1 ?_).trans e, n, ne, nf, d⟩
      intro q
      rw [q, hoc] at e
      have q' : oc = p.2 := Option.some.inj e
      exact d w' (by rw [← q']; exact hocd)
theorem store_ok {M : Model} {A : Around} {E : Value → Shared → Prop} {i : Nat} {x : Str} {v : V} {u : Value} {Q : Unit → Shared → Prop} (I : Inv X pins σ H s) (hN : X.N.Nodup) (hi : X.N[i]? = some x) (hx : Loc X.env.scope x) (r : RelV v u)
    (h : ∀ s', Inv X pins (σ.set i (some v)) H s' → Q () s') (hf : X.fn x = true ∨ X.env.scope.names.lookup x = some .local := by first | exact .inl rfl | exact .inr rfl | assumption) : wpAny M A (storeName X.env x u) Q E s :=
  store_ok2 I hN hi hx r (fun s' I' _ => h s' I') hf
theorem Inv.call' {s' : Shared} {ch : List Addr} (I : Inv X pins σ H s) (ho : s'.os = s.os) (u : Un (frs X.stack) ch H H' s.heap s'.heap) (hok : HOk X.prog X.w H' s'.heap) (hg : AllBare s'.gens)
    (hch : ∀ b ∈ ch, (b ∈ X.ex ∨ X.s₀.heap.objs.size ≤ b) ∧ b ≠ X.env.locals ∧ (∀ x c, X.env.cells.lookup x = some c → c ≠ b) ∧ ∀ p ∈ X.pn ++ pins, p.1 ≠ b) : Inv X pins σ H' s' := by
  obtain ⟨h', g', d', t', o'⟩ := s'
  have e : o' = s.os := ho
  subst e
  exact I.call (g' := g') (t' := t') (d' := d') u hok hg hch
end
abbrev XK := Value → Option Addr → Hp → Prop
abbrev St := List (Option V)
abbrev VK := V → Hp → Prop
abbrev TE := St → Hp → VK → Prop
abbrev TT := St → Hp → (Bool → Hp → Prop) → Prop
abbrev TA := St → Hp → (List V → Hp → Prop) → Prop
structure Ends where
  nx : St → Hp → Prop
  rt : VK
  bk : St → Hp → Prop := fun _ _ => False
  ct : St → Hp → Prop := fun _ _ => False
abbrev TS := Ends → St → Hp → Prop
def EP (X : Cx) (pins : List (Addr × Obj)) (σ : St) (Q : VK) (u : Value) (s' : Shared) : Prop := ∃ v H', Inv X pins σ H' s' ∧ RelV v u ∧ Q v H'
def TP (X : Cx) (pins : List (Addr × Obj)) (σ : St) (Q : Bool → Hp → Prop) (b : Bool) (s' : Shared) : Prop := ∃ H', Inv X pins σ H' s' ∧ Q b H'
def AP (X : Cx) (pins : List (Addr × Obj)) (σ : St) (Q : List V → Hp → Prop) (us : List Value) (s' : Shared) : Prop := ∃ vs H', Inv X pins σ H' s' ∧ Vals vs us ∧ Q vs H'
def SP (X : Cx) (pins : List (Addr × Obj)) (D : Ends) (f : Flow) (s' : Shared) : Prop :=
  match f with
  | .next => ∃ σ' H', Inv X pins σ' H' s' ∧ D.nx σ' H'
  | .brk => ∃ σ' H', Inv X pins σ' H' s' ∧ D.bk σ' H'
  | .cont => ∃ σ' H', Inv X pins σ' H' s' ∧ D.ct σ' H'
  | .ret u => ∃ v σ' H', Inv X pins σ' H' s' ∧ RelV v u ∧ D.rt v H'
def PE (X : Cx) (e : Expr) (t : TE) : Prop :=
  ∀ (pins : List (Addr × Obj)) (s : Shared) (σ : St) (H : Hp) (Q : VK), Inv X pins σ H s → t σ H Q → wpAny (model X.prog X.w) X.A (eval e X.env) (EP X pins σ Q) X.xe s
def PT (X : Cx) (e : Expr) (t : TT) : Prop :=
  ∀ (pins : List (Addr × Obj)) (s : Shared) (σ : St) (H : Hp) (Q : Bool → Hp → Prop), Inv X pins σ H s → t σ H Q → wpAny (model X.prog X.w) X.A (isTrue e X.env (eval e X.env)) (TP X pins σ Q) X.xe s
def PW (X : Cx) (e : Expr) (t : TT) : Prop :=
  ∀ (whole : Sem Value) (pins : List (Addr × Obj)) (s : Shared) (σ : St) (H : Hp) (Q : Bool → Hp → Prop), Inv X pins σ H s → t σ H Q → wpAny (model X.prog X.w) X.A (isTrue e X.env whole) (TP X pins σ Q) X.xe s
theorem PW.pt {X : Cx} {e : Expr} {t : TT} (h : PW X e t) : PT X e t := h _
def PA (X : Cx) (es : List Expr) (t : TA) : Prop :=
  ∀ (pos : Pos) (pins : List (Addr × Obj)) (s : Shared) (σ : St) (H : Hp) (Q : List V → Hp → Prop), Inv X pins σ H s → t σ H Q → wpAny (model X.prog X.w) X.A (spliced (backTo pos (starEach es X.env))) (AP X pins σ Q) X.xe s
def PS (X : Cx) (st : Stmt) (t : TS) : Prop :=
  ∀ (pins : List (Addr × Obj)) (s : Shared) (σ : St) (H : Hp) (D : Ends), Inv X pins σ H s → t D σ H → wpAny (model X.prog X.w) X.A (exec st X.env) (SP X pins D) X.xe s
def PSs (X : Cx) (st : List Stmt) (t : TS) : Prop :=
  ∀ (pins : List (Addr × Obj)) (s : Shared) (σ : St) (H : Hp) (D : Ends), Inv X pins σ H s → t D σ H → wpAny (model X.prog X.w) X.A (execs st X.env) (SP X pins D) X.xe s
theorem thn {α : Type} {t : Sem α} {Q Q' : α → Shared → Prop} {M : Model} {A : Around} {E : Value → Shared → Prop} {s : Shared} (h : wpAny M A t Q E s) (hQ : ∀ a s, Q a s → Q' a s) : wpAny M A t Q' E s := wpAny_mono h hQ fun _ _ x => x
end L2
namespace L2
open PySem PySem.Spec PyProof.Rows
section
variable {X : Cx}
def tVar (i : Nat) : TE := fun σ H Q => ∃ v, σ[i]? = some (some v) ∧ Q v H
def tC (v : V) : TE := fun _ H Q => Q v H
theorem pe_var {i : Nat} {x : Str} {pos : Pos} (hN : X.N[i]? = some x) (hv : Vis X.env.scope x) (hd : (x == ("__debug__" : Str)) = false := by decide) (hcd : (x == ("__classdict__" : Str)) = false := by decide) : PE X (.Name x pos) (tVar i) := by
  intro pins s σ H Q I h
  obtain ⟨v, e, h⟩ := h
  obtain ⟨m, hn, hl⟩ := I.loc
  obtain ⟨u, r, l⟩ := hl i x v hN e hv
  have fin : EP X pins σ Q u s := ⟨v, H, I, r, h⟩
  rcases l with ⟨hk, hm⟩ | ⟨hk, c, hc, hcell⟩
  · exact wpAny_Name (wpAny_loadName_local I.ok.kind hk hn hm fin) hd
  · rcases hk with hk | hk
    · exact wpAny_Name (wpAny_loadName_cell I.ok.kind hk hc hcell fin) hd
    · exact wpAny_Name (wpAny_loadName_free I.ok.kind hk hc hcell fin hcd) hd
theorem pe_int {i j pos} : PE X (.Constant (.int i) j pos) (tC (.int i)) := fun _ _ _ H _ I h => wpAny_Constant_int ⟨.int i, H, I.tok _, ⟨_, rfl⟩, h⟩
theorem pe_bl {b j pos} : PE X (.Constant (.bool b) j pos) (tC (.bl b)) := fun _ _ _ H _ I h => Constant_bool ⟨.bl b, H, I, rfl, h⟩
theorem pe_non {j pos} : PE X (.Constant .none j pos) (tC .non) := fun _ _ _ H _ I h => Constant_none ⟨.non, H, I, rfl, h⟩
theorem pe_str {x j pos} : PE X (.Constant (.str x) j pos) (tC (.str x)) := fun _ _ _ H _ I h => Calls.Constant_str ⟨.str x, H, I.tok _, ⟨_, rfl⟩, h⟩
def Gl (X : Cx) (x : Str) : Prop := X.env.kindOf x = some .globalImplicit
theorem ld_glob {E : Value → Shared → Prop} {pins : List (Addr × Obj)} {s : Shared} {σ : St} {H : Hp} {x : Str} {u : Value} {pos : Pos} {Q : Value → Shared → Prop} (I : Inv X pins σ H s) (hg : Gl X x) (hm : X.mg x = some u) (h : Q u s)
    (hd : (x == ("__debug__" : Str)) = false := by decide) : wpAny (model X.prog X.w) X.A (eval (.Name x pos) X.env) Q E s :=
  Calls.Name_function_global I.ok.kind hg (Calls.loadGlobal_global (by rw [I.ok.glob]; exact I.mod.glob.keeps I.bk) hm h) hd
theorem ld_blt {E : Value → Shared → Prop} {pins : List (Addr × Obj)} {s : Shared} {σ : St} {H : Hp} {x : Str} {u : Value} {pos : Pos} {Q : Value → Shared → Prop} (I : Inv X pins σ H s) (hg : Gl X x) (hm : X.mg x = none) (hv : bootBuiltins x = some u) (h : Q u s)
    (hn : x ≠ "__name__" := by decide) (hd : (x == ("__debug__" : Str)) = false := by decide) : wpAny (model X.prog X.w) X.A (eval (.Name x pos) X.env) Q E s := by
  obtain ⟨mb, h1, h2⟩ := I.mod.blt
  exact Calls.Name_function_global I.ok.kind hg (Calls.loadGlobal_builtin (by rw [I.ok.glob]; exact I.mod.glob.keeps I.bk) hm (by rw [I.ok.blt]; exact h1.keeps I.bk) ((h2 x hn).trans hv) h) hd
theorem pe_glob {x : Str} {v : V} {u : Value} {pos : Pos} (hg : Gl X x) (hm : X.mg x = some u) (r : RelV v u) (hd : (x == ("__debug__" : Str)) = false := by decide) : PE X (.Name x pos) (tC v) :=
  fun _ _ _ H _ I h => ld_glob I hg hm ⟨v, H, I, r, h⟩ hd
theorem pe_bltn {x : Str} {v : V} {u : Value} {pos : Pos} (hg : Gl X x) (hm : X.mg x = none) (hv : bootBuiltins x = some u) (r : RelV v u) (hn : x ≠ "__name__" := by decide) (hd : (x == ("__debug__" : Str)) = false := by decide) : PE X (.Name x pos) (tC v) :=
  fun _ _ _ H _ I h => ld_blt I hg hm hv ⟨v, H, I, r, h⟩ hn hd
variable {a b : Expr} {ta tb : TE} {pos : Pos}
def PC (X : Cx) (op : CmpOp) (a b : Expr) (t : TE) : Prop :=
  ∀ (pins : List (Addr × Obj)) (s : Shared) (σ : St) (H : Hp) (Q : VK), Inv X pins σ H s → t σ H Q →
    wpAny (model X.prog X.w) X.A (eval a X.env) (fun v s₁ => wpAny (model X.prog X.w) X.A (eval b X.env) (fun u s₂ => wpAny (model X.prog X.w) X.A (compareOp op v u) (EP X pins σ Q) X.xe s₂) X.xe s₁) X.xe s
theorem nobehind (b : Expr) {op : CmpOp} (h : op ≠ .In) (h2 : op ≠ .NotIn) : behindInMarks op b = false := by
  have e1 : (op == CmpOp.In) = false := by cases op <;> first | rfl | exact absurd rfl h
  have e2 : (op == CmpOp.NotIn) = false := by cases op <;> first | rfl | exact absurd rfl h2
  cases b <;> simp [behindInMarks, e1, e2]
def tIsN (ta : TE) : TE := fun σ H Q => ta σ H fun x H1 => Q (.bl (decide (x = .non))) H1
def tNotN (ta : TE) : TE := fun σ H Q => ta σ H fun x H1 => Q (.bl (!decide (x = .non))) H1
theorem RelV.none_iff {x : V} {v : Value} (r : RelV x v) : (v == Value.none) = decide (x = .non) := by
  cases x with
  | non => cases r; rfl
  | bl _ => cases r; rfl
  | int _ => obtain ⟨t, rfl⟩ := r; rfl
  | str _ => obtain ⟨t, rfl⟩ := r; rfl
  | byt _ => obtain ⟨t, rfl⟩ := r; rfl
  | flt _ => obtain ⟨t, rfl⟩ := r; rfl
  | ref _ => cases r; rfl
  | ty _ => cases r; rfl
theorem pc_isN {j pos'} (ha : PE X a ta) : PC X .Is a (.Constant .none j pos') (tIsN ta) := by
  intro pins s σ H Q I h
  refine thn (ha pins s σ H _ I h) fun v s1 ⟨x, H1, I1, r1, q1⟩ => ?_
  exact Constant_none (is_none_gen ⟨.bl _, H1, I1, by rw [r1.none_iff]; rfl, q1⟩)
theorem pc_notN {j pos'} (ha : PE X a ta) : PC X .IsNot a (.Constant .none j pos') (tNotN ta) := by
  intro pins s σ H Q I h
  refine thn (ha pins s σ H _ I h) fun v s1 ⟨x, H1, I1, r1, q1⟩ => ?_
  exact Constant_none (isnot_none_gen ⟨.bl _, H1, I1, by rw [r1.none_iff]; rfl, q1⟩)
def tB (t : TE) : TT := fun σ H Q => t σ H fun x H1 => ∃ c, x = .bl c ∧ Q c H1
theorem pe_cmp {op : CmpOp} {t : TE} (h : PC X op a b t) (h1 : behindInMarks op b = false := by first | exact nobehind _ (by decide) (by decide) | rfl) : PE X (.Compare a [op] [b] pos) t := fun pins s σ H Q I hw => wpAny_Compare1 (h pins s σ H Q I hw) h1
theorem pt_cmp {op : CmpOp} {t : TE} (h : PC X op a b t) (h1 : behindInMarks op b = false := by first | exact nobehind _ (by decide) (by decide) | rfl) : PT X (.Compare a [op] [b] pos) (tB t) := by
  intro pins s σ H Q I hw
  refine wpAny_isTrue_Compare1 (thn (h pins s σ H _ I hw) fun v s1 h1 => thn h1 fun u s2 h2 => thn h2 fun c s3 ⟨x, H1, I1, r1, q1⟩ => ?_) h1
  obtain ⟨d, rfl, q⟩ := q1
  cases r1
  exact wpAny_truthy_bool ⟨H1, I1, q⟩
theorem pt_val {e : Expr} {t : TE} (h : PE X e t) (he : ∀ whole, isTrue e X.env whole = (do let v ← whole; standAt e.pos; holding [v] (truthy v)) := by intro _; rfl) : PT X e (tB t) := by
  intro pins s σ H Q I hw
  refine isTrue_plain (thn (h pins s σ H _ I hw) fun v s1 ⟨x, H1, I1, r1, q1⟩ => ?_) (he _)
  obtain ⟨d, rfl, q⟩ := q1
  cases r1
  exact wpAny_truthy_bool ⟨H1, I1, q⟩
variable {tA tB' : TT} {rest : List Expr}
def tAnd (t u : TT) : TT := fun σ H Q => t σ H fun c H1 => if c = true then u σ H1 Q else Q false H1
def tOr (t u : TT) : TT := fun σ H Q => t σ H fun c H1 => if c = true then Q true H1 else u σ H1 Q
def tNot (t : TT) : TT := fun σ H Q => t σ H fun c H1 => Q (!c) H1
theorem pw_and1 (ha : PT X a tA) : PW X (.BoolOp .And [a] pos) tA := by
  intro wh pins s σ H Q I h
  refine isTrue_and (thn (ha pins s σ H Q I h) fun c s1 e => ?_)
  cases c with
  | true => exact isTrue_and_nil e
  | false => exact e
theorem pw_or1 (ha : PT X a tA) : PW X (.BoolOp .Or [a] pos) tA := by
  intro wh pins s σ H Q I h
  refine isTrue_or (thn (ha pins s σ H Q I h) fun c s1 e => ?_)
  cases c with
  | false => exact isTrue_or_nil e
  | true => exact e
theorem pw_and (ha : PT X a tA) (hb : PW X (.BoolOp .And (b :: rest) pos) tB') : PW X (.BoolOp .And (a :: b :: rest) pos) (tAnd tA tB') := by
  intro wh pins s σ H Q I h
  refine isTrue_and (thn (ha pins s σ H _ I h) fun c s1 ⟨H1, I1, q1⟩ => ?_)
  cases c with
  | true => exact hb wh pins s1 σ H1 Q I1 q1
  | false => exact ⟨H1, I1, q1⟩
theorem pw_or (ha : PT X a tA) (hb : PW X (.BoolOp .Or (b :: rest) pos) tB') : PW X (.BoolOp .Or (a :: b :: rest) pos) (tOr tA tB') := by
  intro wh pins s σ H Q I h
  refine isTrue_or (thn (ha pins s σ H _ I h) fun c s1 ⟨H1, I1, q1⟩ => ?_)
  cases c with
  | true => exact ⟨H1, I1, q1⟩
  | false => exact hb wh pins s1 σ H1 Q I1 q1
theorem pt_not (ha : PT X a tA) : PT X (.UnaryOp .Not a pos) (tNot tA) := by
  intro pins s σ H Q I h
  exact isTrue_not (ha pins s σ H (fun c H1 => Q (!c) H1) I h)
def tAndV (ta tb : TE) : TE := fun σ H Q => ta σ H fun x H1 => ∃ c, x = .bl c ∧ if c = true then tb σ H1 Q else Q (.bl false) H1
def tOrV (ta tb : TE) : TE := fun σ H Q => ta σ H fun x H1 => ∃ c, x = .bl c ∧ if c = true then Q (.bl true) H1 else tb σ H1 Q
def tNotV (ta : TE) : TE := fun σ H Q => ta σ H fun x H1 => ∃ c, x = .bl c ∧ Q (.bl (!c)) H1
theorem pe_one {op} {t : TE} (h : PE X a t) : PE X (.BoolOp op [a] pos) t := fun pins s σ H Q I hw => BoolOp_one (h pins s σ H Q I hw)
theorem pe_and (ha : PE X a ta) (hb : PE X (.BoolOp .And (b :: rest) pos) tb) : PE X (.BoolOp .And (a :: b :: rest) pos) (tAndV ta tb) := by
  intro pins s σ H Q I h
  refine BoolOp_and (thn (ha pins s σ H _ I h) fun v s1 ⟨x, H1, I1, r1, q1⟩ => ?_)
  obtain ⟨c, rfl, q1⟩ := q1
  cases r1
  refine wpAny_truthy_bool ?_
  cases c with
  | true => exact hb pins s1 σ H1 Q I1 q1
  | false => exact ⟨.bl false, H1, I1, rfl, q1⟩
theorem pe_not (ha : PE X a ta) : PE X (.UnaryOp .Not a pos) (tNotV ta) := by
  intro pins s σ H Q I h
  refine UnaryOp_ (thn (ha pins s σ H _ I h) fun v s1 ⟨x, H1, I1, r1, q1⟩ => ?_)
  obtain ⟨c, rfl, q1⟩ := q1
  cases r1
  exact not_of (wpAny_truthy_bool ⟨.bl (!c), H1, I1, rfl, q1⟩)
def tIf (t : TT) (ta tb : TE) : TE := fun σ H Q => t σ H fun c H1 => if c = true then ta σ H1 Q else tb σ H1 Q
end
end L2
namespace L2
open PySem PySem.Spec PyProof.Rows
def SqL (K : PySem.W.Frag) (H : Hp) (a : Addr) (xs : List V) : Prop :=
  Rd H a (.lst xs) ∨
    ∃ (o : Obj) (its : Array Value) (n : Nat), K.lookup a = some o ∧ o.cls = .type "list" ∧ o.dict = none ∧ o.data = .seq its n ∧ its.size ≤ sizeLine ∧ Vals xs its.toList
def SqT (K : PySem.W.Frag) (H : Hp) (a : Addr) (xs : List V) : Prop :=
  Rd H a (.tup xs) ∨
    ∃ (o : Obj) (its : Array Value) (n : Nat), K.lookup a = some o ∧ o.cls = .type "tuple" ∧ o.data = .seq its n ∧ its.size ≤ sizeLine ∧ Vals xs its.toList
def absV : Value → Option V
  | .none => some .non
  | .bool b => some (.bl b)
  | .int i _ => some (.int i)
  | .str x _ => some (.str x)
  | .bytes b _ => some (.byt b)
  | .float b _ => some (.flt b)
  | .ref a => some (.ref a)
  | .type n => some (.ty n)
  | _ => none
theorem RelV.abs {x : V} {u : Value} (r : RelV x u) : absV u = some x := by
  cases x with
  | non => cases r; rfl
  | bl _ => cases r; rfl
  | int _ => obtain ⟨t, rfl⟩ := r; rfl
  | str _ => obtain ⟨t, rfl⟩ := r; rfl
  | byt _ => obtain ⟨t, rfl⟩ := r; rfl
  | flt _ => obtain ⟨t, rfl⟩ := r; rfl
  | ref _ => cases r; rfl
  | ty _ => cases r; rfl
theorem RelV.inj {x y : V} {u : Value} (r : RelV x u) (q : RelV y u) : x = y := Option.some.inj (r.abs.symm.trans q.abs)
theorem Vals.inj : ∀ {xs ys : List V} {us : List Value}, Vals xs us → Vals ys us → xs = ys
  | _, _, _, .nil, .nil => rfl
  | _, _, _, .cons r t, .cons r' t' => by rw [r.inj r', Vals.inj t t']
section
variable {X : Cx} {pins : List (Addr × Obj)} {σ : St} {H : Hp} {s : Shared} {a : Addr} {xs ys : List V}
theorem SqL.of {K : PySem.W.Frag} (h : H a = some (.lst xs)) : SqL K H a xs := .inl (.inl h)
theorem SqT.of {K : PySem.W.Frag} (h : H a = some (.tup xs)) : SqT K H a xs := .inl (.inl h)
theorem Inv.list (I : Inv X pins σ H s) (h : SqL X.K H a xs) : ∃ its : List Value, Vals xs its ∧ PlainL s.heap a its.toArray ∧ xs.length ≤ sizeLine := by
  rcases h with h | ⟨o, its, n, hk, hc, hd, hs, hz, r⟩
  · obtain ⟨z, its, n, r, e⟩ := h.ok I.hok
    exact ⟨its, r, ⟨_, n, e, rfl, rfl, rfl⟩, z⟩
  · refine ⟨its.toList, r, ⟨o, n, I.kIn a o hk, hc, hd, by simpa using hs⟩, ?_⟩
    have e := r.length
    simp only [Array.length_toList] at e
    omega
theorem Inv.tuple (I : Inv X pins σ H s) (h : SqT X.K H a xs) : ∃ its : List Value, Vals xs its ∧ IsTup s.heap a its.toArray ∧ xs.length ≤ sizeLine := by
  rcases h with h | ⟨o, its, n, hk, hc, hs, hz, r⟩
  · obtain ⟨z, its, r, p⟩ := h.ok I.hok
    exact ⟨its, r, p, z⟩
  · refine ⟨its.toList, r, ⟨o, I.kIn a o hk, hc, n, by simpa using hs⟩, ?_⟩
    have e := r.length
    simp only [Array.length_toList] at e
    omega
theorem Inv.list_inj (I : Inv X pins σ H s) (h : SqL X.K H a xs) (h' : SqL X.K H a ys) : xs = ys := by
  obtain ⟨its, r, ⟨o, n, e, _, _, d⟩, _⟩ := I.list h
  obtain ⟨its', r', ⟨o', n', e', _, _, d'⟩, _⟩ := I.list h'
  rw [e] at e'; cases e'
  rw [d] at d'
  injection d' with d1 _
  have : its = its' := by simpa using congrArg Array.toList d1
  subst this
  exact r.inj r'
end
abbrev Cx.wish (X : Cx) (E : Value → Shared → Prop) : Cx := { X with xe := E }
abbrev Cx.nox (X : Cx) : Cx := X.wish fun _ _ => False
theorem Cx.Ok.wish {X : Cx} (ok : X.Ok) (E : Value → Shared → Prop) : (X.wish E).Ok :=
  ⟨ok.mod, ok.kind, ok.glob, ok.blt, ok.above, ok.inj, ok.has, ok.cab, ok.hd, ok.frames, ok.stk, ok.exf, ok.bs, ok.bsz, ok.noex, ok.exfs, ok.funs, ok.frf⟩
theorem Cx.Ok.unwish {X : Cx} {E : Value → Shared → Prop} (ok : (X.wish E).Ok) : X.Ok :=
  ⟨ok.mod, ok.kind, ok.glob, ok.blt, ok.above, ok.inj, ok.has, ok.cab, ok.hd, ok.frames, ok.stk, ok.exf, ok.bs, ok.bsz, ok.noex, ok.exfs, ok.funs, ok.frf⟩
section
variable {X : Cx} {pins : List (Addr × Obj)} {σ : St} {H : Hp} {s : Shared} {E : Value → Shared → Prop}
theorem Inv.wish (I : Inv X pins σ H s) (E : Value → Shared → Prop) : Inv (X.wish E) pins σ H s := ⟨I.ok.wish E, I.os, I.bare, I.base, I.loc, I.cell, I.free, I.freeC, I.pin, I.hok, I.len⟩
theorem Inv.unwish (I : Inv (X.wish E) pins σ H s) : Inv X pins σ H s := ⟨I.ok.unwish, I.os, I.bare, I.base, I.loc, I.cell, I.free, I.freeC, I.pin, I.hok, I.len⟩
theorem SP.unwish {D : Ends} {f : Flow} {s' : Shared} (h : SP (X.wish E) pins D f s') : SP X pins D f s' := by
  cases f with
  | next => obtain ⟨σ', H', I, q⟩ := h; exact ⟨σ', H', I.unwish, q⟩
  | brk => obtain ⟨σ', H', I, q⟩ := h; exact ⟨σ', H', I.unwish, q⟩
  | cont => obtain ⟨σ', H', I, q⟩ := h; exact ⟨σ', H', I.unwish, q⟩
  | ret u => obtain ⟨v, σ', H', I, r, q⟩ := h; exact ⟨v, σ', H', I.unwish, r, q⟩
theorem PSs.nox {st : List Stmt} {t : TS} (h : PSs X.nox st t) : PSs X st t := fun pins s σ H D I hw =>
  wpAny_mono (h pins s σ H D (I.wish _) hw) (fun _ _ q => q.unwish) fun _ _ z => False.elim z
end
section
variable {X : Cx} {st : Stmt} {rest : List Stmt} {t u : TS} {e : Expr} {te : TE} {pos : Pos}
def tNext : TS := fun D σ H => D.nx σ H
def tSeq (t u : TS) : TS := fun D σ H => t { D with nx := u D } σ H
theorem pss_nil : PSs X [] tNext := fun _ _ σ H _ I h => wpAny_execs_nil ⟨σ, H, I, h⟩
theorem pss_cons (h1 : PS X st t) (h2 : PSs X rest u) : PSs X (st :: rest) (tSeq t u) := by
  intro pins s σ H D I h
  refine wpAny_execs_cons (thn (h1 pins s σ H { D with nx := u D } I h) fun f s1 q => ?_)
  cases f with
  | next =>
    obtain ⟨σ', H', I', q⟩ := q
    exact h2 pins s1 σ' H' D I' q
  | ret v => exact q
  | brk => exact q
  | cont => exact q
theorem pss_one (h1 : PS X st t) : PSs X [st] t := by
  intro pins s σ H D I h
  refine wpAny_execs_cons (thn (h1 pins s σ H D I h) fun f s1 q => ?_)
  cases f with
  | next => exact wpAny_execs_nil q
  | ret v => exact q
  | brk => exact q
  | cont => exact q
theorem Inv.quiet {pins : List (Addr × Obj)} {σ : St} {H : Hp} {s : Shared} (I : Inv X pins σ H s) : interactive X.env = false := by simp [interactive, I.ok.kind]
def tDrop (te : TE) : TS := fun D σ H => te σ H fun _ H1 => D.nx σ H1
theorem ps_expr (he : PE X e te) (hs : swapsWith e none pos.line X.env = pure false := by rfl) : PS X (.Expr e pos) (tDrop te) := by
  intro pins s σ H D I h
  exact wpAny_Expr_any (thn (he pins s σ H _ I h) fun v s1 ⟨x, H1, I1, r1, q1⟩ => ⟨σ, H1, I1, q1⟩) I.quiet hs
def tRet (te : TE) : TS := fun D σ H => te σ H D.rt
theorem ps_ret (he : PE X e te) : PS X (.Return (some e) pos) (tRet te) := by
  intro pins s σ H D I h
  exact wpAny_Return_some (thn (he pins s σ H _ I h) fun v s1 ⟨x, H1, I1, r1, q1⟩ => ⟨x, σ, H1, I1, r1, q1⟩)
def tRetN : TS := fun D _ H => D.rt .non H
def tIfS (c : TT) (t u : TS) : TS := fun D σ H => c σ H fun b H1 => if b = true then t D σ H1 else u D σ H1
theorem ps_if {c : Expr} {a b : List Stmt} {tc : TT} (hc : PT X c tc) (ha : PSs X a t) (hb : PSs X b u) : PS X (.If c a b pos) (tIfS tc t u) := by
  intro pins s σ H D I h
  refine wpAny_If (thn (hc pins s σ H _ I h) fun d s1 ⟨H1, I1, q1⟩ => ?_)
  cases d with
  | true => exact ha pins s1 σ H1 D I1 q1
  | false => exact hb pins s1 σ H1 D I1 q1
def tNever : TS := fun _ _ _ => False
theorem pss_never {sts : List Stmt} : PSs X sts tNever := fun _ _ _ _ _ _ h => h.elim
end
abbrev TG := V → St → Hp → (St → Hp → Prop) → Prop
abbrev TGs := List V → St → Hp → (St → Hp → Prop) → Prop
def PG (X : Cx) (target : Expr) (t : TG) : Prop :=
  ∀ (pins : List (Addr × Obj)) (s : Shared) (σ : St) (H : Hp) (v : V) (u : Value) (Q : St → Hp → Prop), Inv X pins σ H s → RelV v u → t v σ H Q →
    wpAny (model X.prog X.w) X.A (assign target X.env u) (fun _ s' => ∃ σ' H', Inv X pins σ' H' s' ∧ Q σ' H') X.xe s
def PGs (X : Cx) (ts : List Expr) (t : TGs) : Prop :=
  ∀ (pins : List (Addr × Obj)) (s : Shared) (σ : St) (H : Hp) (vs : List V) (us : List Value) (Q : St → Hp → Prop), Inv X pins σ H s → Vals vs us → t vs σ H Q →
    wpAny (model X.prog X.w) X.A (assignInOrder ((assignEach ts X.env).map (·.2)) us) (fun _ s' => ∃ σ' H', Inv X pins σ' H' s' ∧ Q σ' H') X.xe s
abbrev TIp := V → V → Hp → VK → Prop
def PIp (X : Cx) (op : Operator) (t : TIp) : Prop :=
  ∀ (pins : List (Addr × Obj)) (s : Shared) (σ : St) (H : Hp) (x y : V) (v u : Value) (Q : VK), Inv X pins σ H s → RelV x v → RelV y u → t x y H Q →
    wpAny (model X.prog X.w) X.A (inplaceOp op v u) (EP X pins σ Q) X.xe s
section
variable {X : Cx} {pos : Pos}
def gName (i : Nat) : TG := fun v σ H Q => Q (σ.set i (some v)) H
theorem pg_name {i : Nat} {x : Str} (hN : X.N.Nodup) (hi : X.N[i]? = some x) (hx : Loc X.env.scope x) (hf : X.fn x = true ∨ X.env.scope.names.lookup x = some .local := by first | exact .inl rfl | exact .inr rfl | assumption) : PG X (.Name x pos) (gName i) := by
  intro pins s σ H v u Q I r h
  exact wpAny_assign_Name (store_ok I hN hi hx r (fun s' I' => ⟨_, H, I', h⟩) hf)
def gNil : TGs := fun vs σ H Q => vs = [] ∧ Q σ H
def gCons (t : TG) (u : TGs) : TGs := fun vs σ H Q => ∃ v r, vs = v :: r ∧ t v σ H fun σ' H' => u r σ' H' Q
theorem pgs_nil : PGs X [] gNil := by
  intro pins s σ H vs us Q I r h
  obtain ⟨e, h⟩ := h
  subst e
  cases r
  exact assignInOrder_nil ⟨σ, H, I, h⟩
theorem pgs_cons {e : Expr} {es : List Expr} {t : TG} {u : TGs} (h1 : PG X e t) (h2 : PGs X es u)
    (hs : (assignEach (e :: es) X.env).map (·.2) = assign e X.env :: (assignEach es X.env).map (·.2) := by rfl) : PGs X (e :: es) (gCons t u) := by
  intro pins s σ H vs us Q I r h
  obtain ⟨v, vr, e1, h⟩ := h
  subst e1
  cases r with
  | cons r rr =>
    rw [hs]
    refine assignInOrder_cons (thn (h1 pins s σ H _ _ _ I r h) fun _ s1 ⟨σ1, H1, I1, q1⟩ => ?_)
    exact h2 pins s1 σ1 H1 _ _ Q I1 rr q1
def gTup (K : PySem.W.Frag) (n : Nat) (t : TGs) : TG := fun v σ H Q => ∃ a xs, v = .ref a ∧ SqT K H a xs ∧ xs.length = n ∧ t xs σ H Q
theorem pg_tup {es : List Expr} {k : Nat} {t : TGs} {n : Nat} (hc : X.calm = true) (h : PGs X es t)
    (hn : (assignEach es X.env).length = n := by rfl) (hst : (assignEach es X.env).findIdx? (·.1) = none := by rfl) : PG X (.Tuple es k pos) (gTup X.K n t) := by
  intro pins s σ H v u Q I r hw
  obtain ⟨a, xs, e1, hq, hl, hw⟩ := hw
  subst e1
  cases r
  obtain ⟨its, rv, ht, hz⟩ := I.tuple hq
  refine assign_Tuple_tuple (I.ok.hd hc) ht (by simp [hn, ← hl, rv.length]) hst fun h' hx => ?_
  have I1 : Inv X pins σ H { s with heap := h' } := I.kept (t' := s.toks) fun b o e => hx b o (Nat.ne_of_lt (Heap.lt_size e)) e
  exact h pins _ σ H xs _ Q I1 (by simpa using rv) hw
def tAsg (te : TE) (g : TG) : TS := fun D σ H => te σ H fun x H1 => g x σ H1 D.nx
theorem ps_set {i : Nat} {x : Str} {e : Expr} {te : TE} {pos' : Pos} (hN : X.N.Nodup) (hi : X.N[i]? = some x) (hx : Loc X.env.scope x) (he : PE X e te) (hs : swapsWith e (some (.Name x pos')) pos.line X.env = pure false := by rfl) (hf : X.fn x = true ∨ X.env.scope.names.lookup x = some .local := by first | exact .inl rfl | exact .inr rfl | assumption) :
    PS X (.Assign [.Name x pos'] e pos) (tAsg te (gName i)) := by
  intro pins s σ H D I h
  refine wpAny_Assign_Name (thn (he pins s σ H _ I h) fun v s1 ⟨y, H1, I1, r1, q1⟩ => ?_) hs
  exact store_ok I1 hN hi hx r1 (fun s2 I2 => ⟨_, H1, I2, q1⟩) hf
def tAug (i : Nat) (te : TE) (ti : TIp) : TS := fun D σ H => ∃ x, σ[i]? = some (some x) ∧ te σ H fun y H1 => ti x y H1 fun z H2 => D.nx (σ.set i (some z)) H2
theorem ps_aug {i : Nat} {x : Str} {e : Expr} {te : TE} {op : Operator} {ti : TIp} {pos' : Pos} (hN : X.N.Nodup) (hi : X.N[i]? = some x) (hx : Loc X.env.scope x) (he : PE X e te) (ho : PIp X op ti) (hf : X.fn x = true ∨ X.env.scope.names.lookup x = some .local := by first | exact .inl rfl | exact .inr rfl | assumption) :
    PS X (.AugAssign (.Name x pos') op e pos) (tAug i te ti) := by
  intro pins s σ H D I h
  obtain ⟨v, e1, h⟩ := h
  obtain ⟨m, hn, hl⟩ := I.loc
  have vis : Vis X.env.scope x := by rcases hx with k | k; exact .inl k; exact .inr (.inl k)
  obtain ⟨u, r, l⟩ := hl i x v hi e1 vis
  refine wpAny_AugAssign_Name ?_
  have go : wpAny (model X.prog X.w) X.A (eval e X.env) (fun w s₂ => wpAny (model X.prog X.w) X.A (inplaceOp op u w) (fun r s₃ => wpAny (model X.prog X.w) X.A (storeName X.env x r) (fun _ => SP X pins D .next) X.xe s₃) X.xe s₂) X.xe s := by
    refine thn (he pins s σ H _ I h) fun w s1 ⟨y, H1, I1, r1, q1⟩ => ?_
    refine thn (ho pins s1 σ H1 v y u w _ I1 r r1 q1) fun z s2 ⟨zv, H2, I2, r2, q2⟩ => ?_
    exact store_ok I2 hN hi hx r2 (fun s3 I3 => ⟨_, H2, I3, q2⟩) hf
  rcases l with ⟨hk, hm⟩ | ⟨hk, c, hc, hcell⟩
  · exact wpAny_loadName_local I.ok.kind hk hn hm go
  · rcases hk with hk | hk
    · exact wpAny_loadName_cell I.ok.kind hk hc hcell go
    · rcases hx with k | k
      · have : X.env.scope.names.lookup x = some .free := hk
        rw [k] at this; cases this
      · have : X.env.scope.names.lookup x = some .free := hk
        rw [k] at this; cases this
def ipI (f : Int → Int → Int) : TIp := fun x y H Q => ∃ i j, x = .int i ∧ y = .int j ∧ Q (.int (f i j)) H
theorem ip_add : PIp X .Add (ipI fun i j => i + j) := by
  intro pins s σ H x y v u Q I r1 r2 h
  obtain ⟨i, j, e1, e2, q⟩ := h
  subst e1; subst e2
  obtain ⟨t, rfl⟩ := r1
  obtain ⟨t', rfl⟩ := r2
  exact iadd_int ⟨.int _, H, I.tok _, ⟨_, rfl⟩, q⟩
end
section
variable {X : Cx} {pos : Pos}
def tWhile (c : TT) (tb : TS) : TS := fun D σ H => ∃ W : Nat → St → Hp → Prop, (∃ m, W m σ H) ∧ ∀ m σ H, W m σ H →
  c σ H fun b H1 => if b = true then ∃ N : St → Hp → Prop, (∀ σ' H', N σ' H' → ∃ m', m' < m ∧ W m' σ' H') ∧ tb { D with nx := N, ct := N, bk := D.nx } σ H1 else D.nx σ H1
theorem ps_while {c : Expr} {body : List Stmt} {tc : TT} {tb : TS} (hp : PassesOwn (model X.prog X.w) X.A X.env X.xe) (hc : PT X c tc) (hb : PSs X body tb) : PS X (.While c body [] pos) (tWhile tc tb) := by
  intro pins s σ H D I h
  obtain ⟨W, ⟨m0, w0⟩, turn⟩ := h
  refine wpAny_While (codeAny_whileLoop (fun n s' => ∃ σ' H', Inv X pins σ' H' s' ∧ W n σ' H') ?_ m0 ⟨σ, H, I, w0⟩)
  rintro n s1 ⟨σ1, H1, I1, w1⟩
  refine wpAny_passesOwn hp (thn (hc pins s1 σ1 H1 _ I1 (turn n σ1 H1 w1)) fun b s2 ⟨H2, I2, q2⟩ => ?_)
  cases b with
  | true =>
    obtain ⟨N, hN, q2⟩ := q2
    rw [if_pos rfl]
    refine wpAny_passesOwn hp (thn (hb pins s2 σ1 H2 _ I2 q2) fun f s3 q3 => ?_)
    cases f with
    | next =>
      obtain ⟨σ3, H3, I3, n3⟩ := q3
      obtain ⟨m', hm, w3⟩ := hN σ3 H3 n3
      exact ⟨m', hm, σ3, H3, I3, w3⟩
    | cont =>
      obtain ⟨σ3, H3, I3, n3⟩ := q3
      obtain ⟨m', hm, w3⟩ := hN σ3 H3 n3
      exact ⟨m', hm, σ3, H3, I3, w3⟩
    | brk => exact q3
    | ret v => exact q3
  | false =>
    rw [if_neg Bool.false_ne_true]
    exact wpAny_execs_nil ⟨σ1, H2, I2, q2⟩
end
structure It where
  go : Nat → Hp → Prop
  yld : Nat → Hp → V → Hp → Prop
  stop : Nat → Hp → Prop
def FpOk (X : Cx) (pins : List (Addr × Obj)) (H : Hp) (b : Addr) : Prop :=
  H b = none ∧ b ≠ X.env.locals ∧ b ∉ X.fs ∧ (b ∈ X.ex ∨ X.s₀.heap.objs.size ≤ b) ∧ (∀ x c, X.env.cells.lookup x = some c → c ≠ b) ∧ ∀ p ∈ X.pn ++ pins, p.1 ≠ b
theorem Inv.fpOk {X : Cx} {pins : List (Addr × Obj)} {σ : St} {H H' : Hp} {s : Shared} {b : Addr} (I : Inv X pins σ H s) (hb : s.heap.objs.size ≤ b) (hn : H' b = none) : FpOk X pins H' b := by
  refine ⟨hn, Nat.ne_of_gt (Nat.lt_of_lt_of_le I.lt hb), I.nofs hb, .inr (Nat.le_trans I.sz hb), fun x c e z => ?_, fun p hp z => ?_⟩
  · obtain ⟨v, q⟩ := I.cell x c e
    exact absurd (Nat.lt_of_lt_of_le q.lt (by rw [z]; exact hb)) (Nat.lt_irrefl _)
  · exact absurd (Nat.lt_of_lt_of_le (Heap.lt_size (I.pin p hp).1) (by rw [z]; exact hb)) (Nat.lt_irrefl _)
structure Turn (P : Program) (w : World) (K : PySem.W.Frag) (tg : Expr) (J : It) (fp : List Addr) (it : Addr) (tn : Nat → Heap → Prop) : Prop where
  mem : it ∈ fp
  obj : ∀ i h, tn i h → ∀ b ∈ fp, ∃ o, h.get? b = some o ∧ ∀ v, o.data ≠ .cell v
  keep : ∀ i h h', tn i h → (∀ b ∈ fp, ∀ o, h.get? b = some o → h'.get? b = some o) → tn i h'
  item : ∀ (X : Cx), X.prog = P → X.w = w → X.K = K → X.calm = true → ∀ (i : Nat) (pins : List (Addr × Obj)) (s : Shared) (σ : St) (H : Hp) (E : Value → Shared → Prop), Inv X pins σ H s → (∀ b ∈ fp, FpOk X pins H b) → tn i s.heap → J.go i H →
    wpAny (model P w) X.A (pyNext (.ref it)) (fun r s1 => ∃ u, r = some u ∧
      wpAny (model P w) X.A (letOwnedTupleGo tg (.ref it) u) (fun _ s2 => ∃ x H', Inv X pins σ H' s2 ∧ RelV x u ∧ J.yld i H x H' ∧ tn (i + 1) s2.heap ∧ ∀ b ∈ fp, H' b = none) E s1) E s
  done : ∀ (X : Cx), X.prog = P → X.w = w → X.K = K → X.calm = true → ∀ (i : Nat) (pins : List (Addr × Obj)) (s : Shared) (σ : St) (H : Hp) (E : Value → Shared → Prop), Inv X pins σ H s → (∀ b ∈ fp, FpOk X pins H b) → tn i s.heap → J.stop i H →
    wpAny (model P w) X.A (pyNext (.ref it)) (fun r s1 => r = none ∧ Inv X pins σ H s1) E s
  self : ∀ (A : Around) (i : Nat) (s : Shared) (Q : Value → Shared → Prop) (E : Value → Shared → Prop), tn i s.heap → Q (.ref it) s → wpAny (model P w) A (pyIter (.ref it)) Q E s
abbrev TI := St → Hp → (It → Hp → Prop) → Prop
def PIE (X : Cx) (pins : List (Addr × Obj)) (σ : St) (tg : Expr) (R : It → Hp → Prop) (itv : Value) (s2 : Shared) : Prop :=
  ∃ (it : Addr) (fp : List Addr) (tn : Nat → Heap → Prop) (J : It) (H' : Hp), itv = .ref it ∧ Inv X pins σ H' s2 ∧ Turn X.prog X.w X.K tg J fp it tn ∧ tn 0 s2.heap ∧ (∀ b ∈ fp, FpOk X pins H' b) ∧ R J H'
def PI (X : Cx) (tg iter : Expr) (wi : TI) : Prop :=
  ∀ (pins : List (Addr × Obj)) (s : Shared) (σ : St) (H : Hp) (R : It → Hp → Prop), Inv X pins σ H s → wi σ H R →
    wpAny (model X.prog X.w) X.A (eval iter X.env) (fun v s1 => wpAny (model X.prog X.w) X.A (pyIter v) (PIE X pins σ tg R) X.xe s1) X.xe s
theorem go_of {M : Model} {A : Around} {E : Value → Shared → Prop} {s : Shared} {tg : Expr} {it : Addr} {u : Value} {o : Obj} {n : String} {vs : Array Value} {Q : Unit → Shared → Prop} (ho : s.heap.get? it = some o) (hc : o.cls = .type n) (hd : o.data = .fields vs)
    (hn : ["enumerate", "zip", "dict_itemiterator", "dict_reverseitemiterator", "odict_iterator", "itertools.zip_longest", "itertools.pairwise"].contains n = false) (hQ : Q () s) : wpAny M A (letOwnedTupleGo tg (.ref it) u) Q E s := by
  unfold letOwnedTupleGo
  cases tg <;> first
    | exact wpAny_pure hQ
    | (cases u <;> first
        | exact wpAny_pure hQ
        | (refine wpAny_bind (wpAny_load ho ?_)
           rw [hc, hd]
           show wpAny M A (if (["enumerate", "zip", "dict_itemiterator", "dict_reverseitemiterator", "odict_iterator", "itertools.zip_longest", "itertools.pairwise"].contains n && vs[0]? == some (rawInt _)) = true then _ else _) Q E s
           rw [if_neg (by intro h; rw [hn, Bool.false_and] at h; cases h)]
           exact wpAny_pure hQ))
def Itl (K : PySem.W.Frag) (a : Addr) : It :=
  ⟨fun i H => ∃ xs x, SqL K H a xs ∧ xs[i]? = some x, fun i H x H' => H' = H ∧ ∀ xs, SqL K H a xs → xs[i]? = some x, fun i H => ∃ xs, SqL K H a xs ∧ xs.length ≤ i⟩
def Itr (lo : Int) (n : Nat) : It := ⟨fun i _ => i < n, fun i H x H' => H' = H ∧ x = .int (lo + i), fun i _ => n ≤ i⟩
theorem turn_list {P : Program} {w : World} {K : PySem.W.Frag} {tg : Expr} (a it : Addr) : Turn P w K tg (Itl K a) [it] it (fun i h => h.IsListIter it a i) where
  mem := by simp
  obj := fun i h st b hb => by
    have e : b = it := by simpa using hb
    subst e
    obtain ⟨o, e, c, d⟩ := st
    exact ⟨o, e, fun v z => by rw [d] at z; cases z⟩
  keep := fun i h h' st k => st.at fun o e => k it (by simp) o e
  item := by
    intro X hP hw hK hc i pins s σ H E I hf st hg
    subst hP hw hK
    obtain ⟨xs, x, hq, hx⟩ := hg
    obtain ⟨its, rv, p, hz⟩ := I.list hq
    obtain ⟨u, hu, ru⟩ := rv.get hx
    obtain ⟨f0, f1, f2, f3, f4, f5⟩ := hf it (by simp)
    refine wpAny_pyNext_list_item st p.isList (x := u) (by simpa using hu) fun h' st' sb => ?_
    have I1 : Inv X pins σ H { s with heap := h' } := I.turned (t' := s.toks) (fun b o hb e => (sb.2 b hb).trans e) f0 f1 f3 f4 f5
    obtain ⟨o, e, c, d⟩ := id st'
    exact ⟨u, rfl, go_of (s := { s with heap := h' }) e c d (by decide) ⟨x, H, I1, ru, ⟨rfl, fun ys hy => by rw [I.list_inj hy hq]; exact hx⟩, st', fun b hb => (hf b hb).1⟩⟩
  done := by
    intro X hP hw hK hc i pins s σ H E I hf st hg
    subst hP hw hK
    obtain ⟨xs, hq, hx⟩ := hg
    obtain ⟨its, rv, p, hz⟩ := I.list hq
    obtain ⟨f0, f1, f2, f3, f4, f5⟩ := hf it (by simp)
    have hl := rv.length
    exact wpAny_pyNext_list_end (I.ok.hd hc) st p.isList (by simp; omega) fun h' eb => ⟨rfl, I.turned (t' := s.toks) (fun b o hb e => eb b o hb e) f0 f1 f3 f4 f5⟩
  self := fun _ _ _ _ _ st h => wpAny_pyIter_listiter st h
theorem turn_range {P : Program} {w : World} {K : PySem.W.Frag} {tg : Expr} (it : Addr) (lo : Int) (n : Nat) : Turn P w K tg (Itr lo n) [it] it (fun i h => IsRangeIter h it (lo + (i : Nat) * 1) ((n : Int) - (i : Nat)) 1) where
  mem := by simp
  obj := fun i h st b hb => by
    have e : b = it := by simpa using hb
    subst e
    exact ⟨_, st, fun v z => by
      have z' : Data.fields _ = Data.cell v := z
      cases z'⟩
  keep := fun i h h' st k => k it (by simp) _ st
  item := by
    intro X hP hw hK hc i pins s σ H E I hf st hg
    subst hP hw hK
    obtain ⟨f0, f1, f2, f3, f4, f5⟩ := hf it (by simp)
    have W := Walks.range (prog := X.prog) (w := X.w) (I.ok.hd hc) it lo 1 n
    refine W.item i s _ _ hg st fun v h' tk hv st' kk => ?_
    obtain ⟨t, rfl⟩ := hv
    have I1 : Inv X pins σ H { s with heap := h', toks := tk } := I.turned (fun b o hb e => kk b o (by simpa using hb) e) f0 f1 f3 f4 f5
    refine ⟨_, rfl, go_of (s := { s with heap := h', toks := tk }) (n := "range_iterator") st' rfl rfl (by decide) ⟨.int (lo + i), H, I1, ⟨t, ?_⟩, ⟨rfl, rfl⟩, st', fun b hb => (hf b hb).1⟩⟩
    rw [Int.mul_one]
  done := by
    intro X hP hw hK hc i pins s σ H E I hf st hg
    subst hP hw hK
    obtain ⟨f0, f1, f2, f3, f4, f5⟩ := hf it (by simp)
    exact wpAny_pyNext_range_end (I.ok.hd hc) st (by have : n ≤ i := hg; omega) fun h' eb => ⟨rfl, I.turned (t' := s.toks) (fun b o hb e => eb b o hb e) f0 f1 f3 f4 f5⟩
  self := fun _ _ _ _ _ st h => wpAny_pyIter_rangeiter st h
end L2
namespace L2
open PySem PySem.Spec PyProof.Rows
section
variable {X : Cx} {tg : Expr}
def iList (K : PySem.W.Frag) (tl : TE) : TI := fun σ H R => tl σ H fun x H1 => ∃ a, x = .ref a ∧ (∃ xs, SqL K H1 a xs) ∧ R (Itl K a) H1
theorem pi_list {l : Expr} {tl : TE} (hl : PE X l tl) : PI X tg l (iList X.K tl) := by
  intro pins s σ H R I h
  refine thn (hl pins s σ H _ I h) fun v s1 ⟨x, H1, I1, r1, q1⟩ => ?_
  obtain ⟨a, e, ⟨xs, hq⟩, q⟩ := q1
  subst e
  cases r1
  obtain ⟨its, rv, p, hz⟩ := I1.list hq
  refine wpAny_pyIter_list p.isList ?_
  refine ⟨s1.heap.objs.size, [s1.heap.objs.size], _, _, H1, rfl, I1.kept (t' := s1.toks) fun b o e => Heap.get?_push_of_some _ e, turn_list a _, ⟨_, Heap.get?_push_size _ rfl, rfl, rfl⟩, fun b hb => ?_, q⟩
  have e : b = s1.heap.objs.size := by simpa using hb
  subst e
  exact I1.fpOk (Nat.le_refl _) (I1.hok.fresh (Nat.le_refl _))
theorem range_it {pins : List (Addr × Obj)} {σ : St} {H : Hp} {s : Shared} {R : It → Hp → Prop} {E : Value → Shared → Prop} {lo hi : Int} {t u v : Tok} {tk : Nat} (I : Inv X pins σ H s) (h1 : -(2 ^ 62) ≤ lo) (h2 : lo < 2 ^ 62) (h3 : -(2 ^ 62) ≤ hi) (h4 : hi < 2 ^ 62)
    (q : R (Itr lo (hi - lo).toNat) H) : wpAny (model X.prog X.w) X.A (pyIter (.ref s.heap.objs.size)) (PIE X pins σ tg R) E { s with heap := s.heap.push { cls := .type "range", data := .fields #[.int lo t, .int hi u, .int 1 v] }, toks := tk } := by
  refine wpAny_pyIter_range (IsRange.new ..) (small_one h1 h2 h3 h4) ?_
  have I1 : Inv X pins σ H { s with heap := s.heap.push { cls := .type "range", data := .fields #[.int lo t, .int hi u, .int 1 v] }, toks := tk } := I.kept fun b o e => Heap.get?_push_of_some _ e
  refine ⟨(s.heap.push { cls := .type "range", data := .fields #[.int lo t, .int hi u, .int 1 v] }).objs.size, [(s.heap.push { cls := .type "range", data := .fields #[.int lo t, .int hi u, .int 1 v] }).objs.size], _, _, H, rfl,
    I1.kept (t' := tk) fun b o e => Heap.get?_push_of_some _ e, turn_range _ lo (hi - lo).toNat, ?_, fun b hb => ?_, q⟩
  · have e1 : lo + ((0 : Nat) : Int) * 1 = lo := by simp
    have e2 : (((hi - lo).toNat : Nat) : Int) - ((0 : Nat) : Int) = Builtin.Range.rangeSize lo hi 1 := by rw [rangeSize_one]; split <;> omega
    show IsRangeIter _ _ (lo + ((0 : Nat) : Int) * 1) ((((hi - lo).toNat : Nat) : Int) - ((0 : Nat) : Int)) 1
    rw [e1, e2]
    exact Heap.get?_push_size _ rfl
  · have e : b = (s.heap.push { cls := .type "range", data := .fields #[.int lo t, .int hi u, .int 1 v] }).objs.size := by simpa using hb
    subst e
    exact I1.fpOk (Nat.le_refl _) (I1.hok.fresh (Nat.le_refl _))
def iRng1 (ta : TA) : TI := fun σ H R => ta σ H fun vs H1 => ∃ j : Int, vs = [.int j] ∧ -(2 ^ 62) ≤ j ∧ j < 2 ^ 62 ∧ R (Itr 0 j.toNat) H1
def iRng2 (ta : TA) : TI := fun σ H R => ta σ H fun vs H1 => ∃ i j : Int, vs = [.int i, .int j] ∧ (-(2 ^ 62) ≤ i ∧ i < 2 ^ 62 ∧ -(2 ^ 62) ≤ j ∧ j < 2 ^ 62) ∧ R (Itr i (j - i).toNat) H1
theorem pi_range1 {a : Expr} {ta : TA} {p pos : Pos} (hg : Gl X "range") (hm : X.mg "range" = none) (ha : PA X [a] ta) (hs : starEach [a] X.env = [(false, eval a X.env)] := by rfl) : PI X tg (.Call (.Name "range" p) [a] [] pos) (iRng1 ta) := by
  intro pins s σ H R I h
  refine Call_ (ld_blt I hg hm boot_range (PyProof.Rows.callWith_type1 (thn (ha pos pins s σ H _ I h) fun us s1 ⟨vs, H1, I1, r1, q1⟩ => ?_) hs rfl))
  obtain ⟨j, e, q1, q2, q⟩ := q1
  subst e
  cases r1 with
  | cons r rr =>
    cases rr
    obtain ⟨t, rfl⟩ := r
    exact call_range_1 (range_it I1 (by omega) (by omega) q1 q2 (by simpa using q))
theorem pi_range2 {a b : Expr} {ta : TA} {p pos : Pos} (hg : Gl X "range") (hm : X.mg "range" = none) (ha : PA X [a, b] ta) (hs : starEach [a, b] X.env = [(false, eval a X.env), (false, eval b X.env)] := by rfl) (hs2 : starEach [b] X.env = [(false, eval b X.env)] := by rfl) :
    PI X tg (.Call (.Name "range" p) [a, b] [] pos) (iRng2 ta) := by
  intro pins s σ H R I h
  refine Call_ (ld_blt I hg hm boot_range (PyProof.Rows.callWith_type1 (thn (ha pos pins s σ H _ I h) fun us s1 ⟨vs, H1, I1, r1, q1⟩ => ?_) (by rw [hs, hs2]) (by rw [hs2]; rfl)))
  obtain ⟨i, j, e, ⟨q1, q2, q3, q4⟩, q⟩ := q1
  subst e
  cases r1 with
  | cons r rr =>
    cases rr with
    | cons r' rr =>
      cases rr
      obtain ⟨t, rfl⟩ := r
      obtain ⟨t', rfl⟩ := r'
      exact call_range_2 (range_it I1 q1 q2 q3 q4 q)
def tFor (wi : TI) (g : TG) (tb : TS) : TS := fun D σ H => wi σ H fun J H1 => ∃ W : Nat → Nat → St → Hp → Prop, (∃ m, W 0 m σ H1) ∧ ∀ i m σ H, W i m σ H →
  (J.stop i H ∧ D.nx σ H) ∨ (J.go i H ∧ ∃ N : St → Hp → Prop, (∀ σ' H', N σ' H' → ∃ m', m' < m ∧ W (i + 1) m' σ' H') ∧ ∀ x H', J.yld i H x H' → g x σ H' fun σ2 H2 => tb { D with nx := N, ct := N, bk := D.nx } σ2 H2)
def pinsAt (fp : List Addr) (h : Heap) : List (Addr × Obj) := fp.filterMap fun b => (h.get? b).map fun o => (b, o)
theorem mem_pinsAt {fp : List Addr} {h : Heap} {b : Addr} {o : Obj} (hb : b ∈ fp) (e : h.get? b = some o) : (b, o) ∈ pinsAt fp h := List.mem_filterMap.mpr ⟨b, hb, by rw [e]; rfl⟩
theorem of_pinsAt {fp : List Addr} {h : Heap} {p : Addr × Obj} (hp : p ∈ pinsAt fp h) : p.1 ∈ fp ∧ h.get? p.1 = some p.2 := by
  obtain ⟨b, hb, e⟩ := List.mem_filterMap.mp hp
  cases q : h.get? b with
  | none => rw [q] at e; cases e
  | some o =>
    rw [q] at e
    have e' : (b, o) = p := Option.some.inj e
    subst e'
    exact ⟨hb, q⟩
theorem Inv.pinned {pins : List (Addr × Obj)} {σ : St} {H : Hp} {s : Shared} {fp : List Addr} (I : Inv X pins σ H s) (hf : ∀ b ∈ fp, FpOk X pins H b) (ho : ∀ b ∈ fp, ∃ o, s.heap.get? b = some o ∧ ∀ v, o.data ≠ .cell v) : Inv X (pins ++ pinsAt fp s.heap) σ H s :=
  I.pins_of fun p hp => (List.mem_append.mp hp).elim (fun z => I.pin p (List.mem_append_right _ z)) fun z => by
    obtain ⟨hb, e⟩ := of_pinsAt z
    obtain ⟨f0, f1, f2, _⟩ := hf p.1 hb
    obtain ⟨o, e', d⟩ := ho p.1 hb
    rw [e] at e'; cases e'
    exact ⟨e, f0, f1, f2, d⟩
theorem Inv.unpinned {pins pl : List (Addr × Obj)} {σ : St} {H : Hp} {s : Shared} (I : Inv X (pins ++ pl) σ H s) : Inv X pins σ H s := I.pins_of fun p hp => I.pin p (List.mem_append_right _ (List.mem_append_left _ hp))
theorem ps_for {iter : Expr} {body : List Stmt} {wi : TI} {g : TG} {tb : TS} {pos : Pos} (hp : PassesOwn (model X.prog X.w) X.A X.env X.xe) (hc : X.calm = true) (hi : PI X tg iter wi) (hg : PG X tg g) (hb : PSs X body tb)
    (hs : ∀ x, foldedSetIterable iter X.env x = pure x := by intro _; rfl) : PS X (.For tg iter body [] pos) (tFor wi g tb) := by
  intro pins s σ H D I h
  refine wpAny_For (thn (hi pins s σ H _ I h) fun v s1 h1 => thn h1 fun itv s2 h2 => ?_) hs
  obtain ⟨it, fp, tn, J, H2, e, I2, T, st2, f2, W, ⟨m0, w0⟩, turn⟩ := h2
  subst e
  -- what stays true of the iterator's objects through the loop
  have stat : ∀ {H' : Hp}, (∀ b ∈ fp, H' b = none) → ∀ b ∈ fp, FpOk X pins H' b := fun hn b hb => ⟨hn b hb, (f2 b hb).2⟩
  refine codeAny_forLoop_any (fun n s' => ∃ i σ' H', Inv X pins σ' H' s' ∧ tn i s'.heap ∧ (∀ b ∈ fp, H' b = none) ∧ W i n σ' H') ?_ m0 ⟨0, σ, H2, I2, st2, fun b hb => (f2 b hb).1, w0⟩
  rintro n s3 ⟨i, σ3, H3, I3, st3, fr3, w3⟩
  rcases turn i n σ3 H3 w3 with ⟨stop, qn⟩ | ⟨go, N, hN, step⟩
  · refine wpAny_passesOwn hp (thn (T.done X rfl rfl rfl hc i pins s3 σ3 H3 X.xe I3 (stat fr3) st3 stop) fun r s4 ⟨hr, I4⟩ => ?_)
    subst hr
    exact wpAny_execs_nil ⟨σ3, H3, I4, qn⟩
  · refine wpAny_passesOwn hp (thn (T.item X rfl rfl rfl hc i pins s3 σ3 H3 X.xe I3 (stat fr3) st3 go) fun r s4 ⟨u, hr, h4⟩ => ?_)
    subst hr
    refine wpAny_passesOwn hp (thn h4 fun _ s5 ⟨x, H5, I5, r5, y5, st5, fr5⟩ => ?_)
    have I5' := I5.pinned (stat fr5) (T.obj _ _ st5)
    refine wpAny_passesOwn hp (thn (hg _ s5 σ3 H5 x u _ I5' r5 (step x H5 y5)) fun _ s6 ⟨σ6, H6, I6, q6⟩ => ?_)
    refine wpAny_passesOwn hp (thn (hb _ s6 σ6 H6 _ I6 q6) fun f s7 q7 => ?_)
    have again : ∀ {σ7 : St} {H7 : Hp}, Inv X (pins ++ pinsAt fp s5.heap) σ7 H7 s7 → N σ7 H7 → ∃ m, m < n ∧ ∃ i σ' H', Inv X pins σ' H' s7 ∧ tn i s7.heap ∧ (∀ b ∈ fp, H' b = none) ∧ W i m σ' H' := fun {σ7 H7} I7 n7 => by
      obtain ⟨m', hm, w7⟩ := hN σ7 H7 n7
      refine ⟨m', hm, i + 1, σ7, H7, I7.unpinned, T.keep _ _ _ st5 fun b hb o e => (I7.pin (b, o) (List.mem_append_right _ (List.mem_append_right _ (mem_pinsAt hb e)))).1, fun b hb => ?_, w7⟩
      obtain ⟨o, e, d⟩ := T.obj _ _ st5 b hb
      exact (I7.pin (b, o) (List.mem_append_right _ (List.mem_append_right _ (mem_pinsAt hb e)))).2.1
    cases f with
    | next => obtain ⟨σ7, H7, I7, n7⟩ := q7; exact again I7 n7
    | cont => obtain ⟨σ7, H7, I7, n7⟩ := q7; exact again I7 n7
    | brk => obtain ⟨σ7, H7, I7, q7⟩ := q7; exact ⟨σ7, H7, I7.unpinned, q7⟩
    | ret v => obtain ⟨x7, σ7, H7, I7, r7, q7⟩ := q7; exact ⟨x7, σ7, H7, I7.unpinned, r7, q7⟩
end
theorem for_list {K : PySem.W.Frag} {a : Addr} {xs : List V} {g : TG} {tb : TS} {D : Ends} {σ : St} {H : Hp} (Pv : Nat → St → Hp → Prop) (h0 : Pv 0 σ H) (hl : ∀ i σ H, i ≤ xs.length → Pv i σ H → SqL K H a xs)
    (hs : ∀ i x σ H, xs[i]? = some x → Pv i σ H → g x σ H fun σ2 H2 => tb { D with nx := Pv (i + 1), ct := Pv (i + 1), bk := D.nx } σ2 H2) (hd : ∀ σ H, Pv xs.length σ H → D.nx σ H) :
    ∃ W : Nat → Nat → St → Hp → Prop, (∃ m, W 0 m σ H) ∧ ∀ i m σ H, W i m σ H →
      ((Itl K a).stop i H ∧ D.nx σ H) ∨ ((Itl K a).go i H ∧ ∃ N : St → Hp → Prop, (∀ σ' H', N σ' H' → ∃ m', m' < m ∧ W (i + 1) m' σ' H') ∧ ∀ x H', (Itl K a).yld i H x H' → g x σ H' fun σ2 H2 => tb { D with nx := N, ct := N, bk := D.nx } σ2 H2) := by
  refine ⟨fun i m σ H => m = xs.length - i ∧ i ≤ xs.length ∧ Pv i σ H, ⟨xs.length, by simp, Nat.zero_le _, h0⟩, ?_⟩
  rintro i m σ H ⟨rfl, hi, p⟩
  have q := hl i σ H hi p
  by_cases hlt : i < xs.length
  · refine .inr ⟨⟨xs, xs[i], q, by simp [hlt]⟩, Pv (i + 1), fun σ' H' p' => ⟨xs.length - (i + 1), by omega, rfl, hlt, p'⟩, fun x H' y => ?_⟩
    obtain ⟨e, y⟩ := y
    subst e
    exact hs i x σ _ (y xs q) p
  · have e : i = xs.length := by omega
    subst e
    exact .inl ⟨⟨xs, q, Nat.le_refl _⟩, hd σ H p⟩
theorem for_range {lo : Int} {n : Nat} {g : TG} {tb : TS} {D : Ends} {σ : St} {H : Hp} (Pv : Nat → St → Hp → Prop) (h0 : Pv 0 σ H)
    (hs : ∀ i σ H, i < n → Pv i σ H → g (.int (lo + i)) σ H fun σ2 H2 => tb { D with nx := Pv (i + 1), ct := Pv (i + 1), bk := D.nx } σ2 H2) (hd : ∀ σ H, Pv n σ H → D.nx σ H) :
    ∃ W : Nat → Nat → St → Hp → Prop, (∃ m, W 0 m σ H) ∧ ∀ i m σ H, W i m σ H →
      ((Itr lo n).stop i H ∧ D.nx σ H) ∨ ((Itr lo n).go i H ∧ ∃ N : St → Hp → Prop, (∀ σ' H', N σ' H' → ∃ m', m' < m ∧ W (i + 1) m' σ' H') ∧ ∀ x H', (Itr lo n).yld i H x H' → g x σ H' fun σ2 H2 => tb { D with nx := N, ct := N, bk := D.nx } σ2 H2) := by
  refine ⟨fun i m σ H => m = n - i ∧ i ≤ n ∧ Pv i σ H, ⟨n, by simp, Nat.zero_le _, h0⟩, ?_⟩
  rintro i m σ H ⟨rfl, hi, p⟩
  by_cases hlt : i < n
  · refine .inr ⟨hlt, Pv (i + 1), fun σ' H' p' => ⟨n - (i + 1), by omega, rfl, hlt, p'⟩, fun x H' y => ?_⟩
    obtain ⟨e, y⟩ := y
    subst e y
    exact hs i σ _ hlt p
  · have e : i = n := by omega
    subst e
    exact .inl ⟨Nat.le_refl _, hd σ H p⟩
end L2
namespace L2
open PySem PySem.Spec PyProof.Rows
abbrev R2 := V → V → Hp → VK → Prop
def OpR (X : Cx) (f : Value → Value → Sem Value) (r : R2) : Prop :=
  ∀ (pins : List (Addr × Obj)) (s : Shared) (σ : St) (H : Hp) (x y : V) (v u : Value) (Q : VK), Inv X pins σ H s → RelV x v → RelV y u → r x y H Q →
    wpAny (model X.prog X.w) X.A (f v u) (EP X pins σ Q) X.xe s
def UnR (X : Cx) (f : Value → Sem Value) (r : V → Hp → VK → Prop) : Prop :=
  ∀ (pins : List (Addr × Obj)) (s : Shared) (σ : St) (H : Hp) (x : V) (v : Value) (Q : VK), Inv X pins σ H s → RelV x v → r x H Q →
    wpAny (model X.prog X.w) X.A (f v) (EP X pins σ Q) X.xe s
def CallR (X : Cx) (f : Value) (r : List V → Hp → VK → Prop) : Prop :=
  ∀ (pins : List (Addr × Obj)) (s : Shared) (σ : St) (H : Hp) (xs : List V) (us : List Value) (Q : VK), Inv X pins σ H s → Vals xs us → r xs H Q →
    wpAny (model X.prog X.w) X.A (call f us) (EP X pins σ Q) X.xe s
def TruR (X : Cx) (r : V → Hp → (Bool → Hp → Prop) → Prop) : Prop :=
  ∀ (pins : List (Addr × Obj)) (s : Shared) (σ : St) (H : Hp) (x : V) (v : Value) (Q : Bool → Hp → Prop), Inv X pins σ H s → RelV x v → r x H Q →
    wpAny (model X.prog X.w) X.A (truthy v) (TP X pins σ Q) X.xe s
def tOp (r : R2) (ta tb : TE) : TE := fun σ H Q => ta σ H fun x H1 => tb σ H1 fun y H2 => r x y H2 Q
def tUn (r : V → Hp → VK → Prop) (ta : TE) : TE := fun σ H Q => ta σ H fun x H1 => r x H1 Q
def rI (C : Int → Int → Prop) (g : Int → Int → V) : R2 := fun x y H Q => ∃ i j, x = .int i ∧ y = .int j ∧ C i j ∧ Q (g i j) H
def rI0 (g : Int → Int → V) : R2 := fun x y H Q => ∃ i j, x = .int i ∧ y = .int j ∧ Q (g i j) H
def rU (g : Int → V) : V → Hp → VK → Prop := fun x H Q => ∃ i, x = .int i ∧ Q (g i) H
section
variable {X : Cx} {a b c : Expr} {ta tb tc : TE} {pos : Pos}
theorem binT (ha : PE X a ta) (hb : PE X b tb) {pins : List (Addr × Obj)} {s : Shared} {σ : St} {H : Hp} {R : V → V → Hp → Prop} (I : Inv X pins σ H s)
    (h : ta σ H fun x H1 => tb σ H1 fun y H2 => R x y H2) {Q : Value → Shared → Prop} {f : Value → Value → Sem Value}
    (hf : ∀ v u s2 x y H2, Inv X pins σ H2 s2 → RelV x v → RelV y u → R x y H2 → wpAny (model X.prog X.w) X.A (f v u) Q X.xe s2) :
    wpAny (model X.prog X.w) X.A (eval a X.env) (fun v s₁ => wpAny (model X.prog X.w) X.A (eval b X.env) (fun u s₂ => wpAny (model X.prog X.w) X.A (f v u) Q X.xe s₂) X.xe s₁) X.xe s := by
  refine thn (ha pins s σ H _ I h) fun v s1 ⟨x, H1, I1, r1, q1⟩ => ?_
  refine thn (hb pins s1 σ H1 _ I1 q1) fun u s2 ⟨y, H2, I2, r2, q2⟩ => ?_
  exact hf v u s2 x y H2 I2 r1 r2 q2
theorem pe_op {op : Operator} {r : R2} (ho : OpR X (binaryOp op) r) (ha : PE X a ta) (hb : PE X b tb) : PE X (.BinOp a op b pos) (tOp r ta tb) := by
  intro pins s σ H Q I h
  exact wpAny_BinOp (binT ha hb I h fun v u s2 x y H2 I2 rx ry q => ho pins s2 σ H2 x y v u Q I2 rx ry q)
theorem pe_un {op : UnaryOp} {r : V → Hp → VK → Prop} (ho : UnR X (unaryOp op) r) (ha : PE X a ta) : PE X (.UnaryOp op a pos) (tUn r ta) := by
  intro pins s σ H Q I h
  exact UnaryOp_ (thn (ha pins s σ H _ I h) fun v s1 ⟨x, H1, I1, r1, q1⟩ => ho pins s1 σ H1 x v Q I1 r1 q1)
theorem opI {f : Value → Value → Sem Value} {C : Int → Int → Prop} {g : Int → Int → Int}
    (rule : ∀ (i j : Int) (t u : Tok) (s : Shared) (Q : Value → Shared → Prop) (E : Value → Shared → Prop), C i j → Q (.int (g i j) s.toks) { s with toks := s.toks + 1 } → wpAny (model X.prog X.w) X.A (f (.int i t) (.int j u)) Q E s) :
    OpR X f (rI C fun i j => .int (g i j)) := by
  intro pins s σ H x y v u Q I rx ry h
  obtain ⟨i, j, rfl, rfl, hc, q⟩ := h
  obtain ⟨t, rfl⟩ := rx
  obtain ⟨t', rfl⟩ := ry
  exact rule i j t t' s _ _ hc ⟨.int (g i j), H, I.tok _, ⟨_, rfl⟩, q⟩
theorem opI0 {f : Value → Value → Sem Value} {g : Int → Int → Int}
    (rule : ∀ (i j : Int) (t u : Tok) (s : Shared) (Q : Value → Shared → Prop) (E : Value → Shared → Prop), Q (.int (g i j) s.toks) { s with toks := s.toks + 1 } → wpAny (model X.prog X.w) X.A (f (.int i t) (.int j u)) Q E s) :
    OpR X f (rI0 fun i j => .int (g i j)) := by
  intro pins s σ H x y v u Q I rx ry h
  obtain ⟨i, j, rfl, rfl, q⟩ := h
  obtain ⟨t, rfl⟩ := rx
  obtain ⟨t', rfl⟩ := ry
  exact rule i j t t' s _ _ ⟨.int (g i j), H, I.tok _, ⟨_, rfl⟩, q⟩
theorem opB0 {f : Value → Value → Sem Value} {g : Int → Int → Bool}
    (rule : ∀ (i j : Int) (t u : Tok) (s : Shared) (Q : Value → Shared → Prop) (E : Value → Shared → Prop), Q (.bool (g i j)) s → wpAny (model X.prog X.w) X.A (f (.int i t) (.int j u)) Q E s) :
    OpR X f (rI0 fun i j => .bl (g i j)) := by
  intro pins s σ H x y v u Q I rx ry h
  obtain ⟨i, j, rfl, rfl, q⟩ := h
  obtain ⟨t, rfl⟩ := rx
  obtain ⟨t', rfl⟩ := ry
  exact rule i j t t' s _ _ ⟨.bl (g i j), H, I, rfl, q⟩
def CDiv (i j : Int) : Prop := 0 < j ∧ j < 1073741824
def CPow (i j : Int) : Prop := 0 ≤ j ∧ j ≤ 1000000 ∧ i.natAbs < 2 ^ 64
def CMul (i j : Int) : Prop := (-(2 ^ 64) < i ∧ i < 2 ^ 64) ∨ (-(2 ^ 64) < j ∧ j < 2 ^ 64)
theorem CMul.ok {i j : Int} (h : CMul i j) : IntMulOk i j := by
  rcases h with ⟨h1, h2⟩ | ⟨h1, h2⟩
  · exact .of_left (intBits_le_64 h1 h2)
  · exact .of_right (intBits_le_64 h1 h2)
theorem op_add : OpR X (binaryOp .Add) (rI0 fun i j => .int (i + j)) := opI0 fun _ _ _ _ _ _ _ q => add_int q
theorem op_sub : OpR X (binaryOp .Sub) (rI0 fun i j => .int (i - j)) := opI0 fun _ _ _ _ _ _ _ q => sub_int q
theorem op_mul : OpR X (binaryOp .Mult) (rI CMul fun i j => .int (i * j)) := opI fun _ _ _ _ _ _ _ hc q => mul_int q hc.ok
theorem op_fdiv : OpR X (binaryOp .FloorDiv) (rI CDiv fun i j => .int (i / j)) := opI fun i j _ _ _ _ _ hc q => by
  have h1 : (0 : Int) < j := hc.1
  have h2 : j < 1073741824 := hc.2
  exact floordiv_int (by omega) (by rw [Int.fdiv_eq_ediv_of_nonneg i (by omega)]; exact q) (.inl (PyProof.noPylong_small (by omega)))
theorem op_mod : OpR X (binaryOp .Mod) (rI (fun _ j => 0 < j) fun i j => .int (i % j)) := opI fun i j _ _ _ _ _ hc q => by
  have h1 : (0 : Int) < j := hc
  exact mod_int' (by omega) (by rw [Int.fmod_eq_emod_of_nonneg i (by omega)]; exact q)
theorem op_pow : OpR X (binaryOp .Pow) (rI CPow fun i j => .int (i ^ j.toNat)) := opI fun _ _ _ _ _ _ _ hc q => pow_int_small hc.1 hc.2.1 hc.2.2 q
theorem unI {f : Value → Sem Value} {g : Int → Int}
    (rule : ∀ (i : Int) (t : Tok) (s : Shared) (Q : Value → Shared → Prop) (E : Value → Shared → Prop), Q (.int (g i) s.toks) { s with toks := s.toks + 1 } → wpAny (model X.prog X.w) X.A (f (.int i t)) Q E s) :
    UnR X f (rU fun i => .int (g i)) := by
  intro pins s σ H x v Q I rx h
  obtain ⟨i, rfl, q⟩ := h
  obtain ⟨t, rfl⟩ := rx
  exact rule i t s _ _ ⟨.int (g i), H, I.tok _, ⟨_, rfl⟩, q⟩
theorem un_neg : UnR X (unaryOp .USub) (rU fun i => .int (-i)) := unI fun _ _ _ _ _ q => neg_int q
end
def scal : V → V → Bool
  | .non, .non => true | .non, .int _ => true | .int _, .non => true | .non, .bl _ => true | .bl _, .non => true | .non, .str _ => true | .str _, .non => true
  | .int _, .int _ => true | .bl _, .bl _ => true | .str _, .str _ => true | .byt _, .byt _ => true
  | .int _, .str _ => true | .str _, .int _ => true | .bl _, .str _ => true | .str _, .bl _ => true
  | _, _ => false
def rEq : R2 := fun x y H Q => scal x y = true ∧ Q (.bl (decide (x = y))) H
def rNe : R2 := fun x y H Q => scal x y = true ∧ Q (.bl (!decide (x = y))) H
theorem dec_int {i j : Int} : decide (V.int i = V.int j) = (i == j) := by
  rw [Bool.eq_iff_iff]
  simp
theorem dec_bl {i j : Bool} : decide (V.bl i = V.bl j) = (i == j) := by
  rw [Bool.eq_iff_iff]
  simp
theorem dec_str {i j : Str} : decide (V.str i = V.str j) = (i == j) := by
  rw [Bool.eq_iff_iff]
  simp
theorem dec_byt {i j : Array UInt8} : decide (V.byt i = V.byt j) = (i.toList == j.toList) := by
  rw [Bool.eq_iff_iff]
  cases i
  cases j
  simp
section
variable {X : Cx} {a b c : Expr} {ta tb tc : TE} {pos : Pos}
theorem fin_bl {pins : List (Addr × Obj)} {σ : St} {H : Hp} {s : Shared} {Q : VK} {k k' : Bool} (I : Inv X pins σ H s) (q : Q (.bl k) H) (e : k = k') : EP X pins σ Q (.bool k') s := by
  subst e
  exact ⟨.bl k, H, I, rfl, q⟩
theorem op_eq : OpR X (compareOp .Eq) rEq := by
  intro pins s σ H x y v u Q I rx ry h
  obtain ⟨hs, q⟩ := h
  cases x with
  | non =>
    cases rx
    cases y with
    | non => cases ry; exact PySem.EqNone.eq_none_none (fin_bl I q (by simp))
    | bl j => cases ry; exact PySem.EqNone.eq_none_bool (fin_bl I q (by simp))
    | int j => obtain ⟨t', rfl⟩ := ry; exact PySem.EqNone.eq_none_int (fin_bl I q (by simp))
    | str j => obtain ⟨t', rfl⟩ := ry; exact PySem.EqNone.eq_none_str (fin_bl I q (by simp))
    | _ => exact absurd (show false = true from hs) Bool.false_ne_true
  | bl i =>
    cases rx
    cases y with
    | non => cases ry; exact PySem.EqNone.eq_bool_none (fin_bl I q (by simp))
    | bl j => cases ry; exact eq_bool (fin_bl I q dec_bl)
    | str j => obtain ⟨t', rfl⟩ := ry; exact PySem.EqMixed.eq_bool_str (fin_bl I q (by simp))
    | _ => exact absurd (show false = true from hs) Bool.false_ne_true
  | int i =>
    obtain ⟨t, rfl⟩ := rx
    cases y with
    | non => cases ry; exact PySem.EqNone.eq_int_none (fin_bl I q (by simp))
    | int j => obtain ⟨t', rfl⟩ := ry; exact eq_int (fin_bl I q dec_int)
    | str j => obtain ⟨t', rfl⟩ := ry; exact PySem.EqMixed.eq_int_str (fin_bl I q (by simp))
    | _ => exact absurd (show false = true from hs) Bool.false_ne_true
  | str i =>
    obtain ⟨t, rfl⟩ := rx
    cases y with
    | non => cases ry; exact PySem.EqNone.eq_str_none (fin_bl I q (by simp))
    | bl j => cases ry; exact PySem.EqMixed.eq_str_bool (fin_bl I q (by simp))
    | int j => obtain ⟨t', rfl⟩ := ry; exact PySem.EqMixed.eq_str_int (fin_bl I q (by simp))
    | str j => obtain ⟨t', rfl⟩ := ry; exact eq_str (fin_bl I q dec_str)
    | _ => exact absurd (show false = true from hs) Bool.false_ne_true
  | byt i =>
    obtain ⟨t, rfl⟩ := rx
    cases y with
    | byt j => obtain ⟨t', rfl⟩ := ry; exact PySem.W.eq_bytes (fin_bl I q dec_byt)
    | _ => exact absurd (show false = true from hs) Bool.false_ne_true
  | _ => cases y <;> exact absurd (show false = true from hs) Bool.false_ne_true
theorem op_ne : OpR X (compareOp .NotEq) rNe := by
  intro pins s σ H x y v u Q I rx ry h
  obtain ⟨hs, q⟩ := h
  cases x with
  | non =>
    cases rx
    cases y with
    | non => cases ry; exact PySem.EqNone.ne_none_none (fin_bl I q (by simp))
    | bl j => cases ry; exact PySem.EqNone.ne_none_bool (fin_bl I q (by simp))
    | int j => obtain ⟨t', rfl⟩ := ry; exact PySem.EqNone.ne_none_int (fin_bl I q (by simp))
    | str j => obtain ⟨t', rfl⟩ := ry; exact PySem.EqNone.ne_none_str (fin_bl I q (by simp))
    | _ => exact absurd (show false = true from hs) Bool.false_ne_true
  | bl i =>
    cases rx
    cases y with
    | non => cases ry; exact PySem.EqNone.ne_bool_none (fin_bl I q (by simp))
    | bl j => cases ry; exact ne_bool (fin_bl I q (congrArg not dec_bl))
    | str j => obtain ⟨t', rfl⟩ := ry; exact PySem.EqMixed.ne_bool_str (fin_bl I q (by simp))
    | _ => exact absurd (show false = true from hs) Bool.false_ne_true
  | int i =>
    obtain ⟨t, rfl⟩ := rx
    cases y with
    | non => cases ry; exact PySem.EqNone.ne_int_none (fin_bl I q (by simp))
    | int j => obtain ⟨t', rfl⟩ := ry; exact ne_int (fin_bl I q (congrArg not dec_int))
    | str j => obtain ⟨t', rfl⟩ := ry; exact PySem.EqMixed.ne_int_str (fin_bl I q (by simp))
    | _ => exact absurd (show false = true from hs) Bool.false_ne_true
  | str i =>
    obtain ⟨t, rfl⟩ := rx
    cases y with
    | non => cases ry; exact PySem.EqNone.ne_str_none (fin_bl I q (by simp))
    | bl j => cases ry; exact PySem.EqMixed.ne_str_bool (fin_bl I q (by simp))
    | int j => obtain ⟨t', rfl⟩ := ry; exact PySem.EqMixed.ne_str_int (fin_bl I q (by simp))
    | str j => obtain ⟨t', rfl⟩ := ry; exact ne_str (fin_bl I q (congrArg not dec_str))
    | _ => exact absurd (show false = true from hs) Bool.false_ne_true
  | byt i =>
    obtain ⟨t, rfl⟩ := rx
    cases y with
    | byt j => obtain ⟨t', rfl⟩ := ry; exact PySem.W.ne_bytes (fin_bl I q (congrArg not dec_byt))
    | _ => exact absurd (show false = true from hs) Bool.false_ne_true
  | _ => cases y <;> exact absurd (show false = true from hs) Bool.false_ne_true
theorem op_lt : OpR X (compareOp .Lt) (rI0 fun i j => .bl (decide (i < j))) := opB0 fun _ _ _ _ _ _ _ q => lt_int q
theorem op_le : OpR X (compareOp .LtE) (rI0 fun i j => .bl (decide (i ≤ j))) := opB0 fun _ _ _ _ _ _ _ q => le_int q
theorem op_gt : OpR X (compareOp .Gt) (rI0 fun i j => .bl (decide (j < i))) := opB0 fun _ _ _ _ _ _ _ q => gt_int q
theorem op_in_str : OpR X (compareOp .In) (fun x y H Q => ∃ i j, x = .str i ∧ y = .str j ∧ Q (.bl (!(Builtin.Str.occurrences j i 0 j.length 1).isEmpty)) H) := by
  intro pins s σ H x y v u Q I rx ry h
  obtain ⟨i, j, rfl, rfl, q⟩ := h
  obtain ⟨t, rfl⟩ := rx
  obtain ⟨t', rfl⟩ := ry
  exact in_str (fin_bl I q rfl)
theorem nomark (b : Expr) {op : CmpOp} (h : op ≠ .In := by decide) (h2 : op ≠ .NotIn := by decide) : behindInMarks op b = false := by
  have e1 : (op == CmpOp.In) = false := by cases op <;> first | rfl | exact absurd rfl h
  have e2 : (op == CmpOp.NotIn) = false := by cases op <;> first | rfl | exact absurd rfl h2
  cases b <;> simp [behindInMarks, e1, e2]
theorem pe_cmpR {op : CmpOp} {r : R2} (ho : OpR X (compareOp op) r) (ha : PE X a ta) (hb : PE X b tb) (hm : behindInMarks op b = false) : PE X (.Compare a [op] [b] pos) (tOp r ta tb) := by
  intro pins s σ H Q I h
  exact wpAny_Compare1 (binT ha hb I h fun v u s2 x y H2 I2 rx ry q => ho pins s2 σ H2 x y v u Q I2 rx ry q) hm
def tTest (t : TE) : TT := fun σ H Q => t σ H fun x H' => ∃ k, x = .bl k ∧ Q k H'
theorem pt_cmpR {op : CmpOp} {r : R2} (ho : OpR X (compareOp op) r) (ha : PE X a ta) (hb : PE X b tb) (hm : behindInMarks op b = false) : PT X (.Compare a [op] [b] pos) (tTest (tOp r ta tb)) := by
  intro pins s σ H Q I h
  refine wpAny_isTrue_Compare1 (thn (ha pins s σ H _ I h) fun v s1 ⟨x, H1, I1, r1, q1⟩ => thn (hb pins s1 σ H1 _ I1 q1) fun u s2 ⟨y, H2, I2, r2, q2⟩ =>
    thn (ho pins s2 σ H2 x y v u _ I2 r1 r2 q2) fun c s3 ⟨z, H3, I3, r3, k, e, q3⟩ => ?_) hm
  subst e
  cases r3
  exact wpAny_truthy_bool ⟨H3, I3, q3⟩
def tChain (r r' : R2) (ta tb tc : TE) : TE := fun σ H Q => ta σ H fun x H1 => tb σ H1 fun y H2 => r x y H2 fun z H3 => ∃ k, z = .bl k ∧
  (if k = true then tc σ H3 fun w' H4 => r' y w' H4 Q else Q (.bl false) H3)
theorem pe_chain {op op' : CmpOp} {r r' : R2} (ho : OpR X (compareOp op) r) (ho' : OpR X (compareOp op') r') (ha : PE X a ta) (hb : PE X b tb) (hc : PE X c tc)
    (hm : lastMarks [op, op'] [b, c] = false := by with_unfolding_all rfl) : PE X (.Compare a [op, op'] [b, c] pos) (tChain r r' ta tb tc) := by
  intro pins s σ H Q I h
  refine Compare_chain (thn (ha pins s σ H _ I h) fun v s1 ⟨x, H1, I1, r1, q1⟩ => chain_link (thn (hb pins s1 σ H1 _ I1 q1) fun u s2 ⟨y, H2, I2, r2, q2⟩ =>
    thn (ho pins s2 σ H2 x y v u _ I2 r1 r2 q2) fun d s3 ⟨z, H3, I3, r3, k, e, q3⟩ => ?_)) hm
  subst e
  cases r3
  refine wpAny_truthy_bool ?_
  cases k with
  | false => exact ite_ff ⟨.bl false, H3, I3, rfl, q3⟩
  | true => exact ite_tt (chain_last (thn (hc pins s3 σ H3 _ I3 q3) fun w' s4 ⟨z', H4, I4, r4, q4⟩ => ho' pins s4 σ H4 y z' u w' Q I4 r2 r4 q4))
theorem pt_chain {op op' : CmpOp} {r r' : R2} (ho : OpR X (compareOp op) r) (ho' : OpR X (compareOp op') r') (ha : PE X a ta) (hb : PE X b tb) (hc : PE X c tc)
    (hm : lastMarks [op, op'] [b, c] = false := by with_unfolding_all rfl) : PT X (.Compare a [op, op'] [b, c] pos) (tTest (tChain r r' ta tb tc)) := by
  intro pins s σ H Q I h
  refine isTrue_chain (thn (ha pins s σ H _ I h) fun v s1 ⟨x, H1, I1, r1, q1⟩ => test_link (thn (hb pins s1 σ H1 _ I1 q1) fun u s2 ⟨y, H2, I2, r2, q2⟩ =>
    thn (ho pins s2 σ H2 x y v u _ I2 r1 r2 q2) fun d s3 ⟨z, H3, I3, r3, k, e, q3⟩ => ?_)) hm
  subst e
  cases r3
  refine wpAny_truthy_bool ?_
  cases k with
  | false =>
    obtain ⟨k', e', q'⟩ := q3
    cases e'
    exact ite_ff ⟨H3, I3, q'⟩
  | true =>
    refine ite_tt (test_last (thn (hc pins s3 σ H3 _ I3 q3) fun w' s4 ⟨z', H4, I4, r4, q4⟩ => thn (ho' pins s4 σ H4 y z' u w' _ I4 r2 r4 q4) fun d' s5 ⟨z2, H5, I5, r5, k2, e2, q5⟩ => ?_))
    subst e2
    cases r5
    exact wpAny_truthy_bool ⟨H5, I5, q5⟩
def TruV (K : PySem.W.Frag) (x : V) (H : Hp) (k : Bool) : Prop :=
  match x with
  | .non => k = false
  | .bl b => k = b
  | .int i => k = (i != 0)
  | .str y => y.length ≤ sizeLine ∧ k = ((y.length : Int) != 0)
  | .byt y => y.size ≤ sizeLine ∧ k = ((y.size : Int) != 0)
  | .ref p => (∃ xs, SqL K H p xs ∧ k = !xs.isEmpty) ∨ (∃ xs, SqT K H p xs ∧ k = !xs.isEmpty) ∨ ∃ kvs, H p = some (.dK kvs) ∧ k = !kvs.isEmpty
  | _ => False
theorem isEmpty_kv {κ : Type} {kvs : List (κ × V)} {vs : List (κ × Value)} (r : KV kvs vs) : (!vs.isEmpty) = !kvs.isEmpty := by
  cases r <;> rfl
theorem isEmpty_of {xs : List V} {its : List Value} (r : Vals xs its) : (!its.toArray.isEmpty) = !xs.isEmpty := by
  cases r <;> simp
theorem line63 : (sizeLine : Nat) < 2 ^ 63 := by rw [sizeLine_eq]; decide
theorem tru_ok : TruR X (fun x H Q => ∃ k, TruV X.K x H k ∧ Q k H) := by
  intro pins s σ H x v Q I rx h
  obtain ⟨k, e, q⟩ := h
  have hl := line63
  have hs : sizeLine = 16777216 := sizeLine_eq
  cases x with
  | non =>
    cases rx
    have e' : k = false := e
    subst e'
    exact truthy_none ⟨H, I, q⟩
  | bl b =>
    cases rx
    have e' : k = b := e
    subst e'
    exact wpAny_truthy_bool ⟨H, I, q⟩
  | int i =>
    obtain ⟨t, rfl⟩ := rx
    have e' : k = (i != 0) := e
    subst e'
    exact PySem.P.truthy_int ⟨H, I, q⟩
  | str y =>
    obtain ⟨t, rfl⟩ := rx
    obtain ⟨hy, e'⟩ : y.length ≤ sizeLine ∧ k = ((y.length : Int) != 0) := e
    subst e'
    exact PySem.P.truthy_str (by omega) ⟨H, I.tok _, q⟩
  | byt y =>
    obtain ⟨t, rfl⟩ := rx
    obtain ⟨hy, e'⟩ : y.size ≤ sizeLine ∧ k = ((y.size : Int) != 0) := e
    subst e'
    exact PySem.W.truthy_bytes (by omega) ⟨H, I.tok _, q⟩
  | ref p =>
    cases rx
    have e' : (∃ xs, SqL X.K H p xs ∧ k = !xs.isEmpty) ∨ (∃ xs, SqT X.K H p xs ∧ k = !xs.isEmpty) ∨ ∃ kvs, H p = some (.dK kvs) ∧ k = !kvs.isEmpty := e
    rcases e' with ⟨xs, hx, e'⟩ | ⟨xs, hx, e'⟩ | ⟨kvs, hx, e'⟩
    · subst e'
      obtain ⟨its, r, pl, hz⟩ := I.list hx
      have hlen := r.length
      exact wpAny_truthy_list pl.isList (by simp only [List.size_toArray]; omega) ⟨H, I.tok _, by rw [isEmpty_of r]; exact q⟩
    · subst e'
      obtain ⟨its, r, pl, hz⟩ := I.tuple hx
      have hlen := r.length
      exact truthy_tuple pl (by simp only [List.size_toArray]; omega) ⟨H, I.tok _, by rw [isEmpty_of r]; exact q⟩
    · subst e'
      obtain ⟨hz, hS, vs, r, m⟩ : kvs.length ≤ sizeLine ∧ (p == sysModules) = false ∧ ∃ vs, KV kvs vs ∧ s.heap.DictOf (mixKind X.prog X.w) p vs := I.hok p _ hx
      have hlen : kvs.length = vs.length := Paired.length r
      exact wpAny_truthy_dict hS m (by omega) ⟨H, I.tok _, by rw [isEmpty_kv r]; exact q⟩
  | _ => exact (show False from e).elim
theorem pt_truth (ha : PE X a ta) (he : ∀ whole, isTrue a X.env whole = (do let v ← whole; standAt a.pos; holding [v] (truthy v))) :
    PT X a (fun σ H Q => ta σ H fun x H' => ∃ k, TruV X.K x H' k ∧ Q k H') := by
  intro pins s σ H Q I h
  exact isTrue_plain (thn (ha pins s σ H _ I h) fun v s1 ⟨x, H1, I1, r1, q1⟩ => tru_ok pins s1 σ H1 x v Q I1 r1 q1) (he _)
theorem op_add_str : OpR X (binaryOp .Add) (fun x y H Q => ∃ i j, x = .str i ∧ y = .str j ∧ i.length + j.length ≤ sizeLine ∧ Q (.str (i ++ j)) H) := by
  intro pins s σ H x y v u Q I rx ry h
  obtain ⟨i, j, rfl, rfl, hz, q⟩ := h
  obtain ⟨t, rfl⟩ := rx
  obtain ⟨t', rfl⟩ := ry
  exact add_str (fun t' tk => ⟨.str (i ++ j), H, I.tok _, ⟨_, rfl⟩, q⟩) hz
theorem vals1 {x : V} {us : List Value} (r : Vals [x] us) : ∃ u, us = [u] ∧ RelV x u := by
  cases r with
  | cons r1 r2 => cases r2; exact ⟨_, rfl, r1⟩
theorem vals2 {x y : V} {us : List Value} (r : Vals [x, y] us) : ∃ u w', us = [u, w'] ∧ RelV x u ∧ RelV y w' := by
  cases r with
  | cons r1 r2 =>
    cases r2 with
    | cons r3 r4 => cases r4; exact ⟨_, _, rfl, r1, r3⟩
theorem call_abs : CallR X (.builtin "abs") (fun xs H Q => ∃ i, xs = [.int i] ∧ Q (.int (if i < 0 then -i else i)) H) := by
  intro pins s σ H xs us Q I r h
  obtain ⟨i, rfl, q⟩ := h
  obtain ⟨u, rfl, t, rfl⟩ := vals1 r
  exact call_abs_int fun u tk => ⟨.int (if i < 0 then -i else i), H, I.tok _, ⟨_, rfl⟩, q⟩
theorem call_min2 (hc : X.calm = true) : CallR X (.builtin "min") (fun xs H Q => ∃ i j, xs = [.int i, .int j] ∧ Q (.int (if j < i then j else i)) H) := by
  intro pins s σ H xs us Q I r h
  obtain ⟨i, j, rfl, q⟩ := h
  obtain ⟨u, w', rfl, ⟨t, rfl⟩, ⟨t', rfl⟩⟩ := vals2 r
  refine min_two_ints (I.ok.hd hc) fun h' tk k => ⟨_, H, I.kept k, ?_, q⟩
  by_cases hj : j < i
  · rw [if_pos hj, if_pos hj]; exact ⟨_, rfl⟩
  · rw [if_neg hj, if_neg hj]; exact ⟨_, rfl⟩
theorem call_int1 : CallR X (.type "int") (fun xs H Q => (∃ i, xs = [.int i] ∧ Q (.int i) H) ∨ ∃ k, xs = [.bl k] ∧ Q (.int (if k then 1 else 0)) H) := by
  intro pins s σ H xs us Q I r h
  rcases h with ⟨i, rfl, q⟩ | ⟨k, rfl, q⟩
  · obtain ⟨u, rfl, t, rfl⟩ := vals1 r
    exact call_int_int ⟨.int i, H, I, ⟨_, rfl⟩, q⟩
  · obtain ⟨u, rfl, r1⟩ := vals1 r
    cases r1
    exact call_int_bool ⟨.int (if k then 1 else 0), H, I.tok _, ⟨_, rfl⟩, q⟩
theorem call_str_int : CallR X (.type "str") (fun xs H Q => ∃ i, xs = [.int i] ∧ i.natAbs.log2 < 1920 ∧ Q (.str (toString i)) H) := by
  intro pins s σ H xs us Q I r h
  obtain ⟨i, rfl, hz, q⟩ := h
  obtain ⟨u, rfl, t, rfl⟩ := vals1 r
  exact PySem.P.str_of_int hz ⟨.str _, H, I.tok _, ⟨_, rfl⟩, q⟩
theorem call_ord : CallR X (.builtin "ord") (fun xs H Q => ∃ x, xs = [.str x] ∧ x.length = 1 ∧ Q (.int (x.cps.getD 0 0 : Nat)) H) := by
  intro pins s σ H xs us Q I r h
  obtain ⟨x, rfl, hz, q⟩ := h
  obtain ⟨u, rfl, t, rfl⟩ := vals1 r
  exact ord_of_one hz ⟨.int _, H, I.tok _, ⟨_, rfl⟩, q⟩
end
end L2
namespace L2
open PySem PySem.Spec PyProof.Rows
structure ObjM (h : Heap) (x dx C : Addr) (mA : Str → Option Value) : Prop where
  obj : h.get? x = some (PySem.W.instObj C dx)
  ns : h.Ns1 dx mA
  ne : dx ≠ x
theorem lookIn_ns {h : Heap} {dx : Addr} {mA : Str → Option Value} (n : h.Ns1 dx mA) : ∃ od, h.get? dx = some od ∧ ∀ name, PySem.W.lookIn name od = some (mA name) := by
  obtain ⟨o, es, ep, ho, hd, hk, _, hm⟩ := n
  refine ⟨o, ho, fun name => ?_⟩
  have e := hm name
  unfold nsFind findBy at e
  rw [← Array.find?_toList] at e
  unfold PySem.W.lookIn
  rw [hd]
  dsimp only
  split
  · rename_i y q
    rw [q] at e
    exact congrArg some e
  · rename_i q
    rw [q] at e
    have a : es.toList.any (·.refKey) = false := by
      rw [List.any_eq_false]
      intro y hy
      obtain ⟨z, t, hkey⟩ := hk y (Array.mem_toList_iff.mp hy)
      simp [DictEntry.refKey, hkey]
    have a' : ¬ es.toList.any (·.refKey) = true := by rw [a]; exact Bool.false_ne_true
    rw [if_neg a']
    exact congrArg some e
theorem ObjM.look {h : Heap} {x dx C : Addr} {mA : Str → Option Value} (I : ObjM h x dx C mA) : ∃ od, PySem.W.InstAt h x (PySem.W.instObj C dx) C (some od) ∧ ∀ name, PySem.W.lookIn name od = some (mA name) :=
  let ⟨od, ho, hl⟩ := lookIn_ns I.ns
  ⟨od, ⟨I.obj, rfl, rfl, ho⟩, hl⟩
section
variable {prog : Program} {w : World} {A : Around} {E : Value → Shared → Prop} {s : Shared} {K : PySem.W.Frag} {x dx C f : Addr} {mA : Str → Option Value} {name : Str} {v : Value}
end
theorem RelO.some_of {v : V} {o : Option Value} (r : RelO (some v) o) : ∃ u, o = some u ∧ RelV v u := by
  cases o with
  | none => exact (show False from r).elim
  | some u => exact ⟨u, rfl, r⟩
section
variable {P : Program} {w : World} {H H' : Hp} {h h' : Heap} {a C dx : Addr} {fs fs' : List (Str × V)}
theorem ins_get (hok : HOk P w H h) (e : H a = some (.ins C dx fs)) : ∃ mA, ObjM h a dx C mA ∧ (∀ f, RelO (fs.lookup f) (mA f)) ∧ PySem.Within mA (fs.map (·.1)) ∧ fs.length ≤ 1000 ∧ H dx = some (.own a) := by
  obtain ⟨d, z, ne, ob, mA, n, r, q⟩ := (show ObjOk P w H h a (.ins C dx fs) from hok a _ e)
  exact ⟨mA, ⟨ob, n, ne⟩, r, q, z, d⟩
end
structure Cls (K : PySem.W.Frag) (C : Addr) : Prop where
  pg : PySem.W.plainGet K C Str.empty = true
  hd : PySem.W.hasDictIn K C = true
  po : PySem.W.plainOver K C = true
  sa : PySem.W.findIn K (.ref C) "__setattr__" = some (some (.builtin "object.__setattr__"))
theorem Cls.get {K : PySem.W.Frag} {C : Addr} (c : Cls K C) (f : Str) : PySem.W.plainGet K C f = true := c.pg
structure Con (K : PySem.W.Frag) (C : Addr) (f : Str) (v : V) (u : Value) : Prop where
  at_ : PySem.W.findIn K (.ref C) f = some (some u)
  rel : RelV v u
  get : PySem.W.specialIn K u "__get__" = some none
  cp : PySem.W.copiedNames.contains f = false
structure Meth (K : PySem.W.Frag) (C : Addr) (m : Str) (f : Addr) : Prop where
  at_ : PySem.W.findIn K (.ref C) m = some (some (.ref f))
  fn : PySem.W.isFn K (.ref f) = true
  kp : PySem.W.keepIn K (.ref f) = true
section
variable {X : Cx} {pins : List (Addr × Obj)} {σ : St} {H : Hp} {s : Shared} {a C dx : Addr} {fs : List (Str × V)} {f : Str} {v : V} {A : Around} {E : Value → Shared → Prop}
end
section
variable {X : Cx} {o e value : Expr} {f : Str} {pos pos' tpos : Pos} {ta tv : TE}
end
section
variable {X : Cx} {pins : List (Addr × Obj)} {σ : St} {H : Hp} {s : Shared} {A : Around} {E : Value → Shared → Prop} {Q : Value → Shared → Prop} {c : Value} {b : Bool}
inductive TyOf (K : PySem.W.Frag) (H : Hp) : V → Value → Prop where
  | non : TyOf K H .non (.type "NoneType")
  | bl (x : Bool) : TyOf K H (.bl x) (.type "bool")
  | int (i : Int) : TyOf K H (.int i) (.type "int")
  | str (x : Str) : TyOf K H (.str x) (.type "str")
  | flt (x : UInt64) : TyOf K H (.flt x) (.type "float")
  | lst {a : Addr} {xs : List V} (e : H a = some (.lst xs)) : TyOf K H (.ref a) (.type "list")
  | frz {a : Addr} {o : Obj} {xs : List V} (e : H a = some (.frz o (.lst xs))) : TyOf K H (.ref a) (.type "list")
  | tup {a : Addr} {xs : List V} (e : H a = some (.tup xs)) : TyOf K H (.ref a) (.type "tuple")
  | dK {a : Addr} {kvs : List (Key × V)} (e : H a = some (.dK kvs)) : TyOf K H (.ref a) (.type "dict")
  | dT {a : Addr} {kvs : List (List Key × V)} (e : H a = some (.dT kvs)) : TyOf K H (.ref a) (.type "dict")
  | ins {a C dx : Addr} {fs : List (Str × V)} (e : H a = some (.ins C dx fs)) (cl : Cls K C) (ha : PySem.W.findIn K (.ref C) "__class__" = some (some (.builtin "object.__class__")))
      (hn : PySem.W.specialIn K (.builtin "object.__class__") "__get__" = some (some (.builtin "getset_descriptor.__get__"))) (htk : PySem.W.takesIn K (.builtin "object.__class__") = some true)
      (hm : PySem.W.mroIn K C (.type "object") = some true) : TyOf K H (.ref a) (.ref C)
theorem isinst_ok {x : V} {u t : Value} (I : Inv X pins σ H s) (rx : RelV x u) (ty : TyOf X.K H x t) (e : PySem.W.kitOne X.K t c = some b) (h : ∀ tk, Q (.bool b) { s with toks := tk }) :
    wpAny (model X.prog X.w) A (call (.builtin "isinstance") [u, c]) Q E s := by
  cases ty with
  | non => cases (show u = Value.none from rx); exact PySem.W.kia_one PySem.W.kitx_none I.kIn True.intro e (fun z => nomatch z) h
  | bl y => cases (show u = Value.bool y from rx); exact PySem.W.kia_one PySem.W.kitx_bool I.kIn True.intro e (fun z => nomatch z) h
  | int i => obtain ⟨t, q⟩ := (show ∃ t, u = Value.int i t from rx); cases q; exact PySem.W.kia_one PySem.W.kitx_int I.kIn True.intro e (fun z => nomatch z) h
  | str y => obtain ⟨t, q⟩ := (show ∃ t, u = Value.str y t from rx); cases q; exact PySem.W.kia_one PySem.W.kitx_str I.kIn True.intro e (fun z => nomatch z) h
  | flt y => obtain ⟨t, q⟩ := (show ∃ t, u = Value.float y t from rx); cases q; exact PySem.W.kia_one PySem.W.kitx_float I.kIn True.intro e (fun z => nomatch z) h
  | @lst a xs ea =>
    cases (show u = Value.ref a from rx)
    obtain ⟨_, _, n, _, h1⟩ := (show ObjOk X.prog X.w H s.heap a (.lst xs) from I.hok a _ ea)
    exact PySem.W.kia_one PySem.W.kitx_list I.kIn ⟨_, h1, rfl⟩ e (fun z => nomatch z) h
  | @frz a ob xs ea =>
    cases (show u = Value.ref a from rx)
    obtain ⟨_, _, _, n, _, h1⟩ := (show ObjOk X.prog X.w H s.heap a (.frz ob (.lst xs)) from I.hok a _ ea)
    exact PySem.W.kia_one PySem.W.kitx_list I.kIn ⟨_, h1, rfl⟩ e (fun z => nomatch z) h
  | @tup a xs ea =>
    cases (show u = Value.ref a from rx)
    obtain ⟨_, _, _, p⟩ := (show ObjOk X.prog X.w H s.heap a (.tup xs) from I.hok a _ ea)
    obtain ⟨o, h1, h2, _⟩ := p
    exact PySem.W.kia_one PySem.W.kitx_tuple I.kIn ⟨o, h1, h2⟩ e (fun z => nomatch z) h
  | @dK a kvs ea =>
    cases (show u = Value.ref a from rx)
    obtain ⟨_, _, vs, _, p⟩ := (show ObjOk X.prog X.w H s.heap a (.dK kvs) from I.hok a _ ea)
    obtain ⟨o, es, ep, h1, h2, _⟩ := p
    exact PySem.W.kia_one PySem.W.kitx_dict I.kIn ⟨o, h1, h2.1⟩ e (fun z => nomatch z) h
  | @dT a kvs ea =>
    cases (show u = Value.ref a from rx)
    obtain ⟨_, _, xs, _, o, es, ep, h1, h2, _⟩ := (show ObjOk X.prog X.w H s.heap a (.dT kvs) from I.hok a _ ea)
    exact PySem.W.kia_one PySem.W.kitx_dict I.kIn ⟨o, h1, h2.1⟩ e (fun z => nomatch z) h
  | @ins a C dx fs ea cl ha hn htk hm =>
    cases (show u = Value.ref a from rx)
    obtain ⟨mA, O, _⟩ := ins_get I.hok ea
    obtain ⟨od, J, _⟩ := O.look
    exact PySem.W.kia_one (PySem.W.kitx_own (cl.get _) cl.hd ha hn htk hm) I.kIn J e (fun z => nomatch z) h
end
end L2
namespace L2
open PySem PySem.Spec PyProof.Rows
structure Room (k : Nat) (A : Around) : Prop where
  hd : A.handled = none
  dp : A.depth + 3 * k + 5 < recursionLimit
  un : A.units + 16 * k + 200 < cLine
theorem Room.mono {j k : Nat} {A : Around} (r : Room k A) (h : j ≤ k) : Room j A := ⟨r.hd, by have := r.dp; omega, by have := r.un; omega⟩
theorem Room.deeper {k : Nat} {A : Around} (r : Room (k + 1) A) (env : Env) : Room k (A.deeper env) :=
  ⟨r.hd, by have := r.dp; show A.depth + 1 + 3 * k + 5 < _; omega, by have := r.un; show A.units + 3 + 16 * k + 200 < _; omega⟩
theorem Room.in1 {k : Nat} {A : Around} (r : Room (k + 1) A) : Room k A.in1 :=
  ⟨r.hd, by have := r.dp; show A.depth + 3 * k + 5 < _; omega, by have := r.un; show A.units + 1 + 16 * k + 200 < _; omega⟩
theorem Room.depth {k : Nat} {A : Around} (r : Room k A) : A.depth < recursionLimit := by have := r.dp; omega
theorem Room.units {k : Nat} {A : Around} (r : Room k A) : A.units + 64 < cLine := by have := r.un; omega
theorem Room.units0 {k : Nat} {A : Around} (r : Room k A) : A.units < cLine := by have := r.un; omega
def tNil : TA := fun _ H Q => Q [] H
def tCons (ta : TE) (tr : TA) : TA := fun σ H Q => ta σ H fun x H1 => tr σ H1 fun xs H2 => Q (x :: xs) H2
section
variable {X : Cx} {e : Expr} {es : List Expr} {te : TE} {t : TA} {pos : Pos}
theorem pa_nil : PA X [] tNil := fun _ _ _ _ H Q I h => Calls.spliced_nil ⟨[], H, I, .nil, h⟩
theorem pa_cons (ha : PE X e te) (hr : PA X es t) (hs : starEach (e :: es) X.env = (false, eval e X.env) :: starEach es X.env := by rfl) : PA X (e :: es) (tCons te t) := by
  intro pos pins s σ H Q I h
  rw [hs]
  show wpAny _ _ (spliced ((false, eval e X.env) :: backTo pos (starEach es X.env))) _ _ s
  refine Calls.spliced_cons (thn (ha pins s σ H _ I h) fun u s1 ⟨x, H1, I1, r1, q1⟩ => ?_)
  exact thn (hr pos pins s1 σ H1 _ I1 q1) fun us s2 ⟨xs, H2, I2, r2, q2⟩ => ⟨x :: xs, H2, I2, .cons r1 r2, q2⟩
def tTup (t : TA) : TE := fun σ H Q => t σ H fun xs H1 => xs.length ≤ sizeLine ∧ ∀ p, H1 p = none → Q (.ref p) (upd H1 p (.tup xs))
def tLst (t : TA) : TE := fun σ H Q => t σ H fun xs H1 => xs.length ≤ sizeLine ∧ ∀ p, H1 p = none → Q (.ref p) (upd H1 p (.lst xs))
theorem pe_tup {x1} (h : PA X es t) : PE X (.Tuple es x1 pos) (tTup t) := by
  intro pins s σ H Q I hq
  refine wpAny_Tuple_spliced (thn (h pos pins s σ H _ I hq) fun us s1 ⟨xs, H1, I1, r, z, q⟩ => ⟨by rw [← r.length]; exact z, ?_⟩)
  have hf : H1 s1.heap.objs.size = none := I1.hok.fresh (Nat.le_refl _)
  refine ⟨.ref s1.heap.objs.size, upd H1 s1.heap.objs.size (.tup xs), I1.laid (t' := s1.toks) (fun b u e => Heap.get?_push_of_some _ e) (Nat.le_refl _) ?_, rfl, q _ hf⟩
  exact ⟨z, us, r, ⟨_, Heap.get?_push_size _ rfl, rfl, _, rfl⟩⟩
theorem pe_lst (h : PA X es t) : PE X (.List es pos) (tLst t) := by
  intro pins s σ H Q I hq
  refine wpAny_List_spliced (thn (h pos pins s σ H _ I hq) fun us s1 ⟨xs, H1, I1, r, z, q⟩ => ⟨by rw [← r.length]; exact z, ?_⟩)
  have hf : H1 s1.heap.objs.size = none := I1.hok.fresh (Nat.le_refl _)
  refine ⟨.ref s1.heap.objs.size, upd H1 s1.heap.objs.size (.lst xs), I1.laid (t' := s1.toks) (fun b u e => Heap.get?_push_of_some _ e) (Nat.le_refl _) ?_, rfl, q _ hf⟩
  exact ⟨z, us, 0, r, Heap.get?_push_size _ rfl⟩
end
abbrev Sp := List V → Hp → VK → XK → Prop
abbrev CXT := List Env → Hp → Shared → XK → Value → Shared → Prop
structure Env0 (P : Program) (w : World) (K : PySem.W.Frag) (mg : Str → Option Value) (base : Heap) (A : Around) (outer : List Env) (s : Shared) (H : Hp) : Prop where
  frames : A.frames = some outer
  mod : Mod K mg base
  bs : ∀ b o, base.get? b = some o → s.heap.get? b = some o ∧ H b = none
  bsz : base.objs.size ≤ s.heap.objs.size
  funs : s.heap.FunFrames base outer
  frf : ∀ b ∈ frs outer, H b = none
  hok : HOk P w H s.heap
  bare : AllBare s.gens
def CE (outer : List Env) (P : Program) (w : World) (H : Hp) (s : Shared) (Q : VK) (u : Value) (s' : Shared) : Prop :=
  ∃ v H', s'.os = s.os ∧ AllBare s'.gens ∧ Un (frs outer) [] H H' s.heap s'.heap ∧ HOk P w H' s'.heap ∧ RelV v u ∧ Q v H'
def CR (CX : CXT) (outer : List Env) (P : Program) (w : World) (H : Hp) (s : Shared) (Q : VK) (E : XK) (r : Result) (s' : Shared) : Prop :=
  match r with
  | .ok (.ret u) => CE outer P w H s Q u s'
  | .ok _ => False
  | .error e => CX outer H s E e s'
structure FnOk (P : Program) (w : World) (K : PySem.W.Frag) (mg : Str → Option Value) (base : Heap) (CX : CXT) (k : Nat) (f : Addr) (fd : FuncData) (ps : List Str) (sp : Sp) : Prop where
  len : ∀ vs H Q E, sp vs H Q E → vs.length = ps.length
  run : ∀ (A : Around) (outer : List Env) (s : Shared) (H : Hp) (args : Args) (us : List Value) (vs : List V) (Q : VK) (E : XK), Room k A → Env0 P w K mg base A outer s H → BindsTo s fd args (ps.zip us) → Vals vs us → sp vs H Q E →
    codeAny (model P w) A (.call (.ref f) args) (CR CX outer P w H s Q E) s
theorem Env0.in1 {P : Program} {w : World} {K : PySem.W.Frag} {mg : Str → Option Value} {base : Heap} {A : Around} {outer : List Env} {s : Shared} {H : Hp} (e : Env0 P w K mg base A outer s H) :
    Env0 P w K mg base A.in1 outer s H := ⟨e.frames, e.mod, e.bs, e.bsz, e.funs, e.frf, e.hok, e.bare⟩
section
variable {X : Cx} {pins : List (Addr × Obj)} {σ : St} {H : Hp} {s s' : Shared}
theorem Inv.env0 (I : Inv X pins σ H s) : Env0 X.prog X.w X.K X.mg X.base X.A X.stack s H :=
  ⟨I.ok.frames, I.ok.mod, I.bs, Nat.le_trans I.ok.bsz I.sz, I.stack, I.stkFree, I.hok, I.bare⟩
theorem Inv.after {Q : VK} {u : Value} (I : Inv X pins σ H s) (h : CE X.stack X.prog X.w H s Q u s') : EP X pins σ Q u s' := by
  obtain ⟨v, H', os, bare, un, hok, r, q⟩ := h
  obtain ⟨hh, g, d, t, os'⟩ := s'
  obtain rfl : os' = s.os := os
  exact ⟨v, H', I.call (h' := hh) (g' := g) (d' := d) (t' := t) (ch := []) un hok bare (fun b z => absurd z (by simp)), r, q⟩
end
def tCall (sp : Sp) (dvs : List V) (E : XK) (t : TA) : TE := fun σ H Q => t σ H fun vs H1 => sp (vs ++ dvs) H1 Q E
def Binds (K : PySem.W.Frag) (fd : FuncData) (ps : List Str) (ds : List Value) : Prop :=
  ∀ (s : Shared) (us : List Value), K.In s.heap → (us ++ ds).length = ps.length → BindsTo s fd ⟨us, []⟩ (ps.zip (us ++ ds))
theorem Binds.all {K : PySem.W.Frag} {fd : FuncData} {ps : List Str} (h : ∀ us : List Value, us.length = ps.length → bindArgs fd ⟨us, []⟩ = pure (ps.zip us)) : Binds K fd ps [] := fun s us _ hl => by
  rw [List.append_nil] at hl ⊢
  exact .of_eq (h us hl)
def Passes (CX : CXT) (X : Cx) (E : XK) : Prop := ∀ (pins : List (Addr × Obj)) (σ : St) (H : Hp) (s : Shared) (e : Value) (s' : Shared), Inv X pins σ H s → CX X.stack H s E e s' → X.xe e s'
section
variable {X : Cx} {CX : CXT} {k : Nat} {f C : Addr} {fd : FuncData} {ps : List Str} {sp : Sp} {dvs : List V} {ds : List Value} {E : XK} {x m : Str} {p pos apos : Pos} {e o : Expr} {es : List Expr} {ta : TE} {t : TA}
theorem run_fn {pins : List (Addr × Obj)} {σ : St} {H : Hp} {s : Shared} {Q : VK} {us : List Value} {vs : List V} (F : FnOk X.prog X.w X.K X.mg X.base CX k f fd ps sp) (hr : Room k X.A) (hb : Binds X.K fd ps ds) (hd : Vals dvs ds) (hx : Passes CX X E)
    (I : Inv X pins σ H s) (r : Vals vs us) (h : sp (vs ++ dvs) H Q E) : wpAny (model X.prog X.w) X.A (call (.ref f) us) (EP X pins σ Q) X.xe s := by
  have r2 : Vals (vs ++ dvs) (us ++ ds) := r.append hd
  have hl : (us ++ ds).length = ps.length := by rw [← r2.length]; exact F.len _ _ _ _ h
  refine wpAny_call (codeAny_mono (F.run X.A X.stack s H ⟨us, []⟩ (us ++ ds) (vs ++ dvs) Q E hr I.env0 (hb s us I.kIn hl) r2 h) fun r s' hq => ?_)
  cases r with
  | error e => exact hx pins σ H s e s' I hq
  | ok fl =>
    cases fl with
    | ret u => exact I.after hq
    | next => exact False.elim hq
    | brk => exact False.elim hq
    | cont => exact False.elim hq
theorem pe_call (F : FnOk X.prog X.w X.K X.mg X.base CX k f fd ps sp) (hr : Room k X.A) (hg : Gl X x) (hm : X.mg x = some (.ref f)) (hk : PySem.W.keepIn X.K (.ref f) = true) (hb : Binds X.K fd ps ds) (hd : Vals dvs ds) (hx : Passes CX X E)
    (ha : PA X (e :: es) t) (hdb : (x == ("__debug__" : Str)) = false := by decide) (he : starEach (e :: es) X.env = (false, eval e X.env) :: starEach es X.env := by rfl) (hpl : (backTo pos (starEach es X.env)).any (·.1) = false := by rfl) :
    PE X (.Call (.Name x p) (e :: es) [] pos) (tCall sp dvs E t) := by
  intro pins s σ H Q I h
  refine wpAny_Call_Name_kw (ld_glob I hg hm ?_ hdb)
  refine PySem.W.callWith_K (h₀ := X.base) I.ok.mod.kin hk (thn (ha pos pins s σ H _ I h) fun us s1 ⟨vs, H1, I1, r, q⟩ => ⟨I1.kIn, ?_⟩) he hpl
  exact run_fn F hr hb hd hx I1 r q
theorem pe_call0 (F : FnOk X.prog X.w X.K X.mg X.base CX k f fd ps sp) (hr : Room k X.A) (hg : Gl X x) (hm : X.mg x = some (.ref f)) (hk : PySem.W.keepIn X.K (.ref f) = true) (hb : Binds X.K fd ps ds) (hd : Vals dvs ds) (hx : Passes CX X E)
    (hdb : (x == ("__debug__" : Str)) = false := by decide) : PE X (.Call (.Name x p) [] [] pos) (tCall sp dvs E tNil) := by
  intro pins s σ H Q I h
  refine wpAny_Call_Name_kw (ld_glob I hg hm ?_ hdb)
  exact PySem.W.callWith_K0 I.kIn hk (run_fn (us := []) F hr hb hd hx I .nil h)
structure Mk (K : PySem.W.Frag) (C f : Addr) : Prop where
  makes : PySem.W.makesIn K C = true
  init : PySem.W.findIn K (.ref C) "__init__" = some (some (.ref f))
  fn : PySem.W.isFn K (.ref f) = true
  kp : PySem.W.keepIn K (.ref C) = true
end
section
variable {X : Cx} {CX : CXT} {k : Nat} {f C : Addr} {fd : FuncData} {ps ks : List Str} {sp : Sp} {E : XK} {x m : Str} {p pos apos kpos : Pos} {e o : Expr} {es : List Expr} {kws : List Keyword} {te ta : TE} {t tk : TA} {nm : Option Str}
structure KBinds (K : PySem.W.Frag) (fd : FuncData) (ps ks : List Str) (g : List Value → List Value → List Value) (gV : List V → List V → List V) : Prop where
  to : ∀ (s : Shared) (us ws : List Value), K.In s.heap → (g us ws).length = ps.length → BindsTo s fd ⟨us, ks.zip ws⟩ (ps.zip (g us ws))
  rel : ∀ {vs : List V} {us : List Value} {zs : List V} {ws : List Value}, Vals vs us → Vals zs ws → Vals (gV vs zs) (g us ws)
variable {g : List Value → List Value → List Value} {gV : List V → List V → List V}
end
structure FnScope (N P : List Str) (sc : Scope) : Prop where
  kind : sc.kind = .function
  co : sc.isCoroutine = false
  gen : sc.isGenerator = false
  nd : N.Nodup
  pre : N.take P.length = P
  par : ∀ x ∈ P, sc.names.lookup x = some .local ∨ sc.names.lookup x = some .cell
  nofree : ∀ y ∈ sc.names, y.2 ≠ .free
theorem bindL_out {kindOf : Str → Option NameKind} {x : Str} : ∀ {binds : List (Str × Value)} {m : Str → Option Value}, (∀ v, (x, v) ∉ binds) → bindL kindOf binds m x = m x
  | [], _, _ => rfl
  | (n, v) :: r, m, h => by
    unfold bindL
    rw [bindL_out fun w hw => h w (List.mem_cons_of_mem _ hw)]
    split
    · have : x ≠ n := by rintro rfl; exact h v List.mem_cons_self
      simp [this]
    · rfl
theorem bindC_out {kindOf : Str → Option NameKind} {x : Str} : ∀ {binds : List (Str × Value)} {m : Str → Option Value}, (∀ v, (x, v) ∉ binds) → bindC kindOf binds m x = m x
  | [], _, _ => rfl
  | (n, v) :: r, m, h => by
    unfold bindC
    rw [bindC_out fun w hw => h w (List.mem_cons_of_mem _ hw)]
    split
    · rfl
    · have : x ≠ n := by rintro rfl; exact h v List.mem_cons_self
      simp [this]
theorem bindL_get {kindOf : Str → Option NameKind} {x : Str} {v : Value} : ∀ {P : List Str} {vs : List Value} {i : Nat} {m : Str → Option Value}, P.Nodup → P[i]? = some x → vs[i]? = some v → kindOf x = some .local →
    bindL kindOf (P.zip vs) m x = some v
  | [], _, _, _, _, h, _, _ => by simp at h
  | _ :: _, [], _, _, _, _, h, _ => by simp at h
  | p :: P, w :: vs, 0, m, nd, h1, h2, hk => by
    simp at h1 h2; subst h1; subst h2
    show bindL kindOf ((p, w) :: P.zip vs) m p = _
    unfold bindL
    rw [bindL_out fun v hv => (List.nodup_cons.mp nd).1 (List.of_mem_zip hv).1, if_pos hk]
    simp
  | p :: P, w :: vs, i + 1, m, nd, h1, h2, hk => by
    show bindL kindOf ((p, w) :: P.zip vs) m x = _
    unfold bindL
    exact bindL_get (i := i) (List.nodup_cons.mp nd).2 (by simpa using h1) (by simpa using h2) hk
theorem bindC_get {kindOf : Str → Option NameKind} {x : Str} {v : Value} : ∀ {P : List Str} {vs : List Value} {i : Nat} {m : Str → Option Value}, P.Nodup → P[i]? = some x → vs[i]? = some v → kindOf x ≠ some .local →
    bindC kindOf (P.zip vs) m x = some v
  | [], _, _, _, _, h, _, _ => by simp at h
  | _ :: _, [], _, _, _, _, h, _ => by simp at h
  | p :: P, w :: vs, 0, m, nd, h1, h2, hk => by
    simp at h1 h2; subst h1; subst h2
    show bindC kindOf ((p, w) :: P.zip vs) m p = _
    unfold bindC
    rw [bindC_out fun v hv => (List.nodup_cons.mp nd).1 (List.of_mem_zip hv).1, if_neg hk]
    simp
  | p :: P, w :: vs, i + 1, m, nd, h1, h2, hk => by
    show bindC kindOf ((p, w) :: P.zip vs) m x = _
    unfold bindC
    exact bindC_get (i := i) (List.nodup_cons.mp nd).2 (by simpa using h1) (by simpa using h2) hk
def start (N : List Str) (vs : List V) : St := vs.map some ++ List.replicate (N.length - vs.length) none
def cxOf (CX : CXT) (P : Program) (w : World) (K : PySem.W.Frag) (mg : Str → Option Value) (base : Heap) (N : List Str) (qual : Str) (scope : Scope) (f : Addr) (cd : Value) (A : Around) (outer : List Env) (s : Shared) (H : Hp) (E : XK) : Cx where
  prog := P
  w := w
  K := K
  mg := mg
  base := base
  A := A.deeper (envOfC qual scope s.heap.objs.size f cd)
  N := N
  s₀ := s
  H₀ := H
  env := envOfC qual scope s.heap.objs.size f cd
  outer := outer
  stack := envOfC qual scope s.heap.objs.size f cd :: outer
  ex := []
  calm := true
  fn := fun _ => true
  pn := []
  xe := fun e s' => wpAny (model P w) (A.deeper (envOfC qual scope s.heap.objs.size f cd)) (leaving (envOfC qual scope s.heap.objs.size f cd) e) (fun _ s'' => CX outer H s E e s'') (fun e' s'' => CX outer H s E e' s'') s'
theorem cell_has {sc : Scope} {n : Nat} {x : Str} (h : sc.names.lookup x = some .cell) : ∃ c, (cellsFrom n sc.names []).lookup x = some c := by
  have q := PySem.W.cellsFrom_some sc.names n [] (.inl h)
  exact Option.isSome_iff_exists.mp q
theorem inv_start {CX : CXT} {P : Program} {w : World} {K : PySem.W.Frag} {mg : Str → Option Value} {base : Heap} {N ps : List Str} {qual : Str} {scope : Scope} {f : Addr} {cd : Value} {A : Around} {outer : List Env} {s s1 : Shared} {H : Hp} {E : XK} {us : List Value} {vs : List V}
    (S : FnScope N ps scope) (hd : A.handled = none) (e0 : Env0 P w K mg base A outer s H) (hl : vs.length = ps.length) (r : Vals vs us)
    (x : InCallC s s.heap.objs.size (bindL (envOfC qual scope s.heap.objs.size f cd).kindOf (ps.zip us) fun _ => none) (cellsFrom (s.heap.objs.size + 1) scope.names []) (bindC (envOfC qual scope s.heap.objs.size f cd).kindOf (ps.zip us) fun _ => none) s1) :
    Inv (cxOf CX P w K mg base N qual scope f cd A outer s H E) [] (start N vs) H s1 := by
  have hpl : ps.length ≤ N.length := by have := congrArg List.length S.pre; rw [List.length_take] at this; omega
  obtain ⟨h1, tk, rfl, hk⟩ := x.done
  have noA : ∀ b : Addr, b ∉ (cxOf CX P w K mg base N qual scope f cd A outer s H E).ex := fun b z => absurd (show b ∈ ([] : List Addr) from z) (by simp)
  refine ⟨⟨e0.mod, S.kind, rfl, rfl, Nat.le_refl _, fun y z c h1 h2 => ?_, fun y hy => ?_, fun y c _ h => ?_, fun _ => hd, Around.frames_deeper e0.frames, .inr ⟨rfl, rfl⟩, fun b z => absurd z (noA b), e0.bs, e0.bsz, fun b _ _ => noA b, fun b z => absurd z (noA b), e0.funs, e0.frf⟩,
    rfl, e0.bare, Un.kept hk, ⟨_, x.toInCall.ns, fun i y v h1 h2 h3 => ?_⟩, fun y c h => ⟨_, x.cell y c h⟩, e0.hok.fresh (Nat.le_refl _), fun y c h => ?_, fun p hp => absurd (show p ∈ ([] : List (Addr × Obj)) from hp) (by simp), e0.hok.kept hk, ?_⟩
  · exact name_of_addr x.apart (PySem.mem_of_lookup h1) (PySem.mem_of_lookup h2)
  · have hy : scope.names.lookup y = some .cell ∨ scope.names.lookup y = some .free := hy
    rcases hy with hy | hy
    · exact cell_has hy
    · exact absurd rfl (S.nofree _ (PySem.mem_of_lookup hy))
  · exact Nat.le_of_lt (x.above y c (PySem.mem_of_lookup h))
  · have hi : i < vs.length := by
      unfold start at h2
      by_cases hi : i < vs.length
      · exact hi
      · rw [List.getElem?_append_right (by simpa using hi)] at h2
        rw [List.getElem?_replicate] at h2
        split at h2 <;> cases h2
    have ha : vs[i]? = some v := by
      unfold start at h2
      rw [List.getElem?_append_left (by simpa using hi), List.getElem?_map] at h2
      cases e : vs[i]? with
      | none => rw [e] at h2; cases h2
      | some a => rw [e] at h2; cases h2; rfl
    obtain ⟨u, hu, rv⟩ := r.get ha
    have hp : ps[i]? = some y := by
      rw [← S.pre, List.getElem?_take_of_lt (by omega)]; exact h1
    have ndP : ps.Nodup := by rw [← S.pre]; exact S.nd.sublist (List.take_sublist _ _)
    refine ⟨u, rv, ?_⟩
    rcases S.par y (List.mem_of_getElem? hp) with k | k
    · exact .inl ⟨k, bindL_get ndP hp hu k⟩
    · obtain ⟨c, e⟩ := cell_has (n := s.heap.objs.size + 1) k
      refine .inr ⟨.inl k, c, e, ?_⟩
      have q := x.cell y c e
      rw [bindC_get ndP hp hu (by show scope.names.lookup y ≠ _; rw [k]; decide)] at q
      exact q
  · exact e0.hok.fresh (Nat.le_of_lt (x.above y c (PySem.mem_of_lookup h)))
  · unfold start
    show _ = N.length
    rw [List.length_append, List.length_map, List.length_replicate]
    omega
theorem fn_of {CX : CXT} {P : Program} {w : World} {K : PySem.W.Frag} {mg : Str → Option Value} {base : Heap} {k : Nat} {f : Addr} {name qual : Str} {params : Arguments} {body : List Stmt} {scope : Scope} {dV kV doc pm cdv ct oc : Value} {an od : Option Addr}
    {osl : Array (Option Value)} {N ps : List Str} {sp : Sp} (lk : K.lookup f = some ⟨oc, od, .func (PySem.W.fnOf name qual params body scope dV kV doc pm an cdv ct), osl⟩) (hcd : PySem.W.codeIn K cdv qual = true) (S : FnScope N ps scope)
    (len : ∀ vs H Q E, sp vs H Q E → vs.length = ps.length)
    (hbody : ∀ (A : Around) (outer : List Env) (s : Shared) (H : Hp) (vs : List V) (Q : VK) (E : XK), Room k (A.deeper (envOfC qual scope s.heap.objs.size f cdv)) → sp vs H Q E →
      ∃ t, PSs (cxOf CX P w K mg base N qual scope f cdv A outer s H E) body t ∧ t { nx := fun _ H' => Q .non H', rt := Q } (start N vs) H) :
    FnOk P w K mg base CX (k + 1) f (PySem.W.fnOf name qual params body scope dV kV doc pm an cdv ct) ps sp := by
  refine ⟨len, fun A outer s H args us vs Q E hr e0 hb r hsp => ?_⟩
  have hl := len _ _ _ _ hsp
  have KX : K.In s.heap := e0.mod.kin.keeps fun b o e => (e0.bs b o e).1
  have lim : s.heap.NoLimit := e0.mod.nolimit.keeps fun b o e => (e0.bs b o e).1
  have hkind : ∀ y ∈ ps.zip us, scope.names.lookup y.1 = some .local ∨ (scope.names.lookup y.1 = some .cell ∧ ((cellsFrom (s.heap.objs.size + 1) scope.names []).lookup y.1).isSome = true) := fun ⟨n, v⟩ hy => by
    rcases S.par n (List.of_mem_zip hy).1 with q | q
    · exact .inl q
    · exact .inr ⟨q, PySem.W.cellsFrom_some _ _ _ (.inl q)⟩
  refine codeAny_call_function hr.depth (KX _ _ lk) rfl S.co S.gen rfl (PySem.W.codeRec_of KX hcd) (hb _ _ _ _ ?_)
  refine wpAny_newFunctionEnv_cells S.kind hkind fun env he s1 x => ?_
  subst he
  refine ⟨lim.keeps x.toInCall.keep, codeAny_func ?_⟩
  obtain ⟨t, ht, hq⟩ := hbody A outer s H vs Q E (hr.deeper _) hsp
  have I : Inv (cxOf CX P w K mg base N qual scope f cdv A outer s H E) [] (start N vs) H s1 := inv_start S hr.hd e0 hl r x
  refine wpAny_mono (ht [] s1 (start N vs) H _ I hq) (fun fl s' hs => ?_) fun e s' hs => hs
  have fin : ∀ {σ' : St} {H' : Hp} {v : V} {u : Value}, Inv (cxOf CX P w K mg base N qual scope f cdv A outer s H E) [] σ' H' s' → RelV v u → Q v H' → CE outer P w H s Q u s' :=
    fun {σ' H' v u} J rv q => ⟨v, H', J.os, J.bare, J.base, J.hok, rv, q⟩
  cases fl with
  | ret u =>
    obtain ⟨v, σ', H', J, rv, q⟩ := hs
    exact fin J rv q
  | next =>
    obtain ⟨σ', H', J, q⟩ := hs
    exact fin (v := V.non) (u := Value.none) J rfl q
  | brk =>
    obtain ⟨_, _, _, q⟩ := hs
    exact False.elim q
  | cont =>
    obtain ⟨_, _, _, q⟩ := hs
    exact False.elim q
end L2
namespace L2
open PySem PySem.Spec PyProof.Rows
section
variable {X : Cx} {x : Str} {p pos : Pos} {e : Expr} {es : List Expr} {t : TA} {id T : String} {r : List V → Hp → VK → Prop}
def tCB (r : List V → Hp → VK → Prop) (t : TA) : TE := fun σ H Q => t σ H fun vs H1 => r vs H1 Q
theorem pe_callB (hc : CallR X (.builtin id) r) (hg : Gl X x) (hm : X.mg x = none) (hv : bootBuiltins x = some (.builtin id)) (ha : PA X (e :: es) t) (hn : x ≠ "__name__" := by decide) (hdb : (x == ("__debug__" : Str)) = false := by decide)
    (he : starEach (e :: es) X.env = (false, eval e X.env) :: starEach es X.env := by rfl) (hpl : (backTo pos (starEach es X.env)).any (·.1) = false := by rfl) : PE X (.Call (.Name x p) (e :: es) [] pos) (tCB r t) := by
  intro pins s σ H Q I h
  refine wpAny_Call_Name_kw (ld_blt I hg hm hv ?_ hn hdb)
  exact PyProof.Rows.callWith_builtin1 (thn (ha pos pins s σ H _ I h) fun us s1 ⟨vs, H1, I1, r1, q1⟩ => hc pins s1 σ H1 vs us Q I1 r1 q1) he hpl
theorem pe_callTy (hc : CallR X (.type T) r) (hg : Gl X x) (hm : X.mg x = none) (hv : bootBuiltins x = some (.type T)) (ha : PA X (e :: es) t) (hn : x ≠ "__name__" := by decide) (hdb : (x == ("__debug__" : Str)) = false := by decide)
    (he : starEach (e :: es) X.env = (false, eval e X.env) :: starEach es X.env := by rfl) (hpl : (backTo pos (starEach es X.env)).any (·.1) = false := by rfl) : PE X (.Call (.Name x p) (e :: es) [] pos) (tCB r t) := by
  intro pins s σ H Q I h
  refine wpAny_Call_Name_kw (ld_blt I hg hm hv ?_ hn hdb)
  exact PyProof.Rows.callWith_type1 (thn (ha pos pins s σ H _ I h) fun us s1 ⟨vs, H1, I1, r1, q1⟩ => hc pins s1 σ H1 vs us Q I1 r1 q1) he hpl
end
end L2
namespace HT
open PySem PyProof.Rows
section
open PySem.SeqAt
open PySem.AutoSeq1 (wpAny_loadPart')
open PySem.MeetsSeq PySem.MeetsSeq2 PySem.MeetsSeq3
end
section
variable {prog : Program} {w : World} {A : Around} {E : Value → Shared → Prop} {s : Shared}
def sIx (n d : Nat) : Option Int → Nat
  | none => d
  | some v => if v < 0 then (v + (n : Int)).toNat else min v.toNat n
theorem sIx_nat (n d k : Nat) : sIx n d (some (k : Int)) = min k n := by
  show (if (k : Int) < 0 then ((k : Int) + (n : Int)).toNat else min (k : Int).toNat n) = min k n
  rw [if_neg (by omega), Int.toNat_natCast]
end
end HT
namespace L2
open PySem PySem.Spec PyProof.Rows
abbrev TO := St → Hp → (Option Int → Hp → Prop) → Prop
def PO (X : Cx) (e : Option Expr) (t : TO) : Prop :=
  ∀ (pins : List (Addr × Obj)) (s : Shared) (σ : St) (H : Hp) (Q : Option Int → Hp → Prop), Inv X pins σ H s → t σ H Q →
    wpAny (model X.prog X.w) X.A (evalPart e X.env) (fun u s' => ∃ o H', Inv X pins σ H' s' ∧ IsPart u o ∧ Q o H') X.xe s
def tNoPart : TO := fun _ H Q => Q none H
def tPart (t : TE) : TO := fun σ H Q => t σ H fun x H1 => ∃ i, x = .int i ∧ Q (some i) H1
section
variable {X : Cx} {e : Expr} {te : TE} {lo hi : Option Expr} {tl th : TO} {pos p2 : Pos}
theorem po_none : PO X none tNoPart := by
  intro pins s σ H Q I h
  rw [evalPart_none]
  exact wpAny_pure ⟨none, H, I, .none, h⟩
theorem po_some (h : PE X e te) : PO X (some e) (tPart te) := by
  intro pins s σ H Q I hw
  rw [evalPart_some]
  refine thn (h pins s σ H _ I hw) fun u s1 ⟨x, H1, I1, r1, q1⟩ => ?_
  obtain ⟨i, rfl, q⟩ := q1
  obtain ⟨t, rfl⟩ := r1
  exact ⟨some i, H1, I1, .int i t, q⟩
def SlR (X : Cx) (r : V → Option Int → Option Int → Hp → VK → Prop) : Prop :=
  ∀ (pins : List (Addr × Obj)) (s : Shared) (σ : St) (H : Hp) (x : V) (v vl vu : Value) (lo hi : Option Int) (sl : Addr) (Q : VK), Inv X pins σ H s → RelV x v → s.heap.IsSliceOf sl vl vu .none → IsPart vl lo → IsPart vu hi → r x lo hi H Q →
    ∃ T id, typeLookup (.type T) "__getitem__" = pure (some (.builtin id)) ∧ s.TypeIs v T ∧ wpAny (model X.prog X.w) X.A (getItem v (.ref sl)) (EP X pins σ Q) X.xe s
def tSl (r : V → Option Int → Option Int → Hp → VK → Prop) (te : TE) (tl th : TO) : TE := fun σ H Q => te σ H fun x H1 => tl σ H1 fun l H2 => th σ H2 fun u H3 => r x l u H3 Q
theorem pe_slice {r : V → Option Int → Option Int → Hp → VK → Prop} (hr : SlR X r) (he : PE X e te) (hl : PO X lo tl) (hu : PO X hi th) : PE X (.Subscript e (.Slice lo hi none p2) pos) (tSl r te tl th) := by
  intro pins s σ H Q I h
  refine Subscript_ (thn (he pins s σ H _ I h) fun v s1 ⟨x, H1, I1, r1, q1⟩ => ?_)
  refine wpAny_Slice (thn (hl pins s1 σ H1 _ I1 q1) fun vl s2 ⟨l, H2, I2, pl, q2⟩ => thn (hu pins s2 σ H2 _ I2 q2) fun vu s3 ⟨u, H3, I3, pu, q3⟩ => ?_)
  rw [evalPart_none]
  refine wpAny_pure ?_
  have I4 : Inv X pins σ H3 { s3 with heap := s3.heap.push { cls := .type "slice", data := .fields #[vl, vu, .none] } } := I3.kept (t' := s3.toks) fun b ob q => Heap.get?_push_of_some _ q
  obtain ⟨T, id, hT, ht, hg⟩ := hr pins { s3 with heap := s3.heap.push { cls := .type "slice", data := .fields #[vl, vu, .none] } } σ H3 x v vl vu l u s3.heap.objs.size Q I4 r1 (Heap.IsSliceOf.new ..) pl pu q3
  show wpAny (model X.prog X.w) X.A (subscriptTail e (.Slice lo hi none p2) v (.ref s3.heap.objs.size)) (EP X pins σ Q) X.xe { s3 with heap := s3.heap.push { cls := .type "slice", data := .fields #[vl, vu, .none] } }
  exact tail_any (ops := [.ref s3.heap.objs.size, v]) ht hT hg (by with_unfolding_all rfl)
def cutV (xs : List V) (lo hi : Option Int) : List V := (xs.drop (HT.sIx xs.length 0 lo)).take (HT.sIx xs.length xs.length hi - HT.sIx xs.length 0 lo)
theorem cutV_length (xs : List V) (lo hi : Option Int) : (cutV xs lo hi).length ≤ xs.length := by
  unfold cutV
  rw [List.length_take, List.length_drop]
  omega
end
end L2
namespace L2
open PySem PySem.Spec PyProof.Rows
def ixN (n : Nat) (i : Int) : Option Nat := if 0 ≤ i then (if i < n then some i.toNat else none) else if -(n : Int) ≤ i then some (i + n).toNat else none
def atI {α : Type} (xs : List α) (i : Int) : Option α := (ixN xs.length i).bind fun j => xs[j]?
theorem ixN_seq {n : Nat} {i : Int} {j : Nat} (h : ixN n i = some j) : seqIndex? i n = some j ∧ j < n ∧ -(n : Int) ≤ i ∧ i < n := by
  unfold ixN at h
  by_cases h0 : 0 ≤ i
  · rw [if_pos h0] at h
    by_cases h1 : i < n
    · rw [if_pos h1] at h
      have e : i.toNat = j := Option.some.inj h
      exact ⟨by rw [seqIndex_of h0 h1, e], by omega, by omega, h1⟩
    · rw [if_neg h1] at h; cases h
  · rw [if_neg h0] at h
    by_cases h1 : -(n : Int) ≤ i
    · rw [if_pos h1] at h
      have e : (i + n).toNat = j := Option.some.inj h
      exact ⟨by rw [seqIndex_neg (by omega) h1, e], by omega, h1, by omega⟩
    · rw [if_neg h1] at h; cases h
theorem atI_get {α : Type} {xs : List α} {i : Int} {v : α} (h : atI xs i = some v) : ∃ j, seqIndex? i xs.length = some j ∧ xs[j]? = some v ∧ j < xs.length ∧ -(xs.length : Int) ≤ i ∧ i < xs.length := by
  unfold atI at h
  cases e : ixN xs.length i with
  | none => rw [e] at h; cases h
  | some j =>
    rw [e] at h
    obtain ⟨h1, h2, h3, h4⟩ := ixN_seq e
    exact ⟨j, h1, h, h2, h3, h4⟩
theorem atI_nat {α : Type} {xs : List α} {j : Nat} {v : α} (h : xs[j]? = some v) : atI xs (j : Int) = some v := by
  have hj : j < xs.length := (List.getElem?_eq_some_iff.mp h).1
  have e : ixN xs.length (j : Int) = some j := by
    unfold ixN
    rw [if_pos (by omega), if_pos (by omega)]; simp
  unfold atI; rw [e]; exact h
theorem atI_last {α : Type} (xs : List α) (v : α) : atI (xs ++ [v]) (-1) = some v := by
  have hl : (xs ++ [v]).length = xs.length + 1 := by simp
  have e : ixN (xs ++ [v]).length (-1) = some xs.length := by
    unfold ixN
    rw [hl, if_neg (by decide), if_pos (by omega)]
    congr 1
    omega
  unfold atI
  rw [e]
  show (xs ++ [v])[xs.length]? = some v
  simp
def PlainIx (b : Expr) : Prop := ∀ o i, subscripted b false o i = operate [o, i] (getItem o i)
def IxR (X : Cx) (r : R2) : Prop :=
  ∀ (value slice : Expr) (pins : List (Addr × Obj)) (s : Shared) (σ : St) (H : Hp) (x y : V) (v u : Value) (Q : VK), Inv X pins σ H s → RelV x v → RelV y u → r x y H Q →
    subscripted slice false v u = operate [v, u] (getItem v u) → wpAny (model X.prog X.w) X.A (subscriptTail value slice v u) (EP X pins σ Q) X.xe s
def MtR (X : Cx) (id : String) (r : V → List V → Hp → VK → Prop) : Prop :=
  ∀ (pins : List (Addr × Obj)) (s : Shared) (σ : St) (H : Hp) (x : V) (xs : List V) (v : Value) (us : List Value) (Q : VK), Inv X pins σ H s → RelV x v → Vals xs us → r x xs H Q →
    wpAny (model X.prog X.w) X.A (call (.builtin id) (v :: us)) (EP X pins σ Q) X.xe s
section
variable {X : Cx} {a b : Expr} {ta tb : TE} {pos : Pos}
theorem pe_ix {r : R2} (hr : IxR X r) (ha : PE X a ta) (hb : PE X b tb) (hs : PlainIx b) : PE X (.Subscript a b pos) (tOp r ta tb) := by
  intro pins s σ H Q I h
  exact Subscript_ (binT ha hb I h fun v u s2 x y H2 I2 rx ry q => hr a b pins s2 σ H2 x y v u Q I2 rx ry q (hs _ _))
def rIxL (K : PySem.W.Frag) : R2 := fun x y H Q => ∃ p xs i v, x = .ref p ∧ y = .int i ∧ SqL K H p xs ∧ atI xs i = some v ∧ Q v H
def rIxS : R2 := fun x y H Q => ∃ z i c, x = .str z ∧ y = .int i ∧ z.length ≤ sizeLine ∧ atI z.cps.toList i = some c ∧ Q (.str ⟨#[c]⟩) H
theorem ix_list : IxR X (rIxL X.K) := by
  intro value slice pins s σ H x y v u Q I rx ry h hs
  obtain ⟨p, xs, i, z, rfl, rfl, hq, he, q⟩ := h
  cases rx
  obtain ⟨t, rfl⟩ := ry
  obtain ⟨its, r, pl, hz⟩ := I.list hq
  obtain ⟨j, h1, h2, h3, h4, h5⟩ := atI_get he
  obtain ⟨w, ew, rw'⟩ := r.get h2
  have hl := r.length
  have hn := line63
  have fin : EP X pins σ Q w s := ⟨z, H, I, rw', q⟩
  by_cases h0 : 0 ≤ i
  · have hj : i.toNat = j := by
      rw [seqIndex_of h0 h5] at h1
      exact Option.some.inj h1
    exact item_listR pl.isList h0 (by omega) (by rw [hj]; simpa using ew) fin hs
  · have hj : (i + (its.toArray.size : Int)).toNat = j := by
      rw [seqIndex_neg (by omega) h4] at h1
      rw [List.size_toArray, ← hl]
      exact Option.some.inj h1
    exact subscriptTail_builtinR (x := w) pl.isList.typeIs slot_list_getitem.lookup
      (wpAny_getItem_list_neg (Q := fun r s' => r = w ∧ EP X pins σ Q r s') pl.isList (by omega) (by rw [List.size_toArray] <;> omega) (by omega) (by rw [hj]; simpa using ew) ⟨rfl, fin⟩) hs
theorem ix_str : IxR X rIxS := by
  intro value slice pins s σ H x y v u Q I rx ry h hs
  obtain ⟨z, i, c, rfl, rfl, hz, he, q⟩ := h
  obtain ⟨t, rfl⟩ := rx
  obtain ⟨t', rfl⟩ := ry
  obtain ⟨j, h1, h2, h3, h4, h5⟩ := atI_get he
  have hl : z.cps.toList.length = z.length := by simp [Str.length]
  rw [hl] at h1 h4 h5
  have hn := line63
  exact tail_any (typeIs_str s z t) slot_str_getitem.lookup (getItem_str (c := c) (by
    have e1 : decide (i < -(2 ^ 63 : Int)) = false := decide_eq_false (by omega)
    have e2 : decide (i ≥ 2 ^ 63) = false := decide_eq_false (by omega)
    rw [e1, e2, Bool.or_false]) (by rw [h1]; simpa using h2) ⟨.str ⟨#[c]⟩, H, I.tok _, ⟨_, rfl⟩, q⟩) hs
theorem slice_bounds (lo hi : Option Int) (n : Nat) : (sliceBounds lo hi none n).1 = ((HT.sIx n 0 lo : Nat) : Int) ∧ (sliceBounds lo hi none n).2.1 = ((HT.sIx n n hi : Nat) : Int) ∧ (sliceBounds lo hi none n).2.2 = 1 := by
  refine ⟨?_, ?_, rfl⟩
  · cases lo with
    | none => simp [sliceBounds, HT.sIx]
    | some i =>
      simp only [sliceBounds, HT.sIx, Option.getD_none, show (1 : Int) > 0 by decide, if_true]
      by_cases h : i < 0
      · simp only [h, if_true] <;> omega
      · simp only [h, if_false] <;> omega
  · cases hi with
    | none => simp [sliceBounds, HT.sIx]
    | some i =>
      simp only [sliceBounds, HT.sIx, Option.getD_none, show (1 : Int) > 0 by decide, if_true]
      by_cases h : i < 0
      · simp only [h, if_true] <;> omega
      · simp only [h, if_false] <;> omega
theorem slicePick_cut (its : List Value) (lo hi : Option Int) : slicePick its.toArray lo hi none = ((its.drop (HT.sIx its.length 0 lo)).take (HT.sIx its.length its.length hi - HT.sIx its.length 0 lo)).toArray := by
  obtain ⟨h1, h2, h3⟩ := slice_bounds lo hi its.toArray.size
  unfold slicePick
  rw [h1, h2, h3]
  simp only [sliceRange_one, pick_run, List.size_toArray] <;> rfl
def rSlL (K : PySem.W.Frag) : V → Option Int → Option Int → Hp → VK → Prop := fun x lo hi H Q => ∃ a xs, x = .ref a ∧ SqL K H a xs ∧ ∀ p, H p = none → Q (.ref p) (upd H p (.lst (cutV xs lo hi)))
theorem sl_list : SlR X (rSlL X.K) := by
  intro pins s σ H x v vl vu lo hi sl Q I rx hs pl pu h
  obtain ⟨a, xs, rfl, hx, q⟩ := h
  cases rx
  obtain ⟨its, r, ht, hz⟩ := I.list hx
  have hlen := r.length
  refine ⟨"list", _, slot_list_getitem.lookup, ht.isList.typeIs, ?_⟩
  refine wpAny_getItem_list_slice ht.isList hs pl pu .none (by simp) ?_ (by rw [List.size_toArray] <;> omega)
  rw [slicePick_cut, ← hlen]
  refine ⟨.ref s.heap.objs.size, _, I.laid (t' := s.toks) (o := .lst (cutV xs lo hi)) (fun b ob q => Heap.get?_push_of_some _ q) (Nat.le_refl _) ?_, rfl, q _ (I.hok.fresh (Nat.le_refl _))⟩
  exact ⟨Nat.le_trans (cutV_length xs lo hi) hz, _, 0, (r.drop (HT.sIx xs.length 0 lo)).take (HT.sIx xs.length xs.length hi - HT.sIx xs.length 0 lo), Heap.get?_push_size _ rfl⟩
def flatV : V → Bool
  | .non => true
  | .bl _ => true
  | .int _ => true
  | .str _ => true
  | _ => false
def eqV : V → V → Bool
  | .non, .non => true
  | .bl a, .bl b => a == b
  | .bl a, .int b => (if a then 1 else 0) == b
  | .int a, .bl b => a == (if b then 1 else 0)
  | .int a, .int b => a == b
  | .str a, .str b => a == b
  | _, _ => false
theorem eqAt_V {A : Around} {s : Shared} {y x : V} {u v : Value} (ry : RelV y u) (rx : RelV x v) (fy : flatV y = true) (fx : flatV x = true) : SeqAt.EqAt A s u v (eqV y x) := by
  cases y with
  | non =>
    cases ry
    cases x with
    | non => cases rx; exact SeqAt.EqAt.same _
    | bl b => cases rx; exact SeqAt.EqAt.none_bool b
    | int b => obtain ⟨t, rfl⟩ := rx; exact SeqAt.EqAt.none_int b t
    | str b => obtain ⟨t, rfl⟩ := rx; exact SeqAt.EqAt.none_str b t
    | _ => exact absurd (show false = true from fx) Bool.false_ne_true
  | bl a =>
    cases ry
    cases x with
    | non => cases rx; exact SeqAt.EqAt.bool_none a
    | bl b => cases rx; exact SeqAt.EqAt.bool_bool a b
    | int b => obtain ⟨t, rfl⟩ := rx; exact SeqAt.EqAt.bool_int a b t
    | str b => obtain ⟨t, rfl⟩ := rx; exact SeqAt.EqAt.bool_str a b t
    | _ => exact absurd (show false = true from fx) Bool.false_ne_true
  | int a =>
    obtain ⟨t', rfl⟩ := ry
    cases x with
    | non => cases rx; exact SeqAt.EqAt.int_none a t'
    | bl b => cases rx; exact SeqAt.EqAt.int_bool a t' b
    | int b => obtain ⟨t, rfl⟩ := rx; exact SeqAt.EqAt.int_int a t' b t
    | str b => obtain ⟨t, rfl⟩ := rx; exact SeqAt.EqAt.int_str a t' b t
    | _ => exact absurd (show false = true from fx) Bool.false_ne_true
  | str a =>
    obtain ⟨t', rfl⟩ := ry
    cases x with
    | non => cases rx; exact SeqAt.EqAt.str_none a t'
    | bl b => cases rx; exact SeqAt.EqAt.str_bool a t' b
    | int b => obtain ⟨t, rfl⟩ := rx; exact SeqAt.EqAt.str_int a t' b t
    | str b => obtain ⟨t, rfl⟩ := rx; exact SeqAt.EqAt.str_str a t' b t
    | _ => exact absurd (show false = true from fx) Bool.false_ne_true
  | _ => exact absurd (show false = true from fy) Bool.false_ne_true
def eqU (x : V) (u : Value) : Bool := match u with
  | .none => eqV .non x
  | .bool b => eqV (.bl b) x
  | .int i _ => eqV (.int i) x
  | .str z _ => eqV (.str z) x
  | _ => false
theorem eqU_of {x y : V} {u : Value} (r : RelV y u) (f : flatV y = true) : eqU x u = eqV y x := by
  cases y with
  | non => cases r; rfl
  | bl b => cases r; rfl
  | int i => obtain ⟨t, rfl⟩ := r; rfl
  | str z => obtain ⟨t, rfl⟩ := r; rfl
  | _ => exact absurd (show false = true from f) Bool.false_ne_true
theorem any_eqU {x : V} : ∀ {xs : List V} {us : List Value}, Vals xs us → xs.all flatV = true → us.any (eqU x) = xs.any fun y => eqV y x
  | _, _, .nil, _ => rfl
  | y :: xs, u :: us, .cons r t, f => by
    rw [List.all_cons, Bool.and_eq_true] at f
    rw [List.any_cons, List.any_cons, eqU_of r f.1, any_eqU t f.2]
theorem mem_eqAt {A : Around} {s : Shared} {x : V} {v : Value} (rx : RelV x v) (fx : flatV x = true) : ∀ {xs : List V} {us : List Value}, Vals xs us → xs.all flatV = true → ∀ u ∈ us, SeqAt.EqAt A s u v (eqU x u)
  | _, _, .nil, _ => fun u hu => by cases hu
  | y :: xs, u :: us, .cons r t, f => fun u' hu => by
    rw [List.all_cons, Bool.and_eq_true] at f
    rcases List.mem_cons.mp hu with rfl | hu
    · rw [eqU_of r f.1]; exact eqAt_V r rx f.1 fx
    · exact mem_eqAt rx fx t f.2 u' hu
def inV (x : V) (xs : List V) : Bool := xs.any fun y => eqV y x
def rIn (K : PySem.W.Frag) (neg : Bool) : R2 := fun x y H Q => ∃ p xs, y = .ref p ∧ (SqL K H p xs ∨ SqT K H p xs) ∧ flatV x = true ∧ xs.all flatV = true ∧ Q (.bl (if neg then !inV x xs else inV x xs)) H
theorem op_in_seq : OpR X (compareOp .In) (rIn X.K false) := by
  intro pins s σ H x y v u Q I rx ry h
  obtain ⟨p, xs, rfl, hq, fx, fs, q⟩ := h
  cases ry
  rcases hq with hq | hq
  · obtain ⟨its, r, pl, hz⟩ := I.list hq
    refine SeqAt.in_listAt (eqU x) pl.isList (fun w hw => mem_eqAt rx fx r fs w (by simpa using hw)) ⟨.bl _, H, I, rfl, ?_⟩
    rw [show its.toArray.any (eqU x) = its.any (eqU x) by simp, any_eqU r fs]
    exact q
  · obtain ⟨its, r, pl, hz⟩ := I.tuple hq
    refine SeqAt.in_tupleAt (eqU x) pl (fun w hw => mem_eqAt rx fx r fs w (by simpa using hw)) ⟨.bl _, H, I, rfl, ?_⟩
    rw [show its.toArray.any (eqU x) = its.any (eqU x) by simp, any_eqU r fs]
    exact q
theorem call_len_seq : CallR X (.builtin "len") (fun xs H Q => ∃ p ys, xs = [.ref p] ∧ (SqL X.K H p ys ∨ SqT X.K H p ys) ∧ Q (.int ys.length) H) := by
  intro pins s σ H xs us Q I r h
  obtain ⟨p, ys, rfl, hq, q⟩ := h
  obtain ⟨u, rfl, rx⟩ := vals1 r
  cases rx
  have hn := line63
  rcases hq with hq | hq
  · obtain ⟨its, r', pl, hz⟩ := I.list hq
    have hlen := r'.length
    exact Calls.call_len_list pl.isList (by simp only [List.size_toArray] <;> omega) ⟨.int ys.length, H, I.tok _, ⟨s.toks + 1, by rw [List.size_toArray, hlen]⟩, q⟩
  · obtain ⟨its, r', pl, hz⟩ := I.tuple hq
    have hlen := r'.length
    exact len_tuple pl (by simp only [List.size_toArray] <;> omega) ⟨.int ys.length, H, I.tok _, ⟨s.toks + 1, by rw [List.size_toArray, hlen]⟩, q⟩
theorem call_len_str : CallR X (.builtin "len") (fun xs H Q => ∃ z, xs = [.str z] ∧ z.length ≤ sizeLine ∧ Q (.int z.length) H) := by
  intro pins s σ H xs us Q I r h
  obtain ⟨z, rfl, hz, q⟩ := h
  obtain ⟨u, rfl, t, rfl⟩ := vals1 r
  have hn := line63
  exact len_str (by omega) ⟨.int z.length, H, I.tok _, ⟨_, rfl⟩, q⟩
theorem call_list_of : CallR X (.type "list") (fun xs H Q => ∃ p ys, xs = [.ref p] ∧ (SqL X.K H p ys ∨ SqT X.K H p ys) ∧ ∀ l, H l = none → Q (.ref l) (upd H l (.lst ys))) := by
  intro pins s σ H xs us Q I r h
  obtain ⟨p, ys, rfl, hq, q⟩ := h
  obtain ⟨u, rfl, rx⟩ := vals1 r
  cases rx
  have fin : ∀ (its : List Value), Vals ys its → ys.length ≤ sizeLine → ∀ (h' : Heap) (c' : Nat), (∀ b o', s.heap.get? b = some o' → h'.get? b = some o') →
      h'.get? s.heap.objs.size = some { cls := .type "list", dict := none, data := .seq its.toArray c', slots := #[] } → EP X pins σ Q (.ref s.heap.objs.size) { s with heap := h' } := fun its r' hz h' c' kp e =>
    ⟨.ref s.heap.objs.size, _, I.laid (t' := s.toks) kp (Nat.le_refl _) (show ObjOk X.prog X.w _ h' _ (.lst ys) from ⟨hz, its, c', r', e⟩), rfl, q _ (I.hok.fresh (Nat.le_refl _))⟩
  rcases hq with hq | hq
  · obtain ⟨its, r', pl, hz⟩ := I.list hq
    have hlen := r'.length
    obtain ⟨o, ho, hc, n, hd⟩ := pl.isList
    exact call_list_seq p (.inl rfl) ho hc hd (fun h' c' kp e => fin its r' hz h' c' kp e) (by simp only [List.size_toArray] <;> omega)
  · obtain ⟨its, r', pl, hz⟩ := I.tuple hq
    have hlen := r'.length
    obtain ⟨o, ho, hc, n, hd⟩ := pl
    exact call_list_seq p (.inr rfl) ho hc hd (fun h' c' kp e => fin its r' hz h' c' kp e) (by simp only [List.size_toArray] <;> omega)
theorem call_tuple_of : CallR X (.type "tuple") (fun xs H Q => ∃ p ys, xs = [.ref p] ∧ ((SqL X.K H p ys ∧ ∀ l, H l = none → Q (.ref l) (upd H l (.tup ys))) ∨ (SqT X.K H p ys ∧ Q (.ref p) H))) := by
  intro pins s σ H xs us Q I r h
  obtain ⟨p, ys, rfl, h⟩ := h
  obtain ⟨u, rfl, rx⟩ := vals1 r
  cases rx
  rcases h with ⟨hq, q⟩ | ⟨hq, q⟩
  · obtain ⟨its, r', pl, hz⟩ := I.list hq
    have hlen := r'.length
    refine call_tuple_list pl.isList (fun h' kp => ?_) (by simp only [List.size_toArray] <;> omega)
    have I1 : Inv X pins σ H { s with heap := h' } := I.kept (t' := s.toks) kp
    have I2 : Inv X pins σ (upd H h'.objs.size (.tup ys)) { s with heap := h'.push { cls := .type "tuple", data := .seq its.toArray } } :=
      I1.laid (t' := s.toks) (fun b o e => Heap.get?_push_of_some _ e) (Nat.le_refl _) (show ObjOk X.prog X.w _ _ _ (.tup ys) from ⟨hz, its, r', IsTup.new _ _⟩)
    exact ⟨.ref h'.objs.size, _, I2, rfl, q _ (I1.hok.fresh (Nat.le_refl _))⟩
  · obtain ⟨its, r', pl, hz⟩ := I.tuple hq
    exact call_tuple_same pl ⟨.ref p, H, I, rfl, q⟩
def tyV (K : PySem.W.Frag) (T : String) (x : V) (H : Hp) : Prop := match x with
  | .str _ => T = "str"
  | .int _ => T = "int"
  | .ref p => (T = "list" ∧ ∃ xs, SqL K H p xs) ∨ (T = "tuple" ∧ ∃ o, K.lookup p = some o ∧ o.cls = .type "tuple" ∧ o.dict = none) ∨
      (T = "dict" ∧ ((∃ kvs, H p = some (.dK kvs)) ∨ ∃ kvs, H p = some (.dT kvs))) ∨ (T = "set" ∧ ∃ S n, H p = some (.set S n))
  | _ => False
theorem tyV_is {pins : List (Addr × Obj)} {σ : St} {H : Hp} {s : Shared} {T : String} {x : V} {v : Value} (I : Inv X pins σ H s) (r : RelV x v) (ty : tyV X.K T x H) :
    s.TypeIs v T ∧ ∀ a, v = .ref a → ∃ ob, s.heap.get? a = some ob ∧ ob.dict = none := by
  cases x with
  | str z =>
    obtain ⟨t, rfl⟩ := r
    cases (show T = "str" from ty)
    exact ⟨typeIs_str s z t, fun _ e => nomatch e⟩
  | int i =>
    obtain ⟨t, rfl⟩ := r
    cases (show T = "int" from ty)
    exact ⟨typeIs_int s i t, fun _ e => nomatch e⟩
  | ref p =>
    cases r
    rcases ty with ⟨rfl, xs, hq⟩ | ⟨rfl, o, hk, hc, hd⟩ | ⟨rfl, hk⟩ | ⟨rfl, S, n, hk⟩
    · obtain ⟨its, _, pl, _⟩ := I.list hq
      refine ⟨pl.isList.typeIs, fun a e => ?_⟩
      cases e
      obtain ⟨o, n, e, c, hd, _⟩ := pl
      exact ⟨o, e, hd⟩
    · refine ⟨⟨o, I.kIn p o hk, hc⟩, fun a e => ?_⟩
      cases e
      exact ⟨o, I.kIn _ o hk, hd⟩
    · have z : ∃ o, s.heap.get? p = some o ∧ o.ExactDict := by
        rcases hk with ⟨kvs, hk⟩ | ⟨kvs, hk⟩
        · obtain ⟨_, _, _, _, o, _, _, e, ex, _⟩ := I.hok p _ hk
          exact ⟨o, e, ex⟩
        · obtain ⟨_, _, _, _, o, _, _, e, ex, _⟩ := I.hok p _ hk
          exact ⟨o, e, ex⟩
      obtain ⟨o, e, ex⟩ := z
      refine ⟨⟨o, e, ex.1⟩, fun a e2 => ?_⟩
      cases e2
      exact ⟨o, e, ex.2.1⟩
    · obtain ⟨o, _, _, _, e, ex, _⟩ := I.hok p _ hk
      refine ⟨⟨o, e, ex.1⟩, fun a e2 => ?_⟩
      cases e2
      exact ⟨o, e, ex.2.1⟩
  | _ => exact False.elim ty
def tBM0 (K : PySem.W.Frag) (T : String) (r : V → List V → Hp → VK → Prop) (to : TE) : TE := fun σ H Q => to σ H fun x H1 => tyV K T x H1 ∧ r x [] H1 Q
def tBM (K : PySem.W.Frag) (T : String) (r : V → List V → Hp → VK → Prop) (to : TE) (t : TA) : TE := fun σ H Q => to σ H fun x H1 => tyV K T x H1 ∧ t σ H1 fun xs H2 => r x xs H2 Q
variable {o e : Expr} {es : List Expr} {to : TE} {t : TA} {name : Str} {apos cpos : Pos} {T id : String} {r : V → List V → Hp → VK → Prop}
theorem pe_bm0 (pa : PlainAttrs T) (slot : Slot T name id) (hty : typeOf (.builtin id) = pure (.type "method_descriptor")) (hm : MtR X id r) (ho : PE X o to)
    (hbase : attributeBase o name X.env (eval o X.env) = eval o X.env := by rfl) (hline : (apos.endLine == cpos.line) = true := by rfl) : PE X (.Call (.Attribute o name apos) [] [] cpos) (tBM0 X.K T r to) := by
  intro pins s σ H Q I h
  refine wpAny_Call_method0_late hbase hline (thn (ho pins s σ H _ I h) fun v s1 ⟨x, H1, I1, r1, ty, q1⟩ => ?_)
  obtain ⟨h1, h2⟩ := tyV_is I1 r1 ty
  exact ⟨T, id, pa, slot, hty, h1, h2, Calls.callWith_builtin rfl (PySem.evalArgs_none (hm pins s1 σ H1 x [] v [] Q I1 r1 .nil q1))⟩
theorem pe_bm (pa : PlainAttrs T) (slot : Slot T name id) (hty : typeOf (.builtin id) = pure (.type "method_descriptor")) (hm : MtR X id r) (ho : PE X o to) (ha : PA X (e :: es) t)
    (hbase : attributeBase o name X.env (eval o X.env) = eval o X.env := by rfl)
    (hfew : ((backTo cpos (starEach (e :: es) X.env)).all (fun x => !x.1) && (backToKw cpos (keywordEach [] X.env)).all (fun x => x.1.isSome)
      && decide ((e :: es).length + ([] : List Keyword).length + (if ([] : List Keyword).isEmpty then 0 else 1) < 30)) = true := by rfl)
    (hline : (apos.endLine == cpos.line) = true := by rfl) (hs : starEach (e :: es) X.env = (false, eval e X.env) :: starEach es X.env := by rfl) (hplain : (backTo cpos (starEach es X.env)).any (·.1) = false := by rfl) :
    PE X (.Call (.Attribute o name apos) (e :: es) [] cpos) (tBM X.K T r to t) := by
  intro pins s σ H Q I h
  refine wpAny_Call_method_late hbase hfew hline rfl (thn (ho pins s σ H _ I h) fun v s1 ⟨x, H1, I1, r1, ty, q1⟩ => ?_)
  obtain ⟨h1, h2⟩ := tyV_is I1 r1 ty
  refine ⟨T, id, pa, slot, hty, h1, h2, ?_⟩
  have hA := ha cpos pins s1 σ H1 _ I1 q1
  rw [hs] at hA ⊢
  refine Calls.callWith_builtin (by show (false || (backTo cpos (starEach es X.env)).any (·.1)) = false; rw [hplain] <;> rfl) (Calls.evalArgs_plain ?_)
  exact thn hA fun us s2 ⟨vs, H2, I2, r2, q2⟩ => hm pins s2 σ H2 x vs v us Q I2 r1 r2 q2
/- xs.append(e), list.index on a module's tuple .. are MtR facts of 06m -/
end
end L2
namespace L2
open PySem PySem.Spec PyProof.Rows
def MtM (X : Cx) (id : String) (r : V → List V → Hp → VK → Prop) : Prop :=
  ∀ (pins : List (Addr × Obj)) (s : Shared) (σ : St) (H : Hp) (x : V) (xs : List V) (v : Value) (us : List Value) (Q : VK), Inv X pins σ H s → RelV x v → Vals xs us → r x xs H Q →
    wpAny (model X.prog X.w) X.A (call (.builtin id) (v :: us)) (EP X pins σ Q) X.xe s
theorem Vals.one : ∀ {x : V} {us : List Value}, Vals [x] us → ∃ u, us = [u] ∧ RelV x u
  | _, _, .cons r .nil => ⟨_, rfl, r⟩
theorem Vals.reverse {xs : List V} {us : List Value} (h : Vals xs us) : Vals xs.reverse us.reverse := by
  induction h with
  | nil => exact .nil
  | cons r t ih => rw [List.reverse_cons, List.reverse_cons]; exact Vals.append ih (.cons r .nil)
section
variable {X : Cx} {pins : List (Addr × Obj)} {σ : St} {H : Hp} {s : Shared} {l b : Addr} {xs ys zs : List V}
theorem Inv.lset {its its' : List Value} {n : Nat} {f : Array Value → Array Value} {t' : Nat} (I : Inv X pins σ H s) (hH : H l = some (.lst xs))
    (e : s.heap.get? l = some { cls := .type "list", data := .seq its.toArray n }) (hf : f its.toArray = its'.toArray) (hv : Vals ys its') (hz : ys.length ≤ sizeLine) :
    Inv X pins σ (upd H l (.lst ys)) { s with heap := s.heap.update l (Obj.mapSeq f), toks := t' } := by
  have q := PySem.IsL.update e f
  rw [hf] at q
  refine I.write (x := l) (e := l) (by rw [hH]; exact trivial) (.inl rfl) (fun b' u hb hu => (Heap.get?_update_other s.heap (Obj.mapSeq f) (Ne.symm hb)).trans hu) ⟨_, q⟩ ?_
  exact ⟨hz, its', _, hv, q⟩
theorem Inv.lnew {its : List Value} {t' : Nat} (I : Inv X pins σ H s) (hv : Vals ys its) (hz : ys.length ≤ sizeLine) :
    Inv X pins σ (upd H s.heap.objs.size (.lst ys)) { s with heap := s.heap.push { cls := .type "list", data := .seq its.toArray }, toks := t' } :=
  I.laid (fun _ _ q => Heap.get?_push_of_some _ q) (Nat.le_refl _) ⟨hz, its, 0, hv, Heap.get?_push_size _ rfl⟩
theorem Inv.fresh (I : Inv X pins σ H s) : H s.heap.objs.size = none := I.hok.fresh (Nat.le_refl _)
theorem Inv.lstM (I : Inv X pins σ H s) (hH : H l = some (.lst xs)) : xs.length ≤ sizeLine ∧ ∃ (its : List Value) (n : Nat), Vals xs its ∧ xs.length = its.length ∧ s.heap.get? l = some { cls := .type "list", data := .seq its.toArray n } := by
  obtain ⟨z, its, n, r, e⟩ := I.hok l _ hH
  exact ⟨z, its, n, r, r.length, e⟩
theorem notLongL {n : Nat} (h : n ≤ sizeLine) : Builtin.List.listTooLong n = false := by
  unfold Builtin.List.listTooLong
  exact decide_eq_false (by omega)
end
section
variable {X : Cx}
def rAppend : V → List V → Hp → VK → Prop := fun x vs H Q => ∃ l xs y, x = .ref l ∧ vs = [y] ∧ H l = some (.lst xs) ∧ xs.length < sizeLine ∧ Q .non (upd H l (.lst (xs ++ [y])))
theorem mt_append : MtM X "list.append" rAppend := by
  intro pins s σ H x vs v us Q I rx rv h
  obtain ⟨l, xs, y, rfl, rfl, hH, hz, q⟩ := h
  cases rx
  obtain ⟨u, rfl, ru⟩ := rv.one
  obtain ⟨z, its, n, r, hl, e⟩ := I.lstM hH
  refine call_meets F.slot_list_append ⟨_, e, rfl⟩ F.entry_list_append (F.args_list_append_2 _ _) (PySem.list_append l its.toArray n u (by rw [List.size_toArray]; omega)) ⟨e, ?_⟩
  refine ⟨.non, _, I.lset (its' := its ++ [u]) hH e (by simp) (r.append (.cons ru .nil)) ?_, rfl, q⟩
  rw [List.length_append, List.length_singleton]
  omega
def rExtend : V → List V → Hp → VK → Prop := fun x vs H Q => ∃ l b xs zs, x = .ref l ∧ vs = [.ref b] ∧ H l = some (.lst xs) ∧ H b = some (.lst zs) ∧ xs.length + zs.length ≤ sizeLine ∧ Q .non (upd H l (.lst (xs ++ zs)))
theorem mt_extend : MtM X "list.extend" rExtend := by
  intro pins s σ H x vs v us Q I rx rv h
  obtain ⟨l, b, xs, zs, rfl, rfl, hH, hB, hz, q⟩ := h
  cases rx
  obtain ⟨u, rfl, ru⟩ := rv.one
  cases ru
  obtain ⟨z, its, n, r, hl, e⟩ := I.lstM hH
  obtain ⟨z2, its2, n2, r2, hl2, e2⟩ := I.lstM hB
  have hsz : its.toArray.size + its2.toArray.size ≤ sizeLine := by rw [List.size_toArray, List.size_toArray]; omega
  have hlong : ¬ (!its.toArray.isEmpty && Builtin.List.listTooLong (its.toArray.size + its2.toArray.size)) = true := by
    rw [notLongL hsz, Bool.and_false]
    exact Bool.false_ne_true
  refine call_meets F.slot_list_extend ⟨_, e, rfl⟩ F.entry_list_extend (F.args_list_extend_2 _ _)
    (AutoSeq1.list_extend_list_list_0 l its.toArray n b its2.toArray n2 hlong (by rw [List.size_toArray]; omega) (by omega)) ⟨e, e2, ?_⟩
  refine ⟨.non, _, I.lset (its' := its ++ its2) hH e (by simp) (r.append r2) ?_, rfl, q⟩
  rw [List.length_append]
  omega
def rCat : R2 := fun x y H Q => ∃ l b xs zs, x = .ref l ∧ y = .ref b ∧ H l = some (.lst xs) ∧ H b = some (.lst zs) ∧ xs.length + zs.length ≤ sizeLine ∧ ∀ p, H p = none → Q (.ref p) (upd H p (.lst (xs ++ zs)))
theorem op_cat : OpR X (binaryOp .Add) rCat := by
  intro pins s σ H x y v u Q I rx ry h
  obtain ⟨l, b, xs, zs, rfl, rfl, hH, hB, hz, q⟩ := h
  cases rx
  cases ry
  obtain ⟨z, its, n, r, hl, e⟩ := I.lstM hH
  obtain ⟨z2, its2, n2, r2, hl2, e2⟩ := I.lstM hB
  refine PySem.P.add_list e e2 ?_ (by rw [List.size_toArray, List.size_toArray]; omega)
  have ea : its.toArray ++ its2.toArray = (its ++ its2).toArray := by simp
  rw [ea]
  exact ⟨.ref _, _, I.lnew (t' := s.toks) (r.append r2) (by rw [List.length_append]; omega), rfl, q _ I.fresh⟩
end
section
variable {prog : Program} {w : World} {A : Around} {E : Value → Shared → Prop} {s : Shared}
set_option maxRecDepth 100000 in
end
section
variable {X : Cx}
end
end L2
namespace L2
open PySem PySem.Spec PyProof.Rows
section
variable {κ : Type} [DecidableEq κ]
def valV (kvs : List (κ × V)) (k : κ) : Option V := (kvs.find? fun kv => decide (kv.1 = k)).map (·.2)
def putK (kvs : List (κ × V)) (k : κ) (v : V) : List (κ × V) :=
  if (kvs.any fun kv => decide (kv.1 = k)) = true then kvs.map (fun kv => if kv.1 = k then (kv.1, v) else kv) else kvs ++ [(k, v)]
theorem valV_pos {p : κ × V} {r : List (κ × V)} {k : κ} (e : p.1 = k) : valV (p :: r) k = some p.2 := by simp [valV, List.find?_cons, e]
theorem valV_neg {p : κ × V} {r : List (κ × V)} {k : κ} (e : ¬ p.1 = k) : valV (p :: r) k = valV r k := by simp [valV, List.find?_cons, e]
theorem valV_any (k : κ) : ∀ kvs : List (κ × V), (kvs.any fun kv => decide (kv.1 = k)) = (valV kvs k).isSome
  | [] => rfl
  | p :: r => by
    rw [List.any_cons]
    by_cases e : p.1 = k
    · simp only [valV_pos e, decide_eq_true e, Bool.true_or, Option.isSome_some]
    · rw [valV_neg e, decide_eq_false e, Bool.false_or]; exact valV_any k r
theorem valV_map (k j : κ) (y : V) : ∀ kvs : List (κ × V), valV (kvs.map fun kv => if kv.1 = k then (kv.1, y) else kv) j = (valV kvs j).map fun x => if j = k then y else x
  | [] => rfl
  | p :: r => by
    have ih := valV_map k j y r
    rw [List.map_cons]
    by_cases h : p.1 = k
    · rw [if_pos h]
      by_cases e : p.1 = j
      · rw [valV_pos (p := (p.1, y)) e, valV_pos e, Option.map_some, if_pos (e.symm.trans h)]
      · rw [valV_neg (p := (p.1, y)) e, valV_neg e, ih]
    · rw [if_neg h]
      by_cases e : p.1 = j
      · rw [valV_pos (p := p) e, valV_pos e, Option.map_some, if_neg (fun z => h (e.trans z))]
      · rw [valV_neg (p := p) e, valV_neg e, ih]
theorem valV_snoc (k j : κ) (y : V) : ∀ kvs : List (κ × V), valV kvs k = none → valV (kvs ++ [(k, y)]) j = if j = k then some y else valV kvs j
  | [], _ => by
    by_cases e : k = j
    · rw [if_pos e.symm]; exact valV_pos (p := (k, y)) e
    · rw [if_neg (fun z => e z.symm)]; exact valV_neg (p := (k, y)) e
  | p :: r, hn => by
    rw [List.cons_append]
    have hk : ¬ p.1 = k := fun z => by rw [valV_pos z] at hn; cases hn
    rw [valV_neg hk] at hn
    have ih := valV_snoc k j y r hn
    by_cases e : p.1 = j
    · rw [valV_pos e, valV_pos e, if_neg (fun z => hk (e.trans z))]
    · rw [valV_neg e, valV_neg e, ih]
theorem valV_put (kvs : List (κ × V)) (k j : κ) (y : V) : valV (putK kvs k y) j = if j = k then some y else valV kvs j := by
  unfold putK
  by_cases a : (kvs.any fun kv => decide (kv.1 = k)) = true
  · rw [if_pos a, valV_map]
    rw [valV_any] at a
    by_cases e : j = k
    · obtain ⟨x, hx⟩ := Option.isSome_iff_exists.mp a
      rw [if_pos e, e, hx, Option.map_some, if_pos rfl]
    · rw [if_neg e]
      cases valV kvs j with
      | none => rfl
      | some x => rw [Option.map_some, if_neg e]
  · rw [if_neg a]
    refine valV_snoc k j y kvs ?_
    rw [valV_any] at a
    cases q : valV kvs k with
    | none => rfl
    | some x => rw [q] at a; exact (a rfl).elim
theorem length_putK (kvs : List (κ × V)) (k : κ) (v : V) : (putK kvs k v).length ≤ kvs.length + 1 := by
  unfold putK
  split
  · rw [List.length_map]; omega
  · rw [List.length_append, List.length_cons, List.length_nil]; omega
theorem putK_new {kvs : List (κ × V)} {k : κ} (v : V) (h : valV kvs k = none) : putK kvs k v = kvs ++ [(k, v)] := by
  unfold putK
  rw [valV_any, h]
  exact if_neg (by decide)
theorem RelO.isSome_eq {o : Option V} {u : Option Value} (r : RelO o u) : o.isSome = u.isSome := by
  cases o with
  | none => cases u with
    | none => rfl
    | some _ => exact (show False from r).elim
  | some _ => cases u with
    | none => exact (show False from r).elim
    | some _ => rfl
theorem KV.val {kvs : List (κ × V)} {vs : List (κ × Value)} (r : KV kvs vs) (k : κ) : RelO (valV kvs k) (valueAt vs k) := by
  unfold KV at r
  induction r with
  | nil => exact True.intro
  | @cons p q ps qs h t ih =>
    obtain ⟨h1, h2⟩ := h
    by_cases e : p.1 = k
    · have e' : q.1 = k := h1.symm.trans e
      have b : valueAt (q :: qs) k = some q.2 := by simp [valueAt, List.find?_cons, e']
      rw [valV_pos e, b]; exact h2
    · have e' : ¬ q.1 = k := fun z => e (h1.trans z)
      have b : valueAt (q :: qs) k = valueAt qs k := by simp [valueAt, List.find?_cons, e']
      rw [valV_neg e, b]; exact ih
theorem KV.any {kvs : List (κ × V)} {vs : List (κ × Value)} (r : KV kvs vs) (k : κ) : (kvs.any fun kv => decide (kv.1 = k)) = vs.any fun kv => decide (kv.1 = k) := by
  unfold KV at r
  induction r with
  | nil => rfl
  | cons h t ih => rw [List.any_cons, List.any_cons, ih, h.1]
theorem KV.repl {kvs : List (κ × V)} {vs : List (κ × Value)} (r : KV kvs vs) (k : κ) {y : V} {u : Value} (ry : RelV y u) :
    KV (kvs.map fun kv => if kv.1 = k then (kv.1, y) else kv) (vs.map fun kv => if kv.1 = k then (kv.1, u) else kv) := by
  unfold KV at r ⊢
  induction r with
  | nil => exact .nil
  | @cons p q ps qs h t ih =>
    rw [List.map_cons, List.map_cons]
    refine .cons ?_ ih
    obtain ⟨h1, h2⟩ := h
    by_cases e : p.1 = k
    · rw [if_pos e, if_pos (h1.symm.trans e)]; exact ⟨h1, ry⟩
    · rw [if_neg e, if_neg (fun z => e (h1.trans z))]; exact ⟨h1, h2⟩
theorem KV.put {kvs : List (κ × V)} {vs : List (κ × Value)} (r : KV kvs vs) (k : κ) {y : V} {u : Value} (ry : RelV y u) : KV (putK kvs k y) (stored vs k u) := by
  unfold putK stored
  rw [r.any k]
  by_cases e : (vs.any fun kv => decide (kv.1 = k)) = true
  · rw [if_pos e, if_pos e]; exact r.repl k ry
  · rw [if_neg e, if_neg e]; exact Paired.snoc r ⟨rfl, ry⟩
theorem KV.keys {kvs : List (κ × V)} {vs : List (κ × Value)} (r : KV kvs vs) : kvs.map (·.1) = vs.map (·.1) := by
  unfold KV at r
  induction r with
  | nil => rfl
  | cons h t ih => rw [List.map_cons, List.map_cons, ih, h.1]
theorem KV.length {kvs : List (κ × V)} {vs : List (κ × Value)} (r : KV kvs vs) : kvs.length = vs.length := Paired.length r
end
theorem kV_is {P : Program} {w : World} {k : Key} {u : Value} (r : RelV (kV k) u) : (mixKind P w).is k u = true := by
  cases k with
  | inl i => obtain ⟨t, e⟩ := (show ∃ t, u = Value.int i t from r); subst e; exact mixKind_int P w i t
  | inr x => obtain ⟨t, e⟩ := (show ∃ t, u = Value.str x t from r); subst e; exact mixKind_str P w x t
theorem items_are {P : Program} {w : World} : ∀ {ks : List Key} {us : List Value}, Vals (ks.map kV) us → ItemsAre (mixKind P w) ks us
  | [], _, r => by rw [List.map_nil] at r; cases r; exact .nil
  | k :: ks, _, r => by
    rw [List.map_cons] at r
    cases r with
    | cons h t => exact .cons (kV_is h) (items_are t)
abbrev KT (H : Hp) : List (List Key × V) → List (List Key × Addr × Value) → Prop := Paired fun p q => p.1 = q.1 ∧ H q.2.1 = some (.tup (p.1.map kV)) ∧ RelV p.2 q.2.2
theorem KT.val {H : Hp} {kvs : List (List Key × V)} {xs : List (List Key × Addr × Value)} (r : KT H kvs xs) (k : List Key) : RelO (valV kvs k) ((atKey xs k).map (·.2)) := by
  induction r with
  | nil => exact True.intro
  | @cons p q ps qs h t ih =>
    obtain ⟨h1, _, h2⟩ := h
    by_cases e : p.1 = k
    · have e' : q.1 = k := h1.symm.trans e
      have b : atKey (q :: qs) k = some q.2 := by simp [atKey, List.find?_cons, e']
      rw [valV_pos e, b]; exact h2
    · have e' : ¬ q.1 = k := fun z => e (h1.trans z)
      have b : atKey (q :: qs) k = atKey qs k := by simp [atKey, List.find?_cons, e']
      rw [valV_neg e, b]; exact ih
theorem KT.repl {H : Hp} {kvs : List (List Key × V)} {xs : List (List Key × Addr × Value)} (r : KT H kvs xs) (k : List Key) {y : V} {u : Value} (ry : RelV y u) :
    KT H (kvs.map fun kv => if kv.1 = k then (kv.1, y) else kv) (xs.map (putAt k u)) := by
  induction r with
  | nil => exact .nil
  | @cons p q ps qs h t ih =>
    rw [List.map_cons, List.map_cons]
    refine .cons ?_ ih
    obtain ⟨h1, h2, h3⟩ := h
    unfold putAt
    by_cases e : p.1 = k
    · rw [if_pos e, if_pos (h1.symm.trans e)]; exact ⟨h1, h2, ry⟩
    · rw [if_neg e, if_neg (fun z => e (h1.trans z))]; exact ⟨h1, h2, h3⟩
theorem KT.put {H : Hp} {kvs : List (List Key × V)} {xs : List (List Key × Addr × Value)} (r : KT H kvs xs) (k : List Key) {b : Addr} {y : V} {u : Value} (hb : H b = some (.tup (k.map kV))) (ry : RelV y u) :
    KT H (putK kvs k y) (storedH xs k b u) := by
  have e : (kvs.any fun kv => decide (kv.1 = k)) = (atKey xs k).isSome := by
    rw [valV_any, (r.val k).isSome_eq, Option.isSome_map]
  unfold putK storedH
  rw [e]
  by_cases q : (atKey xs k).isSome = true
  · rw [if_pos q, if_pos q]; exact r.repl k ry
  · rw [if_neg q, if_neg q]; exact Paired.snoc r ⟨rfl, hb, ry⟩
theorem KT.keeps {H H' : Hp} {kvs : List (List Key × V)} {xs : List (List Key × Addr × Value)} (r : KT H kvs xs) (ht : ∀ b ys, H b = some (.tup ys) → H' b = some (.tup ys)) : KT H' kvs xs :=
  Paired.mapP r fun _ _ z => ⟨z.1, ht _ _ z.2.1, z.2.2⟩
section
variable {P : Program} {w : World} {H : Hp} {h : Heap} {a : Addr}
theorem rd_of {u : HO} (ok : HOk P w H h) (e : Rd H a u) : ObjOk P w H h a u := e.ok ok
theorem dk_rd {kvs : List (Key × V)} (ok : HOk P w H h) (e : Rd H a (.dK kvs)) : kvs.length ≤ sizeLine ∧ (a == sysModules) = false ∧ ∃ vs, KV kvs vs ∧ h.DictOf (mixKind P w) a vs :=
  show ObjOk P w H h a (.dK kvs) from rd_of ok e
theorem dk_of {kvs : List (Key × V)} (ok : HOk P w H h) (e : H a = some (.dK kvs)) : kvs.length ≤ sizeLine ∧ (a == sysModules) = false ∧ ∃ vs, KV kvs vs ∧ h.DictOf (mixKind P w) a vs := dk_rd ok (.inl e)
theorem key_of {ks : List Key} (ok : HOk P w H h) (e : H a = some (.tup (ks.map kV))) : (tupleKind (mixKind P w)).is h ks a := by
  obtain ⟨_, its, r, o, h1, h2, n, h3⟩ := (show ObjOk P w H h a (.tup (ks.map kV)) from ok a _ e)
  exact ⟨o, its.toArray, n, h1, h2, h3, by simpa using items_are r⟩
theorem dt_rd {kvs : List (List Key × V)} (ok : HOk P w H h) (e : Rd H a (.dT kvs)) : kvs.length ≤ sizeLine ∧ (a == sysModules) = false ∧
    ∃ xs, KT H kvs xs ∧ h.DictOfH (tupleKind (mixKind P w)) a xs := by
  obtain ⟨z, y, xs, r, o, es, ep, h1, h2, h3, h4, h5⟩ := (show ObjOk P w H h a (.dT kvs) from rd_of ok e)
  refine ⟨z, y, xs, r, o, es, ep, h1, h2, h3, h4, fun x hx => ?_, h5⟩
  have all : ∀ {l : List (List Key × V)} {m : List (List Key × Addr × Value)}, KT H l m → ∀ x ∈ m, (tupleKind (mixKind P w)).is h x.1 x.2.1 := by
    intro l m q
    induction q with
    | nil => intro x hx; exact nomatch hx
    | @cons p q ps qs hq t ih =>
      intro x hx
      rcases List.mem_cons.mp hx with e | hx
      · subst e
        exact key_of ok (by rw [← hq.1]; exact hq.2.1)
      · exact ih x hx
  exact all r x hx
theorem dt_of {kvs : List (List Key × V)} (ok : HOk P w H h) (e : H a = some (.dT kvs)) : kvs.length ≤ sizeLine ∧ (a == sysModules) = false ∧
    ∃ xs, KT H kvs xs ∧ h.DictOfH (tupleKind (mixKind P w)) a xs := dt_rd ok (.inl e)
end
def DGet (H : Hp) (a : Addr) (y : V) (r : Option V) : Prop :=
  (∃ kvs k, Rd H a (.dK kvs) ∧ y = kV k ∧ r = valV kvs k) ∨ ∃ kvs k b, Rd H a (.dT kvs) ∧ y = .ref b ∧ H b = some (.tup (k.map kV)) ∧ r = valV kvs k
def DPut (H : Hp) (a : Addr) (y v : V) (H' : Hp) : Prop :=
  (∃ kvs k, H a = some (.dK kvs) ∧ y = kV k ∧ kvs.length < sizeLine ∧ H' = upd H a (.dK (putK kvs k v))) ∨
  ∃ kvs k b, H a = some (.dT kvs) ∧ y = .ref b ∧ H b = some (.tup (k.map kV)) ∧ kvs.length < sizeLine ∧ H' = upd H a (.dT (putK kvs k v))
theorem DPut.k {H : Hp} {a : Addr} {kvs : List (Key × V)} {k : Key} {v : V} (e : H a = some (.dK kvs)) (hl : kvs.length < sizeLine) : DPut H a (kV k) v (upd H a (.dK (putK kvs k v))) := .inl ⟨kvs, k, e, rfl, hl, rfl⟩
section
variable {X : Cx} {pins : List (Addr × Obj)} {σ : St} {H : Hp} {s : Shared} {a : Addr} {y v : V} {u r : Value} {o : Option V} {A : Around} {E : Value → Shared → Prop}
theorem Inv.big (I : Inv X pins σ H s) : sysModules < s.heap.objs.size := by
  have h : mainGlobals < s.heap.objs.size := (I.mod.glob.keeps I.bk).lt
  exact Nat.lt_trans (by decide) h
theorem d_getItem {Q : Value → Shared → Prop} (hu : A.units + 1 < cLine) (I : Inv X pins σ H s) (g : DGet H a y (some v)) (ry : RelV y u) (h : ∀ w' s', Inv X pins σ H s' → RelV v w' → Q w' s') :
    wpAny (model X.prog X.w) A (getItem (.ref a) u) Q E s := by
  rcases g with ⟨kvs, k, e, ey, l⟩ | ⟨kvs, k, b, e, ey, eb, l⟩
  · subst ey
    obtain ⟨z, hd, vs, rel, dd⟩ := dk_rd I.hok e
    obtain ⟨w', hw, rw'⟩ := RelO.some_of (v := v) (o := valueAt vs k) (by rw [l]; exact rel.val k)
    exact wpAny_getItem_of (kV_is ry) dd.mapOf hw (h w' _ (I.tok _) rw')
  · subst ey
    cases (show u = Value.ref b from ry)
    obtain ⟨z, hd, xs, rel, dd⟩ := dt_rd I.hok e
    obtain ⟨w', hw, rw'⟩ := RelO.some_of (v := v) (o := (atKey xs k).map (·.2)) (by rw [l]; exact rel.val k)
    obtain ⟨p, hp, hp2⟩ := Option.map_eq_some_iff.mp hw
    refine wpAny_getItem_heap (tupleKind_room_in1 hu) (key_of I.hok eb) dd hp ?_
    rw [hp2]
    exact h w' _ (I.tok _) rw'
theorem d_write {h' : Heap} {t' : Nat} {ob : HO} (I : Inv X pins σ H s) (mu : Mut (H a)) (hs : Heap.SameBut a s.heap h') (he : ∃ q, h'.get? a = some q) (new : ObjOk X.prog X.w (upd H a ob) h' a ob) :
    Inv X pins σ (upd H a ob) { s with heap := h', toks := t' } :=
  I.write (x := a) (e := a) mu (.inl rfl) (fun b q hb z => (hs.2 b hb).trans z) he new
theorem dk_new {P : Program} {w : World} {H' : Hp} {h' : Heap} {kvs : List (Key × V)} {vs : List (Key × Value)} (z : kvs.length ≤ sizeLine) (hd : (a == sysModules) = false) (rel : KV kvs vs) (dd : h'.DictOf (mixKind P w) a vs) :
    ObjOk P w H' h' a (.dK kvs) := ⟨z, hd, vs, rel, dd⟩
theorem d_setItem {H' : Hp} {Q : Unit → Shared → Prop} (hu : A.units + 1 < cLine) (I : Inv X pins σ H s) (g : DPut H a y v H') (ry : RelV y u) (rv : RelV v r) (h : ∀ s', Inv X pins σ H' s' → Q () s') :
    wpAny (model X.prog X.w) A (setItem (.ref a) u r) Q E s := by
  rcases g with ⟨kvs, k, e, ey, l, eH⟩ | ⟨kvs, k, b, e, ey, eb, l, eH⟩
  · subst ey eH
    obtain ⟨z, hd, vs, rel, dd⟩ := dk_of I.hok e
    have hz : vs.length ≤ sizeLine := by rw [← rel.length]; exact z
    have hl : (putK kvs k v).length ≤ sizeLine := by have := length_putK kvs k v; omega
    refine wpAny_setItem_pairs (hsz := hz) (kV_is ry) dd fun h' dd' hs => h _ ?_
    have he : ∃ q, h'.get? a = some q := let ⟨q, _, _, hq, _⟩ := dd'; ⟨q, hq⟩
    exact d_write I (by rw [e]; exact True.intro) hs he (dk_new hl hd (rel.put k rv) dd')
  · subst ey eH
    cases (show u = Value.ref b from ry)
    obtain ⟨z, hd, xs, rel, dd⟩ := dt_of I.hok e
    have hz : xs.length ≤ sizeLine := by rw [← Paired.length rel]; exact z
    have hl : (putK kvs k v).length ≤ sizeLine := by have := length_putK kvs k v; omega
    refine wpAny_setItem_heap (hsz := hz) (tupleKind_room_in1 hu) (key_of I.hok eb) dd fun h' dd' hs => h _ ?_
    obtain ⟨q, es, ep, hq, h2, h3, h4, _, h5⟩ := dd'
    refine d_write I (by rw [e]; exact True.intro) hs ⟨q, hq⟩ ⟨hl, hd, _, (rel.put k eb rv).keeps fun c ys ec => ?_, q, es, ep, hq, h2, h3, h4, h5⟩
    rw [upd_ne (ne_of ec e (fun z => nomatch z))]
    exact ec
end
section
variable {X : Cx} {pins : List (Addr × Obj)} {σ : St} {H : Hp} {s : Shared} {a : Addr} {kvs : List (Key × V)} {k : Key} {u : Value} {A : Around} {E : Value → Shared → Prop}
theorem d_len {Q : Value → Shared → Prop} (I : Inv X pins σ H s) (e : Rd H a (.dK kvs)) (h : ∀ t s', Inv X pins σ H s' → Q (.int kvs.length t) s') : wpAny (model X.prog X.w) A (call (.builtin "len") [.ref a]) Q E s := by
  obtain ⟨z, hd, vs, rel, dd⟩ := dk_rd I.hok e
  refine call_len_dict hd dd (by rw [← rel.length]; rw [sizeLine_eq] at z; omega) ?_
  rw [← rel.length]
  exact h _ _ (I.tok _)
end
def NoSl (i : Expr) : Prop := ∀ ov iv, subscripted i false ov iv = operate [ov, iv] (getItem ov iv)
theorem subD_of {prog : Program} {w : World} {A : Around} {E : Value → Shared → Prop} {s : Shared} {env : Env} {value slice : Expr} {pos : Pos} {T id : String} {Q : Value → Shared → Prop}
    (hl : typeLookup (.type T) "__getitem__" = pure (some (.builtin id))) (hs : NoSl slice)
    (h : wpAny (model prog w) A (eval value env) (fun o s₁ => wpAny (model prog w) A (eval slice env) (fun i s₂ => s₂.TypeIs o T ∧ wpAny (model prog w) A (getItem o i) Q E s₂) E s₁) E s) :
    wpAny (model prog w) A (eval (.Subscript value slice pos) env) Q E s := by
  refine Subscript_ (wpAny_mono h (fun o s₁ h₁ => wpAny_mono h₁ (fun i s₂ h₂ => ?_) fun _ _ x => x) fun _ _ x => x)
  obtain ⟨hT, h₂⟩ := h₂
  unfold subscriptTail
  refine wpAny_bind ?_
  rw [getitemInPython_of_ne hT.not_modules]
  refine wpAny_bind (wpAny_specialOf hT hl ?_)
  have fin : wpAny (model prog w) A (subscripted slice false o i) (fun r s₃ => wpAny (model prog w) A (letTemporaryGo value o r >>= fun _ => pure r) Q E s₃) E s₂ := by
    rw [hs o i]
    exact wpAny_operating (wpAny_mono h₂ (fun r s₃ h₃ => wpAny_bind (wpAny_letTemporaryGo (wpAny_pure h₃))) fun _ _ x => x)
  first
    | exact wpAny_pure (wpAny_bind fin)
    | exact wpAny_bind (wpAny_pure (wpAny_bind fin))
    | exact wpAny_bind fin
theorem dict_typeIs {X : Cx} {pins : List (Addr × Obj)} {σ : St} {H : Hp} {s : Shared} {a : Addr} {y : V} {o : Option V} (I : Inv X pins σ H s) (g : DGet H a y o) : s.TypeIs (.ref a) "dict" := by
  rcases g with ⟨kvs, k, e, _, _⟩ | ⟨kvs, k, b, e, _, _, _⟩
  · obtain ⟨_, _, vs, _, dd⟩ := dk_rd I.hok e
    exact dd.typeIs
  · obtain ⟨_, _, xs, _, dd⟩ := dt_rd I.hok e
    exact dd.typeIs
def tDGet (td ty : TE) : TE := fun σ H Q => td σ H fun x H1 => ty σ H1 fun y H2 => ∃ a v, x = .ref a ∧ DGet H2 a y (some v) ∧ Q v H2
def sDPut (td ty tv : TE) : TS := fun D σ H => tv σ H fun v H1 => td σ H1 fun x H2 => ty σ H2 fun y H3 => ∃ a H4, x = .ref a ∧ DPut H3 a y v H4 ∧ D.nx σ H4
section
variable {X : Cx} {o i e value : Expr} {pos pos' tpos : Pos} {td ty tv : TE}
theorem pe_dget (hu : X.A.units + 1 < cLine) (ho : PE X o td) (hi : PE X i ty) (hs : NoSl i) : PE X (.Subscript o i pos) (tDGet td ty) := by
  intro pins s σ H Q I h
  refine subD_of PySem.F.slot_dict_getitem.lookup hs (thn (ho pins s σ H _ I h) fun u s1 ⟨x, H1, I1, rx, q1⟩ => thn (hi pins s1 σ H1 _ I1 q1) fun iv s2 ⟨y, H2, I2, ry, a, v, ex, g, q2⟩ => ?_)
  subst ex
  obtain rfl : u = Value.ref a := rx
  exact ⟨dict_typeIs I2 g, d_getItem hu I2 g ry fun w' s3 I3 rw' => ⟨v, H2, I3, rw', q2⟩⟩
theorem ps_dput (hu : X.A.units + 1 < cLine) (ho : PE X o td) (hi : PE X i ty) (hv : PE X value tv) (hs : swapsWith value (some (.Subscript o i pos')) pos.line X.env = pure false) :
    PS X (.Assign [.Subscript o i pos'] value pos) (sDPut td ty tv) := by
  intro pins s σ H D I h
  refine wpAny_Assign_Subscript (thn (hv pins s σ H _ I h) fun r s1 ⟨v, H1, I1, rv, q1⟩ => thn (ho pins s1 σ H1 _ I1 q1) fun u s2 ⟨x, H2, I2, rx, q2⟩ => thn (hi pins s2 σ H2 _ I2 q2) fun iv s3 ⟨y, H3, I3, ry, a, H4, ex, g, q3⟩ => ?_) hs
  subst ex
  obtain rfl : u = Value.ref a := rx
  exact d_setItem hu I3 g ry rv fun s4 I4 => ⟨σ, H4, I4, q3⟩
end
theorem dk_empty {P : Program} {w : World} {H : Hp} (h : Heap) (hb : sysModules < h.objs.size) : ObjOk P w H (h.push { cls := .type "dict", data := .dict #[] }) h.objs.size (.dK []) :=
  ⟨Nat.zero_le _, beq_eq_false_iff_ne.mpr (Ne.symm (Nat.ne_of_lt hb)), [], .nil, Heap.DictOf.new h⟩
def tDNewK : TE := fun _ H Q => ∀ p, H p = none → Q (.ref p) (upd H p (.dK []))
section
variable {X : Cx} {pos : Pos}
theorem pe_dnewK : PE X (.Dict [] [] pos) tDNewK := fun pins s σ H Q I h =>
  wpAny_Dict_empty ⟨.ref s.heap.objs.size, _, I.laid (a := s.heap.objs.size) (o := .dK []) (t' := s.toks) (fun _ _ q => Heap.get?_push_of_some _ q) (Nat.le_refl _) (dk_empty s.heap I.big), rfl, h _ (I.hok.fresh (Nat.le_refl _))⟩
end
def tPairs : List (TE × TE) → St → Hp → (List (V × V) → Hp → Prop) → Prop
  | [], _, H, Q => Q [] H
  | (tk, tv) :: r, σ, H, Q => tk σ H fun x H1 => tv σ H1 fun y H2 => tPairs r σ H2 fun ps H3 => Q ((x, y) :: ps) H3
abbrev VV : List (V × V) → List (Value × Value) → Prop := Paired fun p q => RelV p.1 q.1 ∧ RelV p.2 q.2
def PPs (X : Cx) (pos : Pos) (keys : List (Option Expr)) (values : List Expr) (trs : List (TE × TE)) : Prop :=
  ∀ (pins : List (Addr × Obj)) (s : Shared) (σ : St) (H : Hp) (Q : List (V × V) → Hp → Prop), Inv X pins σ H s → tPairs trs σ H Q →
    wpAny (model X.prog X.w) X.A (evalPairs (pairTrees keys values X.env pos)) (fun vs s' => ∃ ps H', Inv X pins σ H' s' ∧ VV ps vs ∧ Q ps H') X.xe s
theorem pps_nil {X : Cx} {pos : Pos} : PPs X pos [] [] [] := fun pins s σ H Q I h => pairTrees_nil_walk ⟨[], H, I, .nil, h⟩
theorem pps_cons {X : Cx} {pos : Pos} {k v : Expr} {ks : List (Option Expr)} {vs : List Expr} {tk tv : TE} {trs : List (TE × TE)} (hk : PE X k tk) (hv : PE X v tv) (hr : PPs X pos ks vs trs) :
    PPs X pos (some k :: ks) (v :: vs) ((tk, tv) :: trs) := fun pins s σ H Q I h =>
  pairTrees_cons_walk (thn (hk pins s σ H _ I h) fun u s1 ⟨x, H1, I1, rx, q1⟩ => thn (hv pins s1 σ H1 _ I1 q1) fun w2 s2 ⟨y, H2, I2, ry, q2⟩ =>
    thn (hr pins s2 σ H2 _ I2 q2) fun ws s3 ⟨ps, H3, I3, rel, q3⟩ => ⟨(x, y) :: ps, H3, I3, .cons ⟨rx, ry⟩ rel, q3⟩)
def mergeK (kvs more : List (Key × V)) : List (Key × V) := more.foldl (fun acc kv => putK acc kv.1 kv.2) kvs
theorem KV.merge : ∀ {more : List (Key × V)} {rs : List (Key × Value)} {kvs : List (Key × V)} {vs : List (Key × Value)}, KV more rs → KV kvs vs → KV (mergeK kvs more) (merged vs rs) := by
  intro more rs kvs vs r
  unfold KV at r
  induction r generalizing kvs vs with
  | nil => intro q; exact q
  | @cons p q ps qs h t ih =>
    intro r0
    have e : KV (putK kvs p.1 p.2) (stored vs q.1 q.2) := by
      have := r0.put p.1 h.2
      rw [← h.1]; exact this
    exact ih e
theorem length_mergeK : ∀ (more kvs : List (Key × V)), (mergeK kvs more).length ≤ kvs.length + more.length
  | [], kvs => by show kvs.length ≤ kvs.length + 0; omega
  | p :: r, kvs => by
    have h1 := length_mergeK r (putK kvs p.1 p.2)
    have h2 := length_putK kvs p.1 p.2
    show (mergeK (putK kvs p.1 p.2) r).length ≤ _
    rw [List.length_cons]; omega
theorem carries_of {P : Program} {w : World} : ∀ {kvs : List (Key × V)} {ws : List (Value × Value)}, VV (kvs.map fun kv => (kV kv.1, kv.2)) ws → ∃ rs, Carries (mixKind P w) ws rs ∧ KV kvs rs
  | [], _, r => by rw [List.map_nil] at r; cases r; exact ⟨[], True.intro, .nil⟩
  | p :: kvs, _, r => by
    rw [List.map_cons] at r
    cases r with
    | @cons a b as bs h t =>
      obtain ⟨rs, c, q⟩ := carries_of (P := P) (w := w) t
      obtain ⟨b1, b2⟩ := b
      exact ⟨(p.1, b2) :: rs, ⟨kV_is h.1, rfl, c⟩, .cons ⟨rfl, h.2⟩ q⟩
def tDisp (trs : List (TE × TE)) : TE := fun σ H Q => ∀ p, H p = none → tPairs trs σ (upd H p (.dK [])) fun ps H2 => H2 p = some (.dK []) ∧ ∃ kvs : List (Key × V), ps = kvs.map (fun kv => (kV kv.1, kv.2)) ∧ kvs.length ≤ 15 ∧ Q (.ref p) (upd H2 p (.dK (mergeK [] kvs)))
theorem pe_disp {X : Cx} {pos : Pos} {keys : List (Option Expr)} {values : List Expr} {trs : List (TE × TE)} (h : PPs X pos keys values trs) (hall : keys.all (·.isSome) = true) (hl : keys.length = values.length) (h0 : keys ≠ [])
    (h15 : keys.length ≤ 15) : PE X (.Dict keys values pos) (tDisp trs) := by
  intro pins s σ H Q I q
  have hn := I.hok.fresh (Nat.le_refl s.heap.objs.size)
  have I1 := I.laid (a := s.heap.objs.size) (o := .dK []) (h' := s.heap.push { cls := .type "dict", data := .dict #[] }) (t' := s.toks) (fun _ _ q => Heap.get?_push_of_some _ q) (Nat.le_refl _) (dk_empty s.heap I.big)
  refine wpAny_Dict_walk (knd := mixKind X.prog X.w) hall hl h0 h15 (thn (h pins _ σ _ _ I1 (q _ hn)) fun ws s2 ⟨ps, H2, I2, rel, e, kvs, ep, lk, q2⟩ => ?_)
  subst ep
  obtain ⟨rs, c, rk⟩ := carries_of (P := X.prog) (w := X.w) rel
  obtain ⟨z, hd, vs0, r0, dd⟩ := dk_of I2.hok e
  cases r0
  refine ⟨rs, c, dd, fun h' dd' hs => ⟨.ref s.heap.objs.size, _, ?_, rfl, q2⟩⟩
  have hz : (mergeK [] kvs).length ≤ sizeLine := by
    have h1 := length_mergeK kvs []
    rw [List.length_nil] at h1
    rw [sizeLine_eq]; omega
  have he : ∃ q, h'.get? s.heap.objs.size = some q := let ⟨q, _, _, hq, _⟩ := dd'; ⟨q, hq⟩
  exact d_write I2 (by rw [e]; exact True.intro) hs he (dk_new hz hd (rk.merge .nil) dd')
structure M1 (X : Cx) (o : Expr) (m : Str) (apos : Pos) (e : Expr) (cpos : Pos) : Prop where
  base : attributeBase o m X.env (eval o X.env) = eval o X.env
  few : ((backTo cpos (starEach [e] X.env)).all (fun x => !x.1) && (backToKw cpos (keywordEach [] X.env)).all (fun x => x.1.isSome)
    && decide (([e] : List Expr).length + ([] : List Keyword).length + (if ([] : List Keyword).isEmpty then 0 else 1) < 30)) = true
  line : (apos.endLine == cpos.line) = true
  trees : backTo cpos (starEach [e] X.env) = [(false, eval e X.env)]
structure M2 (X : Cx) (o : Expr) (m : Str) (apos : Pos) (e f : Expr) (cpos : Pos) : Prop where
  base : attributeBase o m X.env (eval o X.env) = eval o X.env
  few : ((backTo cpos (starEach [e, f] X.env)).all (fun x => !x.1) && (backToKw cpos (keywordEach [] X.env)).all (fun x => x.1.isSome)
    && decide (([e, f] : List Expr).length + ([] : List Keyword).length + (if ([] : List Keyword).isEmpty then 0 else 1) < 30)) = true
  line : (apos.endLine == cpos.line) = true
  trees : backTo cpos (starEach [e, f] X.env) = [(false, eval e X.env), (false, eval f X.env)]
section
variable {X : Cx} {pins : List (Addr × Obj)} {σ : St} {H : Hp} {s : Shared} {a : Addr} {y d : V} {u r : Value} {o : Option V} {A : Around} {E : Value → Shared → Prop}
end
section
variable {X : Cx} {o e f : Expr} {apos cpos : Pos} {td ty tx : TE}
end
section
variable {X : Cx} {pins : List (Addr × Obj)} {σ : St} {H : Hp} {s : Shared} {a : Addr} {kvs : List (Key × V)} {A : Around} {E : Value → Shared → Prop}
end
section
variable {X : Cx} {pins : List (Addr × Obj)} {σ : St} {H : Hp} {s : Shared} {a : Addr} {y : V} {u : Value} {A : Around} {E : Value → Shared → Prop}
end
end L2
namespace Att
open PySem PySem.W PySem.Calls PyProof.Rows
theorem ints_of_wellAll {P : Params} {h : Heap} : ∀ (ns : List Int) (vs : List Value), WellAll P h vs (ns.map WData.int) → IntsAre vs ns := by
  intro ns
  induction ns with
  | nil =>
    intro vs w
    rw [List.map_nil] at w
    cases w
    exact .nil
  | cons n ns ih =>
    intro vs w
    rw [List.map_cons] at w
    cases w with
    | cons a b =>
      cases a
      exact .cons _ _ (ih _ b)
theorem script_of {l : OpenLaw} {n : Nat} (hn : l.most = some n) {P : Params} {h : Heap} {args : List WData} {vals : List Value}
    (hpre : l.row.toRowW.claim.pre args = true) (hwl : WellAll P h vals args) :
    ∃ a vs ns, vals = [Value.ref a] ∧ args = [WData.list (ns.map WData.int)] ∧ h.get? a = some { cls := .type "list", data := .seq vs.toArray } ∧ IntsAre vs ns ∧ ns.length ≤ n := by
  have hsh : WShape.hasAll [] args [.list .int] = true := (pre_splitW hpre).1
  have hc : l.pre.holds [] { args := args } = true := (pre_splitW hpre).2
  obtain ⟨d, r, rfl, h1, h2⟩ := hasAllW_cons hsh
  obtain rfl := hasAllW_nil h2
  obtain ⟨xs, rfl, h3⟩ := hasW_list h1
  obtain ⟨ns, rfl⟩ := items_int h3
  have hlen : ns.length ≤ n := by
    unfold OpenLaw.pre at hc
    have h4 : (WTm.not (.lt (.lit (.int (n : Int))) (.len (.arg 0)))).holds [] { args := [.list (ns.map .int)] } = true := by
      have h4 := (holds_andW hc).1
      rw [hn] at h4
      exact h4
    have h5 := condW_of h4 (w_not (w_lt w_lit (w_len_list (w_arg rfl))))
    rw [List.length_map] at h5
    refine Nat.le_of_not_lt fun q => ?_
    have q' : (n : Int) < ((ns.length : Nat) : Int) := by omega
    first
      | (rw [decide_eq_true q'] at h5; exact absurd h5 (by decide))
      | (simp at h5; omega)
  cases hwl with
  | cons w1 w2 =>
    cases w2
    cases w1 with
    | list ho hall => exact ⟨_, _, ns, rfl, rfl, ho, ints_of_wellAll ns _ hall, hlen⟩
theorem post_true (l : OpenLaw) (args : List WData) : l.row.toRowW.claim.post args (.bool true) args = true :=
  postW_of (r := l.row.toRowW) (X := (true == true))
    (show WShape.has [] (.bool true) .bool = true by first | rfl | decide | simp [WShape.has, WShape.arms, WShape.armsAll])
    (show (WTm.eq .res (.lit (.bool true))).value [] { args := args, res := some (.bool true), after := args } = some (.bool (true == true)) from w_eq_bool (w_res rfl) w_lit) rfl
theorem attach_call {l : OpenLaw} {n : Nat} {q : Program} {loose : List Str} {XP : (Str → Option Value) → Heap → Prop} {YP : World → Heap → Prop} {d : DefRec}
    (hn : l.most = some n) (hdf : d.params.defaults = [])
    (call : ∀ (w : World) (s₀ s₁ : Shared) (mg mb : Str → Option Value) (fa : Addr) (o : Obj) (pm cd doc : Value) (a : Addr) (vs : List Value) (ns : List Int),
      Ground q loose [] XP w s₀ mg mb s₁.heap → YP w s₁.heap →
      s₁.heap.get? fa = some o → o.data = .func (docDef d.name d.params d.body d.scope pm cd doc) → s₁.heap.CodeRec cd d.name → mg d.name = some (.ref fa) →
      s₁.heap.get? a = some { cls := .type "list", data := .seq vs.toArray } → IntsAre vs ns → ns.length ≤ n → s₁.gens = #[] →
      codeAny (model l.prog w) callerA (.call (.ref fa) ⟨[.ref a], []⟩) (fun r s' => r = .ok (.ret (.bool true)) ∧ OldK s₁.heap s'.heap ∧ s'.os = s₁.os ∧ AllBare s'.gens) s₁) :
    WalkO q loose XP YP l.row.toRowW d [] (fun f vs => PySem.call f vs) := by
  intro w s₀ s₁ mg mb G Y fa o pm cd doc dV kV ho hd hcd hD hmg hg args vals as hpre hlay hrd hwl hlo
  obtain rfl : dV = .none := Dflts.none hD hdf
  obtain rfl : kV = .none := Dflts.noKw hD
  obtain ⟨a, vs, ns, rfl, rfl, hobj, hints, hlen⟩ := script_of hn hpre hwl
  refine enter_call (codeAny_mono (call w s₀ s₁ mg mb fa o pm cd doc a vs ns G Y ho (fd_plain hd) hcd hmg hobj hints hlen hg) fun r s' hq => ?_)
  obtain ⟨rfl, h2, h3, h4⟩ := hq
  exact ⟨.inl ⟨.bool true, .bool true, [], rfl, fun _ => rfl, .bool true, post_true l _, fun _ => ⟨List.Pairwise.nil, fun _ hm => (nomatch hm)⟩⟩, h2, h3, h4⟩
section
variable {prog : Program} {w : World} {A : Around} {E : Value → Shared → Prop} {s : Shared} {K : Frag}
end
end Att
namespace L2
open PySem PySem.Spec PyProof.Rows
theorem vals_ints : ∀ {vs : List Value} {ns : List Int}, IntsAre vs ns → Vals (ns.map V.int) vs
  | _, _, .nil => .nil
  | _, _, .cons n t h => .cons ⟨t, rfl⟩ (vals_ints h)
def Only (H : Hp) : Prop := ∀ b, H b = none ∨ ∃ o xs, H b = some (.frz o (.lst xs))
theorem law_call {P : Program} {w : World} {K : PySem.W.Frag} {mg mb : Str → Option Value} {CX : CXT} {k : Nat} {fa a : Addr} {fd : FuncData} {x : Str} {sp : Sp} {s₁ : Shared} {vs : List Value} {ns : List Int}
    (KX : K.In s₁.heap) (hns : s₁.heap.Ns mainGlobals mg) (hb : s₁.heap.Ns builtinsNs mb) (hbb : ∀ x : Str, x ≠ "__name__" → mb x = bootBuiltins x) (hlim : s₁.heap.NoLimit) (hg : s₁.gens = #[])
    (ha : s₁.heap.get? a = some { cls := .type "list", data := .seq vs.toArray }) (hi : IntsAre vs ns) (hl : ns.length ≤ sizeLine) (hr : Room k callerA)
    (F : ∀ base : Heap, K.In base → base.Ns mainGlobals mg → FnOk P w K mg base CX k fa fd [x] sp) (hbind : ∀ (s : Shared) (u : Value), BindsTo s fd ⟨[u], []⟩ [(x, u)])
    (hsp : ∀ H : Hp, Only H → SqL K H a (ns.map V.int) → sp [.ref a] H (fun v _ => v = .bl true) fun _ _ _ => False)
    (hCX : ∀ H e s', CX [] H s₁ (fun _ _ _ => False) e s' → False) :
    codeAny (model P w) callerA (.call (.ref fa) ⟨[.ref a], []⟩) (fun r s' => r = .ok (.ret (.bool true)) ∧ OldK s₁.heap s'.heap ∧ s'.os = s₁.os ∧ AllBare s'.gens) s₁ := by
  have rv := vals_ints hi
  have lenV := hi.length
  -- from an abstract heap in which nothing but the script may be tracked
  have core : ∀ H : Hp, Only H → SqL K H a (ns.map V.int) → HOk P w H s₁.heap → (∀ b, H b ≠ none → b = a) → (H a ≠ none → K.lookup a = none) →
      codeAny (model P w) callerA (.call (.ref fa) ⟨[.ref a], []⟩) (fun r s' => r = .ok (.ret (.bool true)) ∧ OldK s₁.heap s'.heap ∧ s'.os = s₁.os ∧ AllBare s'.gens) s₁ := by
    intro H hO hS hok hA hK
    have base_of : ∀ {b : Addr} {o : Obj}, s₁.heap.get? b = some o → H b = none → (hidT s₁.heap H).get? b = some o := fun e n => hidT_get e n
    have noA : ∀ {b : Addr} {o : Obj} {es : Array DictEntry} {ep : Nat}, s₁.heap.get? b = some o → o.data = .dict es ep → H b = none := fun {b o es ep} e d => by
      cases q : H b with
      | none => rfl
      | some u =>
        have e' : b = a := hA b (by rw [q]; simp)
        subst e'
        rw [ha] at e; cases e
        have d' : Data.seq vs.toArray _ = Data.dict es ep := d
        cases d'
    have nsK : ∀ {b : Addr} {m : Str → Option Value}, s₁.heap.Ns b m → (hidT s₁.heap H).Ns b m := fun {b m} ⟨o, es, ep, e, d, r⟩ => ⟨o, es, ep, base_of e (noA e d), d, r⟩
    have hKb : K.In (hidT s₁.heap H) := fun b o e => base_of (KX b o e) (by
      cases q : H b with
      | none => rfl
      | some u =>
        have e' : b = a := hA b (by rw [q]; simp)
        subst e'
        rw [hK (by rw [q]; simp)] at e; cases e)
    have hM : Mod K mg (hidT s₁.heap H) := ⟨hKb, nsK hns, ⟨mb, nsK hb, hbb⟩, let ⟨mc, h1, h2⟩ := hlim; ⟨mc, nsK h1, h2⟩⟩
    have e0 : Env0 P w K mg (hidT s₁.heap H) callerA [] s₁ H := ⟨rfl, hM, fun b o e => of_hidT e, Nat.le_of_eq (hidT_size _ _), trivial, fun b hb => absurd (show b ∈ ([] : List Addr) from hb) (by simp), hok, .of_eq hg⟩
    refine codeAny_mono ((F _ hKb (nsK hns)).run callerA [] s₁ H ⟨[.ref a], []⟩ [.ref a] [.ref a] _ _ hr e0 (hbind s₁ (.ref a)) (.cons rfl .nil) (hsp H hO hS)) fun r s' h => ?_
    cases r with
    | error e => exact (hCX H e s' h).elim
    | ok fl =>
      cases fl with
      | next => exact False.elim h
      | brk => exact False.elim h
      | cont => exact False.elim h
      | ret u =>
        obtain ⟨v, H', os, bare, un, hok', r', q⟩ := h
        have q' : v = .bl true := q
        subst q'
        obtain rfl : u = Value.bool true := r'
        refine ⟨rfl, OldK.of_keep fun b o e => ?_, os, bare⟩
        cases q : H b with
        | none => exact un.keep b o e q (by intro z; exact absurd (show b ∈ ([] : List Addr) from z) (by simp)) (by simp)
        | some u =>
          rcases hO b with z | ⟨ob, xs, z⟩
          · rw [q] at z; cases z
          · have z2 := un.frzs b ob _ z
            obtain ⟨e1, _⟩ := hok b _ z
            obtain ⟨e2, _⟩ := hok' b _ z2
            rw [e] at e1; cases e1
            exact e2
  cases hk : K.lookup a with
  | some o =>
    -- the script is one of the module's own objects
    have e := KX a o hk
    rw [ha] at e
    cases e
    refine core (fun _ => none) (fun _ => .inl rfl) (.inr ⟨_, vs.toArray, _, hk, rfl, rfl, rfl, by rw [List.size_toArray, lenV]; exact hl, by simpa using rv⟩) (fun b u z => by have z' : (none : Option HO) = some u := z; cases z') (fun b z => absurd rfl z) fun z => absurd rfl z
  | none =>
    refine core (fun b => if b = a then some (.frz { cls := .type "list", data := .seq vs.toArray } (.lst (ns.map V.int))) else none) (fun b => ?_) (.inl (.inr ⟨{ cls := .type "list", data := .seq vs.toArray }, if_pos rfl⟩)) (fun b u z => ?_) (fun b z => ?_) fun _ => hk
    · by_cases hb : b = a
      · exact .inr ⟨_, _, if_pos hb⟩
      · exact .inl (if_neg hb)
    · by_cases hb : b = a
      · have z' := (if_pos hb).symm.trans z
        cases z'
        subst hb
        exact ⟨ha, by rw [List.length_map]; exact hl, vs, _, rv, ha⟩
      · have z' := (if_neg hb).symm.trans z
        cases z'
    · by_cases hb : b = a
      · exact hb
      · exact absurd (if_neg hb) z
end L2
namespace L2
open PySem PySem.Spec PyProof.Rows
abbrev KOf {K : PySem.W.Frag} {h : Heap} (_ : K.In h) : PySem.W.Frag := K
theorem walk_of {l : PySem.W.OpenLaw} {n k : Nat} {q : Program} {loose : List Str} {XP : (Str → Option Value) → Heap → Prop} {YP : World → Heap → Prop} {d : DefRec} {K : Params → PySem.W.Frag} {CX : World → CXT} {sp : World → Sp} {x : Str}
    (hn : l.most = some n) (hn2 : n ≤ sizeLine) (hdf : d.params.defaults = []) (hr : Room k callerA)
    (hY : ∀ (w : World) (h : Heap), YP w h → (K w.params).In h)
    (F : ∀ (w : World) (mg : Str → Option Value) (fa : Addr) (h : Heap), (K w.params).In h → h.Ns mainGlobals mg → mg d.name = some (.ref fa) →
      ∃ fd : FuncData, (∀ (s : Shared) (u : Value), BindsTo s fd ⟨[u], []⟩ [(x, u)]) ∧
        ∀ base : Heap, (K w.params).In base → base.Ns mainGlobals mg → FnOk l.prog w (K w.params) mg base (CX w) k fa fd [x] (sp w))
    (hsp : ∀ (w : World) (H : Hp) (a : Addr) (ns : List Int), ns.length ≤ n → Only H → SqL (K w.params) H a (ns.map V.int) → sp w [.ref a] H (fun v _ => v = .bl true) fun _ _ _ => False)
    (hCX : ∀ (w : World) (H : Hp) (s : Shared) (e : Value) (s' : Shared), CX w [] H s (fun _ _ _ => False) e s' → False) :
    PySem.W.WalkO q loose XP YP l.row.toRowW d [] (fun f vs => PySem.call f vs) := by
  refine Att.attach_call hn hdf fun w s₀ s₁ mg mb fa o pm cd doc a vs ns G Y ho hd hcd hmg hobj hints hlen hg => ?_
  have KX := hY w _ Y
  obtain ⟨fd, hb, hF⟩ := F w mg fa _ KX G.T.g hmg
  exact law_call KX G.T.g G.T.b G.T.builtins G.T.nolimit hg hobj hints (Nat.le_trans hlen hn2) hr hF hb (fun H hO hS => hsp w H a ns hlen hO hS) fun H e s' => hCX w H s₁ e s'
end L2
/- THE LAST THEOREM (shape; LID, My.* are yours):
   My.Adr: a structure of the addresses that your layer names (classes, functions); My.Txt K t: a structure (Prop) of the equations over K;
   My.txt_mk : {K} {implicit addresses ..} (e1 : nsIn K mainGlobals "law" = some (some (.ref f))) (e2 : K.lookup f = some ⟨oc, od, .func (fnOf "law" "law" params body scope dV kV doc pm an cdv ct), sl⟩) (e3 : codeIn K cdv "law" = true) .. : ∃ t, My.Txt K t
set_option maxRecDepth 100000 in
set_option maxHeartbeats 0 in
theorem PySem.Challenge.cw_LID_holds : PySem.Challenge.rw_LID.Holds := by
  w_on; o_law; k_head; (case hw => w_witness2)
  k_fill
  refine L2.walk_of (l := PySem.Challenge.rw_LID) (n := 63) (k := 40) (x := "script") (CX := fun w => ..) (sp := fun _ => My.sp_law) rfl (by decide) rfl ⟨rfl, by decide, by decide⟩ (fun w h Y => PySem.W.kIn_of Y) ?F ?S ?C
  case F =>
    intro w mg fa h KX G hmg
    have T : ∃ t, My.Txt (L2.KOf KX) t := by
      dsimp only [L2.KOf]                          -- K must stand as «<heap const> w.params» for k_is
      refine' My.txt_mk ?e1 ?e2 ?e3 ..
      (case e1 => PySem.W.k_is)                    -- in the order: a name -> its address -> its object -> its parts
      (case e2 => PySem.W.k_is)
      ..
    obtain ⟨t, T⟩ := T
    have e0 := hmg.symm.trans (PySem.W.mg_of KX G T.law)
    cases e0                                       -- fa is the law's own address
    exact ⟨_, fun s u => .of_eq rfl, fun base kb nb => My.law_fn T kb nb⟩     -- if «.of_eq rfl» comes too early: refine' ⟨_, ?b, fun base kb nb => My.law_fn T kb nb⟩; exact fun s u => .of_eq rfl
  case S => exact fun w H a ns hl hO hS => ..
  case C => exact ..
(the tactic k_is has no namespace: write k_is) -/
namespace L2
open PySem PySem.Spec PyProof.Rows
def defArgs (s : Stmt) : Arguments := match s with
  | .FunctionDef _ a _ _ _ _ _ _ _ _ => a
  | _ => { posonlyargs := [], args := [], vararg := none, kwonlyargs := [], kw_defaults := [], kwarg := none, defaults := [] }
def defBody (s : Stmt) : List Stmt := match s with
  | .FunctionDef _ _ b _ _ _ _ _ _ _ => b
  | _ => []
def defScope (s : Stmt) : Scope := match s with
  | .FunctionDef _ _ _ _ _ _ sc _ _ _ => sc
  | _ => { kind := .function, names := [], isGenerator := false, isCoroutine := false }
abbrev CX0 : CXT := fun _ _ _ _ _ _ => False
abbrev E0 : XK := fun _ _ _ => False
theorem pass0 {X : Cx} : Passes CX0 X E0 := fun _ _ _ _ _ _ _ h => h.elim
structure Fun (K : PySem.W.Frag) (x qual : Str) (st : Stmt) (f : Addr) (fd : FuncData) : Prop where
  ex : ∃ (oc : Value) (od : Option Addr) (kV doc pm : Value) (an : Option Addr) (cdv ct : Value) (osl : Array (Option Value)),
    fd = PySem.W.fnOf x qual (defArgs st) (defBody st) (defScope st) .none kV doc pm an cdv ct ∧ K.lookup f = some ⟨oc, od, .func fd, osl⟩ ∧ PySem.W.codeIn K cdv qual = true
  kp : PySem.W.keepIn K (.ref f) = true
section
variable {P : Program} {w : World} {K : PySem.W.Frag} {mg : Str → Option Value} {base : Heap}
theorem Fun.ok {x qual : Str} {st : Stmt} {f : Addr} {fd : FuncData} {N ps : List Str} {k : Nat} {sp : Sp} (F : Fun K x qual st f fd) (S : FnScope N ps (defScope st)) (len : ∀ vs H Q E, sp vs H Q E → vs.length = ps.length)
    (hbody : ∀ (cdv : Value) (A : Around) (outer : List Env) (s : Shared) (H : Hp) (vs : List V) (Q : VK) (E : XK), Room k (A.deeper (envOfC qual (defScope st) s.heap.objs.size f cdv)) → sp vs H Q E →
      ∃ t, PSs (cxOf CX0 P w K mg base N qual (defScope st) f cdv A outer s H E).nox (defBody st) t ∧ t { nx := fun _ H' => Q .non H', rt := Q } (start N vs) H) : FnOk P w K mg base CX0 (k + 1) f fd ps sp := by
  obtain ⟨oc, od, kV, doc, pm, an, cdv, ct, osl, rfl, lk, hcd⟩ := F.ex
  refine fn_of lk hcd S len fun A outer s H vs Q E hr hsp => ?_
  obtain ⟨t, h, q⟩ := hbody cdv A outer s H vs Q E hr hsp
  exact ⟨t, h.nox, q⟩
theorem Fun.binds {x qual : Str} {st : Stmt} {f : Addr} {fd : FuncData} {ps : List Str} (F : Fun K x qual st f fd)
    (h : ∀ (kV doc pm : Value) (an : Option Addr) (cdv ct : Value) (us : List Value), us.length = ps.length → bindArgs (PySem.W.fnOf x qual (defArgs st) (defBody st) (defScope st) .none kV doc pm an cdv ct) ⟨us, []⟩ = pure (ps.zip us)) : Binds K fd ps [] := by
  obtain ⟨oc, od, kV, doc, pm, an, cdv, ct, osl, rfl, lk, hcd⟩ := F.ex
  exact .all (h kV doc pm an cdv ct)
theorem fun_mk {x qual : Str} {st : Stmt} {f : Addr} {oc : Value} {od an : Option Addr} {osl : Array (Option Value)} {kV doc pm cdv ct : Value} (l : K.lookup f = some ⟨oc, od, .func (PySem.W.fnOf x qual (defArgs st) (defBody st) (defScope st) .none kV doc pm an cdv ct), osl⟩)
    (c : PySem.W.codeIn K cdv qual = true) (k : PySem.W.keepIn K (.ref f) = true) : Fun K x qual st f (PySem.W.fnOf x qual (defArgs st) (defBody st) (defScope st) .none kV doc pm an cdv ct) := ⟨⟨oc, od, kV, doc, pm, an, cdv, ct, osl, rfl, l, c⟩, k⟩
end
theorem hu_of {A : Around} {k : Nat} (hr : Room k A) : A.units + 1 < cLine := Nat.lt_of_le_of_lt (Nat.add_le_add_left (by decide : 1 ≤ 64) _) hr.units
section
variable {X : Cx}
theorem pv (i : Nat) {x : Str} {pos : Pos} (hN : X.N[i]? = some x := by rfl) (hv : Vis X.env.scope x := by first | exact Or.inl rfl | exact Or.inr (Or.inl rfl) | exact Or.inr (Or.inr rfl)) (hd : (x == ("__debug__" : Str)) = false := by decide)
    (hcd : (x == ("__classdict__" : Str)) = false := by decide) : PE X (.Name x pos) (tVar i) := pe_var hN hv hd hcd
end
theorem iteF {A B : Prop} (h : B) : if false = true then A else B := by
  rw [if_neg Bool.false_ne_true]
  exact h
theorem iteT {A B : Prop} (h : A) : if true = true then A else B := by
  rw [if_pos rfl]
  exact h
def Same (H H' : Hp) : Prop := ∀ b o, H b = some o → H' b = some o
theorem Same.refl (H : Hp) : Same H H := fun _ _ h => h
theorem Same.trans {H H1 H2 : Hp} (a : Same H H1) (b : Same H1 H2) : Same H H2 := fun c o h => b c o (a c o h)
theorem Same.seq {K : PySem.W.Frag} {H H' : Hp} {a : Addr} {xs : List V} (e : Same H H') (h : SqL K H a xs) : SqL K H' a xs := by
  rcases h with (h | ⟨o, h⟩) | h
  · exact .inl (.inl (e _ _ h))
  · exact .inl (.inr ⟨o, e _ _ h⟩)
  · exact .inr h
section
variable {X : Cx}
end
section
variable {κ : Type} [DecidableEq κ]
theorem valV_in {kvs : List (κ × V)} {k : κ} {v : V} (h : valV kvs k = some v) : k ∈ kvs.map (·.1) := by
  have q : (kvs.any fun kv => decide (kv.1 = k)) = true := by
    rw [valV_any, h]
    all_goals rfl
  obtain ⟨p, hp, e⟩ := List.any_eq_true.mp q
  exact List.mem_map.mpr ⟨p, hp, of_decide_eq_true e⟩
theorem nd_snoc : ∀ {l : List κ} {k : κ}, l.Nodup → ¬ k ∈ l → (l ++ [k]).Nodup
  | [], k, _, _ => by simp
  | a :: r, k, h, hk => by
    obtain ⟨h1, h2⟩ := List.nodup_cons.mp h
    show (a :: (r ++ [k])).Nodup
    refine List.nodup_cons.mpr ⟨fun m => ?_, nd_snoc h2 fun m => hk (List.mem_cons.mpr (Or.inr m))⟩
    rcases List.mem_append.mp m with q | q
    · exact h1 q
    · exact hk (List.mem_cons.mpr (Or.inl (List.mem_singleton.mp q).symm))
end
end L2
namespace L2
open PySem PySem.Spec PyProof.Rows
abbrev ts (x : Str) : List Nat := x.cps.toList
abbrev tx (l : List Nat) : Str := ⟨l.toArray⟩
theorem ts_tx (l : List Nat) : ts (tx l) = l := rfl
theorem tx_ts (x : Str) : tx (ts x) = x := by cases x; simp [tx, ts]
theorem ts_len (x : Str) : x.length = (ts x).length := by simp [Str.length, ts]
theorem tx_len (l : List Nat) : (tx l).length = l.length := by simp [Str.length, tx]
theorem str_ext {x y : Str} (h : ts x = ts y) : x = y := by rw [← tx_ts x, ← tx_ts y, h]
theorem app_tx (a b : List Nat) : tx a ++ tx b = tx (a ++ b) := by
  apply str_ext
  show (a.toArray ++ b.toArray).toList = a ++ b
  simp
theorem foldl_app (xs : Array Nat) : ∀ (k : Nat) (acc : Array Nat), ((List.replicate k xs).foldl (· ++ ·) acc).toList = acc.toList ++ (List.replicate k xs.toList).flatten
  | 0, acc => by simp
  | k + 1, acc => by
    rw [List.replicate_succ, List.foldl_cons, foldl_app xs k (acc ++ xs)]
    simp [List.replicate_succ]
theorem mul_tx (x : Str) (n : Int) : Txt.mul x n = tx (List.replicate n.toNat (ts x)).flatten := by
  apply str_ext
  rw [ts_tx]
  unfold Txt.mul
  by_cases h1 : n < 1
  · rw [if_pos h1]
    have e : n.toNat = 0 := by omega
    rw [e]; rfl
  · rw [if_neg h1]
    by_cases h2 : (n == 1 || x.length == 0) = true
    · rw [if_pos h2]
      rcases (Bool.or_eq_true _ _).mp h2 with h3 | h3
      · have e : n = 1 := by simpa using h3
        subst e; simp
      · have e : x.length = 0 := by simpa using h3
        rw [ts_len] at e
        have e2 : ts x = [] := List.eq_nil_of_length_eq_zero e
        show ts x = _
        rw [e2]; simp
    · rw [if_neg h2]
      show ((List.replicate n.toNat x.cps).foldl (· ++ ·) #[]).toList = _
      rw [foldl_app]; simp
section
variable {X : Cx}
def rMulS : R2 := fun x y H Q => ∃ z n, x = .str z ∧ y = .int n ∧ z.length ≤ 1000 ∧ -1000 ≤ n ∧ n ≤ 1000 ∧ Q (.str (tx (List.replicate n.toNat (ts z)).flatten)) H
theorem op_mul_str : OpR X (binaryOp .Mult) rMulS := by
  intro pins s σ H x y v u Q I rx ry h
  obtain ⟨z, n, rfl, rfl, hz, h0, h1, q⟩ := h
  obtain ⟨t, rfl⟩ := rx
  obtain ⟨t', rfl⟩ := ry
  refine SB.mul ⟨by rw [decide_eq_false (by omega), decide_eq_false (by omega)]; rfl, fun a _ b => ?_, fun a _ => ?_⟩ fun t' k => ⟨.str (Txt.mul z n), H, I.tok _, ⟨_, rfl⟩, by rw [mul_tx]; exact q⟩
  · have h2 : (9223372036854775 : Int) ≤ (2 ^ 63 - 1 : Int) / n := Int.le_ediv_of_mul_le (by omega) (by omega)
    omega
  · unfold PySem.Builtin.Str.tooLong
    have e : z.length * n.toNat ≤ 1000 * 1000 := Nat.mul_le_mul hz (by omega)
    exact decide_eq_false (by rw [sizeLine_eq]; omega)
theorem strsAre_of {ys : List Str} : ∀ {us : List Value}, Vals (ys.map V.str) us → StrsAre us ys := by
  induction ys with
  | nil => intro us r; rw [List.map_nil] at r; cases r; exact .nil
  | cons n ns ih =>
    intro us r
    rw [List.map_cons] at r
    cases r with
    | cons r1 r2 =>
      obtain ⟨t, e⟩ := r1
      subst e
      exact .cons n t (ih r2)
theorem glue_foldl (g : Str) : ∀ (ps : List Str) (acc : Array Nat), (ps.foldl (fun a p => a ++ g.cps ++ p.cps) acc).toList = acc.toList ++ (ps.map fun p => ts g ++ ts p).flatten
  | [], acc => by simp
  | p :: ps, acc => by
    rw [List.foldl_cons, glue_foldl g ps]
    simp
theorem join_nil (ys : List Str) : Txt.join (tx []) ys = tx (ys.map ts).flatten := by
  apply str_ext
  show ((ys.drop 1).foldl (fun acc p => acc ++ (tx []).cps ++ p.cps) (ys.headD Str.empty).cps).toList = _
  rw [glue_foldl]
  cases ys with
  | nil => rfl
  | cons y r =>
    show ts y ++ (List.map (fun p => ts (tx []) ++ ts p) r).flatten = ts y ++ (List.map ts r).flatten
    simp only [ts_tx, List.nil_append]
def rJoin (K : PySem.W.Frag) : V → List V → Hp → VK → Prop := fun x vs H Q => ∃ (p : Addr) (ys : List Str), x = .str (tx []) ∧ vs = [.ref p] ∧ SqL K H p (ys.map V.str) ∧ ((ys.map ts).flatten).length ≤ 100000 ∧ Q (.str (tx (ys.map ts).flatten)) H
theorem sum_len (ys : List Str) : (ys.map (·.length)).sum = ((ys.map ts).flatten).length := by
  induction ys with
  | nil => rfl
  | cons y r ih => rw [List.map_cons, List.sum_cons, ih, List.map_cons, List.flatten_cons, List.length_append, ts_len]
theorem mt_join : MtR X "str.join" (rJoin X.K) := by
  intro pins s σ H x vs v us Q I rx rv h
  obtain ⟨p, ys, rfl, rfl, hq, hz, q⟩ := h
  obtain ⟨t, rfl⟩ := rx
  obtain ⟨u, rfl, ru⟩ := rv.one
  cases ru
  obtain ⟨its, r, pl, _⟩ := I.list hq
  refine join_list (ys := ys) pl.isList (by simpa using strsAre_of r) ?_ fun t' k => ⟨.str (Txt.join (tx []) ys), H, I.tok _, ⟨_, rfl⟩, by rw [join_nil]; exact q⟩
  rw [sum_len, show (tx []).length = 0 from rfl, Nat.mul_zero]
  omega
theorem idx_clip (a b n : Nat) : PySem.Builtin.Str.strSliceIndices (some (a : Int)) (some (b : Int)) 1 n = PySem.Builtin.Str.strSliceIndices (some ((min a n : Nat) : Int)) (some ((min b n : Nat) : Int)) 1 n := by
  have h1 : ¬ ((a : Int) < 0) := by omega
  have h2 : ¬ ((b : Int) < 0) := by omega
  have h3 : ¬ (((min a n : Nat) : Int) < 0) := by omega
  have h4 : ¬ (((min b n : Nat) : Int) < 0) := by omega
  have e1 : max (0 : Int) (min (a : Int) (n : Int)) = max (0 : Int) (min ((min a n : Nat) : Int) (n : Int)) := by omega
  have e2 : max (0 : Int) (min (b : Int) (n : Int)) = max (0 : Int) (min ((min b n : Nat) : Int) (n : Int)) := by omega
  unfold PySem.Builtin.Str.strSliceIndices
  simp only [h1, h2, h3, h4, if_false, show ((1 : Int) > 0) = True from by simp, if_true]
  rw [e1, e2]
theorem idx_none {a b n : Nat} (h : b < a) (hb : a ≤ n) : PySem.Builtin.Str.strSliceIndices (some (a : Int)) (some (b : Int)) 1 n = [] := by
  have h1 : ¬ ((a : Int) < 0) := by omega
  have h2 : ¬ ((b : Int) < 0) := by omega
  have e1 : max (0 : Int) (min (a : Int) (n : Int)) = a := by omega
  have e2 : max (0 : Int) (min (b : Int) (n : Int)) = b := by omega
  have h3 : ¬ ((a : Int) < (b : Int)) := by omega
  simp only [PySem.Builtin.Str.strSliceIndices, PySem.sliceRange, h1, h2, if_false, e1, e2, show ((1 : Int) > 0) = True from by simp, if_true, h3]
  rfl
theorem cut_min {α : Type} (l : List α) (a b : Nat) : (l.drop (min a l.length)).take (min b l.length - min a l.length) = (l.take b).drop a := by
  rw [List.drop_take]
  by_cases ha : a ≤ l.length
  · rw [Nat.min_eq_left ha]
    by_cases hb : b ≤ l.length
    · rw [Nat.min_eq_left hb]
    · rw [Nat.min_eq_right (by omega), List.take_of_length_le (by rw [List.length_drop]; omega), List.take_of_length_le (by rw [List.length_drop]; omega)]
  · have e1 : min a l.length = l.length := Nat.min_eq_right (by omega)
    rw [e1, List.drop_eq_nil_of_le (Nat.le_refl _), List.drop_eq_nil_of_le (as := l) (i := a) (by omega), List.take_nil, List.take_nil]
theorem slice_nat (x : Str) (a b : Nat) : Txt.slice x (some (a : Int)) (some (b : Int)) = tx (((ts x).take b).drop a) := by
  have hl : x.length = (ts x).length := ts_len x
  by_cases h : min a x.length ≤ min b x.length
  · have e := StrLaws.sliceText_nat x h (Nat.min_le_right _ _)
    have e2 : Txt.slice x (some (a : Int)) (some (b : Int)) = StrLaws.sliceText x (some ((min a x.length : Nat) : Int)) (some ((min b x.length : Nat) : Int)) := by
      unfold Txt.slice StrLaws.sliceText
      rw [idx_clip a b]
    rw [e2, e, hl, cut_min]
  · have h1 : min b x.length = b := by omega
    have h2 : b < a := by omega
    have e : PySem.Builtin.Str.strSliceIndices (some (a : Int)) (some (b : Int)) 1 x.length = [] := by
      rw [idx_clip a b, h1]
      exact idx_none (by omega) (Nat.min_le_right _ _)
    unfold Txt.slice
    rw [e, if_neg (by simp; omega)]
    apply str_ext
    rw [ts_tx, List.drop_eq_nil_of_le (by rw [List.length_take]; omega)]
    rfl
theorem slice_to (x : Str) (j : Nat) : Txt.slice x none (some (j : Int)) = tx ((ts x).take j) := by
  have e : Txt.slice x none (some (j : Int)) = Txt.slice x (some ((0 : Nat) : Int)) (some (j : Int)) := by
    unfold Txt.slice
    rw [StrLaws.sliceIdx_none_lo]; rfl
  rw [e, slice_nat, List.drop_zero]
theorem slice_from (x : Str) (i : Nat) : Txt.slice x (some (i : Int)) none = tx ((ts x).drop i) := by
  have e : Txt.slice x (some (i : Int)) none = Txt.slice x (some (i : Int)) (some (x.length : Int)) := by
    unfold Txt.slice
    rw [StrLaws.sliceIdx_none_hi]
  rw [e, slice_nat, List.take_of_length_le (by rw [← ts_len]; exact Nat.le_refl _)]
def rSlS : V → Option Int → Option Int → Hp → VK → Prop := fun x lo hi H Q => ∃ z, x = .str z ∧ z.length ≤ sizeLine ∧ Q (.str (Txt.slice z lo hi)) H
theorem sl_str : SlR X rSlS := by
  intro pins s σ H x v vl vu lo hi sl Q I rx hs pl pu h
  obtain ⟨z, rfl, hz, q⟩ := h
  obtain ⟨t, rfl⟩ := rx
  refine ⟨"str", _, F.slot_str_getitem.lookup, typeIs_str _ _ _, ?_⟩
  have fin : ∀ t' k, EP X pins σ Q (.str (Txt.slice z lo hi) t') { s with toks := k } := fun t' k => ⟨.str (Txt.slice z lo hi), H, I.tok _, ⟨_, rfl⟩, q⟩
  obtain ⟨o, ho, hc, hd⟩ := hs
  cases pl with
  | none =>
    cases pu with
    | none => exact wpAny_getItem_str_slice (l := none) (u := none) (st := none) ⟨o, ho, hc, hd⟩ rfl (post_val_or_str ⟨Nat.le_trans (Txt.slice_le z _ _) hz, fin⟩)
    | int j uj => exact wpAny_getItem_str_slice (l := none) (u := some (j, uj)) (st := none) ⟨o, ho, hc, hd⟩ rfl (post_val_or_str ⟨Nat.le_trans (Txt.slice_le z _ _) hz, fin⟩)
  | int i ui =>
    cases pu with
    | none => exact wpAny_getItem_str_slice (l := some (i, ui)) (u := none) (st := none) ⟨o, ho, hc, hd⟩ rfl (post_val_or_str ⟨Nat.le_trans (Txt.slice_le z _ _) hz, fin⟩)
    | int j uj => exact wpAny_getItem_str_slice (l := some (i, ui)) (u := some (j, uj)) (st := none) ⟨o, ho, hc, hd⟩ rfl (post_val_or_str ⟨Nat.le_trans (Txt.slice_le z _ _) hz, fin⟩)
def rInC (neg : Bool) : R2 := fun x y H Q => ∃ c j, x = .str (tx [c]) ∧ y = .str j ∧ Q (.bl (if neg then !decide (c ∈ ts j) else decide (c ∈ ts j))) H
theorem op_in_c : OpR X (compareOp .In) (rInC false) := by
  intro pins s σ H x y v u Q I rx ry h
  obtain ⟨c, j, rfl, rfl, q⟩ := h
  refine op_in_str pins s σ H _ _ v u Q I rx ry ⟨_, _, rfl, rfl, ?_⟩
  have e := StrLaws.found_one j c
  rw [show (tx [c] : Str) = ⟨#[c]⟩ from rfl, e]
  exact q
def Its (x : Str) : It := ⟨fun i _ => i < (ts x).length, fun i H y H' => H' = H ∧ ∃ c, (ts x)[i]? = some c ∧ y = .str (tx [c]), fun i _ => (ts x).length ≤ i⟩
theorem turn_str {P : Program} {w : World} {K : PySem.W.Frag} {tg : Expr} (x : Str) (t : Tok) (it : Addr) (ty : String) (hty : ty = "str_ascii_iterator" ∨ ty = "str_iterator") : Turn P w K tg (Its x) [it] it (fun i h => h.IsStrIter it ty x t i) where
  mem := by simp
  obj := fun i h st b hb => by
    have e : b = it := by simpa using hb
    subst e
    obtain ⟨o, e, c, d⟩ := st
    exact ⟨o, e, fun v z => by rw [d] at z; cases z⟩
  keep := fun i h h' st k => by
    obtain ⟨o, e, c, d⟩ := st
    exact ⟨o, k it (by simp) o e, c, d⟩
  item := by
    intro X hP hw hK hc i pins s σ H E I hf st hg
    subst hP hw hK
    obtain ⟨f0, f1, f2, f3, f4, f5⟩ := hf it (by simp)
    have hi : i < (ts x).length := hg
    have hx : x.cps[i]? = some (ts x)[i] := by
      rw [← Array.getElem?_toList]; simp [hi]
    have fin : ∀ h', h'.IsStrIter it ty x t (i + 1) → Heap.SameBut it s.heap h' → ∃ u, some (Value.str ⟨#[(ts x)[i]]⟩ s.toks) = some u ∧
        wpAny (model X.prog X.w) X.A (letOwnedTupleGo tg (.ref it) u) (fun _ s2 => ∃ x' H', Inv X pins σ H' s2 ∧ RelV x' u ∧ (Its x).yld i H x' H' ∧ s2.heap.IsStrIter it ty x t (i + 1) ∧ ∀ b ∈ [it], H' b = none) E { s with heap := h', toks := s.toks + 1 } := fun h' st' sb => by
      have I1 : Inv X pins σ H { s with heap := h', toks := s.toks + 1 } := I.turned (t' := s.toks + 1) (fun b o hb e => (sb.2 b hb).trans e) f0 f1 f3 f4 f5
      obtain ⟨o, e, c, d⟩ := id st'
      refine ⟨_, rfl, go_of (s := { s with heap := h', toks := s.toks + 1 }) e c d ?_ ⟨.str (tx [(ts x)[i]]), H, I1, ⟨_, rfl⟩, ⟨rfl, _, by simp [hi], rfl⟩, st', fun b hb => (hf b hb).1⟩⟩
      rcases hty with z | z <;> (rw [z]; decide)
    rcases hty with z | z
    · subst z; exact wpAny_pyNext_ascii_item st hx fun h' st' sb => fin h' st' sb
    · subst z; exact wpAny_pyNext_wide_item st hx fun h' st' sb => fin h' st' sb
  done := by
    intro X hP hw hK hc i pins s σ H E I hf st hg
    subst hP hw hK
    obtain ⟨f0, f1, f2, f3, f4, f5⟩ := hf it (by simp)
    have hi : (ts x).length ≤ i := hg
    have hx : x.cps[i]? = none := by
      rw [← Array.getElem?_toList]; exact List.getElem?_eq_none hi
    rcases hty with z | z
    · subst z; exact wpAny_pyNext_ascii_end (I.ok.hd hc) st hx fun h' eb => ⟨rfl, I.turned (t' := s.toks) (fun b o hb e => eb b o hb e) f0 f1 f3 f4 f5⟩
    · subst z; exact wpAny_pyNext_wide_end (I.ok.hd hc) st hx fun h' eb => ⟨rfl, I.turned (t' := s.toks) (fun b o hb e => eb b o hb e) f0 f1 f3 f4 f5⟩
  self := fun _ _ _ _ _ st h => by
    rcases hty with z | z
    · subst z; exact wpAny_pyIter_striter_ascii st h
    · subst z; exact wpAny_pyIter_striter_wide st h
def iStr (tl : TE) : TI := fun σ H R => tl σ H fun x H1 => ∃ z, x = .str z ∧ R (Its z) H1
theorem pi_str {tg l : Expr} {tl : TE} (hl : PE X l tl) : PI X tg l (iStr tl) := by
  intro pins s σ H R I h
  refine thn (hl pins s σ H _ I h) fun v s1 ⟨x, H1, I1, r1, q1⟩ => ?_
  obtain ⟨z, rfl, q⟩ := q1
  obtain ⟨t, rfl⟩ := r1
  have fin : ∀ ty, (ty = "str_ascii_iterator" ∨ ty = "str_iterator") → PIE X pins σ tg R (.ref s1.heap.objs.size) { s1 with heap := s1.heap.push { cls := .type ty, data := .fields #[.str z t, .int 0 0] } } := fun ty hty => by
    refine ⟨s1.heap.objs.size, [s1.heap.objs.size], _, _, H1, rfl, I1.kept (t' := s1.toks) fun b o e => Heap.get?_push_of_some _ e, turn_str z t _ ty hty, ⟨_, Heap.get?_push_size _ rfl, rfl, rfl⟩, fun b hb => ?_, q⟩
    have e : b = s1.heap.objs.size := by simpa using hb
    subst e
    exact I1.fpOk (Nat.le_refl _) (I1.hok.fresh (Nat.le_refl _))
  cases ha : z.cps.all (· < 128) with
  | true => exact wpAny_pyIter_ascii ha (fin _ (.inl rfl))
  | false => exact wpAny_pyIter_wide ha (fin _ (.inr rfl))
theorem boolsAre_of {bs : List Bool} : ∀ {us : List Value}, Vals (bs.map V.bl) us → PyProof.Rows.LSm.BoolsAre us bs := by
  induction bs with
  | nil => intro us r; rw [List.map_nil] at r; cases r; exact .nil
  | cons n ns ih =>
    intro us r
    rw [List.map_cons] at r
    cases r with
    | cons r1 r2 =>
      cases (show _ = Value.bool n from r1)
      exact .cons n (ih r2)
theorem call_all (hc : X.calm = true) : CallR X (.builtin "all") (fun xs H Q => ∃ (p : Addr) (bs : List Bool), xs = [.ref p] ∧ SqL X.K H p (bs.map V.bl) ∧ Q (.bl (bs.all id)) H) := by
  intro pins s σ H xs us Q I r h
  obtain ⟨p, bs, rfl, hq, q⟩ := h
  obtain ⟨u, rfl, rx⟩ := vals1 r
  cases rx
  obtain ⟨its, rv, pl, hz⟩ := I.list hq
  have hl := pl.isList
  have hb := boolsAre_of rv
  have hlt : p < s.heap.objs.size := by obtain ⟨_, e, _⟩ := hl; exact Heap.lt_size e
  refine call_all_walk (wpAny_pyIter_list hl ?_)
  refine ⟨s.heap.objs.size, [s.heap.objs.size, p], [s.heap.objs.size], its.toArray.size, _, _, fun i => (bs[i]?).getD true, rfl, Walks.list (A := X.A.in1) (I.ok.hd hc) _ p (Nat.ne_of_lt hlt) its.toArray,
    ⟨⟨_, Heap.get?_push_size _ rfl, rfl, rfl⟩, hl.push _⟩, fun i v s' Q' E' hP hQ => ?_, fun h' tk hk => ?_⟩
  · obtain ⟨b, e, rfl⟩ := hb.get i v (by simpa using hP)
    simp only [e, Option.getD_some] at hQ
    exact wpAny_truthy_bool hQ
  · have e : ((List.range its.toArray.size).all fun i => (bs[i]?).getD true) = bs.all id := by
      rw [List.size_toArray, hb.length]; exact PyProof.Rows.LSm.range_all bs
    rw [e]
    exact ⟨.bl _, H, I.kept (PyProof.Rows.LSm.kept_iter hk), rfl, q⟩
def eqLs : List V → List V → Bool
  | [], [] => true
  | x :: xs, y :: ys => eqV x y && eqLs xs ys
  | _, _ => false
theorem eqLs_range : ∀ (xs ys : List V), xs.length = ys.length → (List.range xs.length).all (fun j => match xs[j]?, ys[j]? with | some a, some b => eqV a b | _, _ => true) = eqLs xs ys
  | [], [], _ => rfl
  | x :: xs, y :: ys, h => by
    have ih := eqLs_range xs ys (by simpa using h)
    rw [List.length_cons, List.range_succ_eq_map, List.all_cons, List.all_map]
    show (eqV x y && _) = (eqV x y && eqLs xs ys)
    rw [← ih]
    congr 1
theorem eqLs_len : ∀ {xs ys : List V}, xs.length ≠ ys.length → eqLs xs ys = false
  | [], [], h => absurd rfl h
  | [], _ :: _, _ => rfl
  | _ :: _, [], _ => rfl
  | x :: xs, y :: ys, h => by
    have ih := eqLs_len (xs := xs) (ys := ys) (by simpa using h)
    show (eqV x y && eqLs xs ys) = false
    rw [ih, Bool.and_false]
def rEqL (K : PySem.W.Frag) (neg : Bool) : R2 := fun x y H Q => ∃ a b xs ys, x = .ref a ∧ y = .ref b ∧ SqL K H a xs ∧ SqL K H b ys ∧ xs.all flatV = true ∧ ys.all flatV = true ∧ Q (.bl (if neg then !eqLs xs ys else eqLs xs ys)) H
theorem Vals.some_at {xs : List V} {us : List Value} (r : Vals xs us) {j : Nat} (h : j < us.length) : ∃ x, xs[j]? = some x ∧ RelV x us[j] := by
  have hl := r.length
  obtain ⟨x, e⟩ : ∃ x, xs[j]? = some x := ⟨xs[j], by simp [hl, h]⟩
  obtain ⟨u, hu, ru⟩ := r.get e
  have e2 : us[j]? = some us[j] := by simp [h]
  rw [e2] at hu
  cases hu
  exact ⟨x, e, ru⟩
theorem lists_he {A : Around} {s : Shared} {xs ys : List V} {us ws : List Value} (r : Vals xs us) (q : Vals ys ws) (fx : xs.all flatV = true) (fy : ys.all flatV = true) :
    ∀ j (h1 : j < us.toArray.size) (h2 : j < ws.toArray.size), SeqAt.EqAt A s us.toArray[j] ws.toArray[j] ((fun j => match xs[j]?, ys[j]? with | some a, some b => eqV a b | _, _ => true) j) := fun j h1 h2 => by
  obtain ⟨x, e1, r1⟩ := r.some_at (j := j) (by simpa using h1)
  obtain ⟨y, e2, r2⟩ := q.some_at (j := j) (by simpa using h2)
  have f1 : flatV x = true := List.all_eq_true.mp fx x (List.mem_of_getElem? e1)
  have f2 : flatV y = true := List.all_eq_true.mp fy y (List.mem_of_getElem? e2)
  have z := eqAt_V (A := A) (s := s) r1 r2 f1 f2
  simp only [e1, e2]
  simpa using z
theorem op_ne_l (hu : X.A.units < cLine) : OpR X (compareOp .NotEq) (rEqL X.K true) := by
  intro pins s σ H x y v u Q I rx ry h
  obtain ⟨a, b, xs, ys, rfl, rfl, ha, hb, fx, fy, q⟩ := h
  cases rx
  cases ry
  obtain ⟨its, r1, pl1, _⟩ := I.list ha
  obtain ⟨its2, r2, pl2, _⟩ := I.list hb
  have l1 := r1.length
  have l2 := r2.length
  by_cases e : xs.length = ys.length
  · refine SeqAt.RcNeAt.lists pl1.isList pl2.isList (by simp only [List.size_toArray]; omega) hu (lists_he r1 r2 fx fy) X.prog X.w X.xe _ ⟨.bl _, H, I, rfl, ?_⟩
    rw [List.size_toArray, ← l1, eqLs_range xs ys e]
    exact q
  · refine SeqAt.RcNeAt.lists_lengths pl1.isList pl2.isList (by simp only [List.size_toArray]; simpa [← l1, ← l2] using e) hu X.prog X.w X.xe _ ⟨.bl _, H, I, rfl, ?_⟩
    have z := eqLs_len e
    simpa [z] using q
def tyS (H : Hp) : V → Option String
  | .non => some "NoneType"
  | .bl _ => some "bool"
  | .int _ => some "int"
  | .str _ => some "str"
  | .ref a => match H a with
    | some (.lst _) => some "list"
    | some (.tup _) => some "tuple"
    | some (.dK _) => some "dict"
    | _ => none
  | _ => none
def isSub (t T : String) : Bool := t == T || (t == "bool" && T == "int")
theorem tyS_of {K : PySem.W.Frag} {H : Hp} {x : V} {t : String} (h : tyS H x = some t) : TyOf K H x (.type t) := by
  cases x with
  | non => cases h; exact .non
  | bl b => cases h; exact .bl b
  | int i => cases h; exact .int i
  | str z => cases h; exact .str z
  | ref a =>
    have h' : (match H a with | some (.lst _) => some "list" | some (.tup _) => some "tuple" | some (.dK _) => some "dict" | _ => none) = some t := h
    cases e : H a with
    | none => rw [e] at h'; cases h'
    | some o =>
      rw [e] at h'
      cases o with
      | lst xs => cases h'; exact .lst e
      | tup xs => cases h'; exact .tup e
      | dK kvs => cases h'; exact .dK e
      | _ => cases h'
  | byt b => cases h
  | flt b => cases h
  | ty n => cases h
def tyL : List String := ["NoneType", "bool", "int", "str", "list", "tuple", "dict"]
def kitB (t T : String) : Option Bool := if (Value.type t == Value.type T) = true then some true else if PySem.W.kitMeta T = true then (fastBuiltinMro t).map (·.contains (.type T)) else none
theorem kitB_ok : (tyL.all fun t => tyL.all fun T => kitB t T == some (isSub t T)) = true := by decide +kernel
theorem kit_bi {K : PySem.W.Frag} {t T : String} (h1 : t ∈ tyL) (h2 : T ∈ tyL) : PySem.W.kitOne K (.type t) (.type T) = some (isSub t T) := by
  have a := List.all_eq_true.mp (List.all_eq_true.mp kitB_ok t h1) T h2
  have b : kitB t T = some (isSub t T) := by simpa using a
  exact b
theorem tyS_mem {H : Hp} {x : V} {t : String} (h : tyS H x = some t) : t ∈ tyL := by
  cases x <;> first | (cases h; simp [tyL]; done) | (cases h; done) | skip
  rename_i a
  have h' : (match H a with | some (.lst _) => some "list" | some (.tup _) => some "tuple" | some (.dK _) => some "dict" | _ => none) = some t := h
  split at h' <;> first | (cases h'; simp [tyL]; done) | (cases h'; done)
theorem kitx_ty {pins : List (Addr × Obj)} {σ : St} {H : Hp} {s : Shared} {x : V} {u : Value} {t : String} (I : Inv X pins σ H s) (rx : RelV x u) (h : tyS H x = some t) :
    ∃ φ : Heap → Prop, PySem.W.KitX X.K u (.type t) φ ∧ φ s.heap ∧ u ≠ .builtin "__main__.__loader__#opaque" := by
  cases tyS_of (K := X.K) h with
  | non => cases (show u = Value.none from rx); exact ⟨_, PySem.W.kitx_none, True.intro, fun z => nomatch z⟩
  | bl y => cases (show u = Value.bool y from rx); exact ⟨_, PySem.W.kitx_bool, True.intro, fun z => nomatch z⟩
  | int i => obtain ⟨t, q⟩ := (show ∃ t, u = Value.int i t from rx); cases q; exact ⟨_, PySem.W.kitx_int, True.intro, fun z => nomatch z⟩
  | str y => obtain ⟨t, q⟩ := (show ∃ t, u = Value.str y t from rx); cases q; exact ⟨_, PySem.W.kitx_str, True.intro, fun z => nomatch z⟩
  | flt y => obtain ⟨t, q⟩ := (show ∃ t, u = Value.float y t from rx); cases q; exact ⟨_, PySem.W.kitx_float, True.intro, fun z => nomatch z⟩
  | @lst a xs ea =>
    cases (show u = Value.ref a from rx)
    obtain ⟨_, _, n, _, h1⟩ := (show ObjOk X.prog X.w H s.heap a (.lst xs) from I.hok a _ ea)
    exact ⟨_, PySem.W.kitx_list, ⟨_, h1, rfl⟩, fun z => nomatch z⟩
  | @frz a ob xs ea =>
    cases (show u = Value.ref a from rx)
    obtain ⟨_, _, _, n, _, h1⟩ := (show ObjOk X.prog X.w H s.heap a (.frz ob (.lst xs)) from I.hok a _ ea)
    exact ⟨_, PySem.W.kitx_list, ⟨_, h1, rfl⟩, fun z => nomatch z⟩
  | @tup a xs ea =>
    cases (show u = Value.ref a from rx)
    obtain ⟨_, _, _, p⟩ := (show ObjOk X.prog X.w H s.heap a (.tup xs) from I.hok a _ ea)
    obtain ⟨o, h1, h2, _⟩ := p
    exact ⟨_, PySem.W.kitx_tuple, ⟨o, h1, h2⟩, fun z => nomatch z⟩
  | @dK a kvs ea =>
    cases (show u = Value.ref a from rx)
    obtain ⟨_, _, vs, _, p⟩ := (show ObjOk X.prog X.w H s.heap a (.dK kvs) from I.hok a _ ea)
    obtain ⟨o, es, ep, h1, h2, _⟩ := p
    exact ⟨_, PySem.W.kitx_dict, ⟨o, h1, h2.1⟩, fun z => nomatch z⟩
  | @dT a kvs ea =>
    cases (show u = Value.ref a from rx)
    obtain ⟨_, _, xs, _, o, es, ep, h1, h2, _⟩ := (show ObjOk X.prog X.w H s.heap a (.dT kvs) from I.hok a _ ea)
    exact ⟨_, PySem.W.kitx_dict, ⟨o, h1, h2.1⟩, fun z => nomatch z⟩
theorem call_isi2 {T U : String} (hT : T ∈ tyL) (hU : U ∈ tyL) : CallR X (.builtin "isinstance") (fun xs H Q => ∃ x t p, xs = [x, .ref p] ∧ H p = some (.tup [.ty T, .ty U]) ∧ tyS H x = some t ∧ Q (.bl (isSub t T || isSub t U)) H) := by
  intro pins s σ H xs us Q I r h
  obtain ⟨x, t, p, rfl, hp, ht, q⟩ := h
  obtain ⟨u, w', rfl, ru, rw'⟩ := vals2 r
  cases (show w' = Value.ref p from rw')
  obtain ⟨φ, Z, hφ, hne⟩ := kitx_ty I ru ht
  obtain ⟨_, its, rv, pl⟩ := (show ObjOk X.prog X.w H s.heap p (.tup [.ty T, .ty U]) from I.hok p _ hp)
  obtain ⟨v1, v2, e, r1, r2⟩ := vals2 rv
  subst e
  cases (show v1 = Value.type T from r1)
  cases (show v2 = Value.type U from r2)
  obtain ⟨o, ho, hc, n, hd⟩ := pl
  obtain ⟨oc, od, odt, osl⟩ := o
  cases (show oc = Value.type "tuple" from hc)
  cases (show odt = Data.seq _ n from hd)
  refine PySem.W.kia_tup Z I.kIn hφ ho (b := isSub t T || isSub t U) ?_ hne fun tk => ⟨.bl _, H, I.tok _, rfl, q⟩
  have k1 := kit_bi (K := X.K) (tyS_mem ht) hT
  have k2 := kit_bi (K := X.K) (tyS_mem ht) hU
  simp only [PySem.W.kitAny, k1, k2]
  cases isSub t T <;> cases isSub t U <;> rfl
theorem call_isi {T : String} (hT : T ∈ tyL) : CallR X (.builtin "isinstance") (fun xs H Q => ∃ x t, xs = [x, .ty T] ∧ tyS H x = some t ∧ Q (.bl (isSub t T)) H) := by
  intro pins s σ H xs us Q I r h
  obtain ⟨x, t, rfl, ht, q⟩ := h
  obtain ⟨u, w', rfl, ru, rw'⟩ := vals2 r
  cases (show w' = Value.type T from rw')
  exact isinst_ok I ru (tyS_of ht) (kit_bi (tyS_mem ht) hT) fun tk => ⟨.bl _, H, I.tok _, rfl, q⟩
end
theorem bt_len : bootBuiltins "len" = some (.builtin "len") := by decide +kernel
theorem bt_isinstance : bootBuiltins "isinstance" = some (.builtin "isinstance") := by decide +kernel
theorem bt_all : bootBuiltins "all" = some (.builtin "all") := by decide +kernel
theorem bt_abs : bootBuiltins "abs" = some (.builtin "abs") := by decide +kernel
theorem bt_ord : bootBuiltins "ord" = some (.builtin "ord") := by decide +kernel
theorem bt_min : bootBuiltins "min" = some (.builtin "min") := by decide +kernel
theorem bt_sorted : bootBuiltins "sorted" = some (.builtin "sorted") := by decide +kernel
theorem bt_int : bootBuiltins "int" = some (.type "int") := by decide +kernel
theorem bt_str : bootBuiltins "str" = some (.type "str") := by decide +kernel
theorem bt_bool : bootBuiltins "bool" = some (.type "bool") := by decide +kernel
theorem bt_list : bootBuiltins "list" = some (.type "list") := by decide +kernel
theorem bt_dict : bootBuiltins "dict" = some (.type "dict") := by decide +kernel
theorem bt_tuple : bootBuiltins "tuple" = some (.type "tuple") := by decide +kernel
structure Bl (mg : Str → Option Value) : Prop where
  len : mg "len" = none
  range : mg "range" = none
  isinstance : mg "isinstance" = none
  all : mg "all" = none
  sum : mg "sum" = none
  int : mg "int" = none
  str : mg "str" = none
  bool : mg "bool" = none
  list : mg "list" = none
  dict : mg "dict" = none
  tuple : mg "tuple" = none
structure Dn (P : Program) (w : World) (K : PySem.W.Frag) (mg : Str → Option Value) (base : Heap) (k : Nat) (x : Str) (ps : List Str) (sp : Sp) : Prop where
  ex : ∃ (f : Addr) (fd : FuncData), FnOk P w K mg base CX0 k f fd ps sp ∧ Binds K fd ps [] ∧ PySem.W.keepIn K (.ref f) = true ∧ mg x = some (.ref f)
section
variable {X : Cx} {k j : Nat} {x : Str} {ps : List Str} {sp : Sp} {e : Expr} {es : List Expr} {t : TA} {p pos : Pos}
theorem pe_cd (D : Dn X.prog X.w X.K X.mg X.base k x ps sp) (hr : Room j X.A) (hj : k ≤ j) (hg : Gl X x) (ha : PA X (e :: es) t) (hdb : (x == ("__debug__" : Str)) = false := by decide)
    (he : starEach (e :: es) X.env = (false, eval e X.env) :: starEach es X.env := by rfl) (hpl : (backTo pos (starEach es X.env)).any (·.1) = false := by rfl) : PE X (.Call (.Name x p) (e :: es) [] pos) (tCall sp [] E0 t) := by
  obtain ⟨f, fd, h1, h2, h3, h4⟩ := D.ex
  exact pe_call h1 (hr.mono hj) hg h4 h3 h2 .nil pass0 ha hdb he hpl
theorem pe_cd0 (D : Dn X.prog X.w X.K X.mg X.base k x ps sp) (hr : Room j X.A) (hj : k ≤ j) (hg : Gl X x) (hdb : (x == ("__debug__" : Str)) = false := by decide) : PE X (.Call (.Name x p) [] [] pos) (tCall sp [] E0 tNil) := by
  obtain ⟨f, fd, h1, h2, h3, h4⟩ := D.ex
  exact pe_call0 h1 (hr.mono hj) hg h4 h3 h2 .nil pass0 hdb
end
end L2
namespace L2
open PySem PySem.Spec PyProof.Rows
theorem forIn_fold {α β : Type} {l : List α} {f : α → β → Sem (ForInStep β)} (g : β → α → β) (h : ∀ x ∈ l, ∀ c, f x c = pure (.yield (g c x))) : ∀ b : β, forIn l b f = pure (l.foldl g b) := by
  induction l with
  | nil => intro b; rfl
  | cons a r ih =>
    intro b
    rw [List.forIn_cons, h a List.mem_cons_self]
    show forIn r (g b a) f = _
    rw [ih (fun x hx => h x (List.mem_cons_of_mem _ hx)) (g b a)]
    rfl
def cloStep (env : Env) (cs : List (Str × Addr)) (x : Str × NameKind) : List (Str × Addr) :=
  if (x.2 == NameKind.free) = true then (match env.cells.lookup x.1 with | some a => (x.1, a) :: cs | none => cs) else cs
def clo (env : Env) (names : List (Str × NameKind)) : List (Str × Addr) := names.foldl (cloStep env) []
theorem closureFor_clo {scope : Scope} {env : Env} (h : ∀ x ∈ scope.names, x.2 = .free → ∃ c, env.cells.lookup x.1 = some c) : closureFor scope env = pure (clo env scope.names) := by
  simp only [closureFor]
  rw [forIn_fold (cloStep env) (fun x hx c => by
    obtain ⟨n, k⟩ := x
    by_cases hk : k = .free
    · subst hk
      obtain ⟨a, e⟩ := h _ hx rfl
      have e' : env.cells.lookup n = some a := e
      simp [cloStep, cellOf, e']
    · have e : (k == NameKind.free) = false := by simpa using hk
      simp [cloStep, e])]
  rfl
theorem clo_mem {env : Env} : ∀ (names : List (Str × NameKind)) (cs : List (Str × Addr)), (∀ p ∈ cs, env.cells.lookup p.1 = some p.2) → ∀ p ∈ names.foldl (cloStep env) cs, env.cells.lookup p.1 = some p.2
  | [], _, h => h
  | x :: r, cs, h => by
    refine clo_mem r (cloStep env cs x) fun p hp => ?_
    unfold cloStep at hp
    split at hp
    · split at hp
      · rename_i a e
        rcases List.mem_cons.mp hp with z | z
        · rw [z]; exact e
        · exact h p z
      · exact h p hp
    · exact h p hp
theorem clo_keep {env : Env} {p : Str × Addr} : ∀ (names : List (Str × NameKind)) (cs : List (Str × Addr)), p ∈ cs → p ∈ names.foldl (cloStep env) cs
  | [], _, h => h
  | x :: r, cs, h => by
    refine clo_keep r (cloStep env cs x) ?_
    unfold cloStep
    split
    · split
      · exact List.mem_cons_of_mem _ h
      · exact h
    · exact h
theorem clo_has {env : Env} {n : Str} {c : Addr} (e : env.cells.lookup n = some c) : ∀ (names : List (Str × NameKind)) (cs : List (Str × Addr)), (n, NameKind.free) ∈ names → (n, c) ∈ names.foldl (cloStep env) cs
  | [], _, h => nomatch h
  | x :: r, cs, h => by
    rcases List.mem_cons.mp h with z | z
    · subst z
      refine clo_keep r _ ?_
      unfold cloStep
      rw [if_pos (by rfl)]
      show (n, c) ∈ (match env.cells.lookup n with | some a => (n, a) :: cs | none => cs)
      rw [e]
      exact List.mem_cons_self
    · exact clo_has e r _ z
theorem lookup_some_of_mem {α : Type} {n : Str} {c : α} : ∀ {l : List (Str × α)}, (n, c) ∈ l → ∃ c', l.lookup n = some c'
  | [], h => nomatch h
  | (m, d) :: r, h => by
    by_cases e : n = m
    · subst e; exact ⟨d, by simp [List.lookup_cons]⟩
    · rcases List.mem_cons.mp h with z | z
      · cases z; exact absurd rfl e
      · obtain ⟨c', q⟩ := lookup_some_of_mem z
        have e2 : (n == m) = false := by simpa using e
        exact ⟨c', by rw [List.lookup_cons, e2]; exact q⟩
theorem clo_of {env : Env} {names : List (Str × NameKind)} {n : Str} {c : Addr} (h : (clo env names).lookup n = some c) : env.cells.lookup n = some c :=
  clo_mem names [] (fun _ z => nomatch z) (n, c) (PySem.mem_of_lookup h)
theorem clo_lookup {env : Env} {names : List (Str × NameKind)} {n : Str} {c : Addr} (e : env.cells.lookup n = some c) (h : (n, NameKind.free) ∈ names) : (clo env names).lookup n = some c := by
  obtain ⟨c', q⟩ := lookup_some_of_mem (clo_has e names [] h)
  have q' : (clo env names).lookup n = some c' := q
  have z := clo_of q'
  rw [e] at z
  rw [q', ← z]
inductive FreeOk (X : Cx) (scope : Scope) : List (Str × Nat) → Prop where
  | nil : FreeOk X scope []
  | cons {x : Str} {i : Nat} {r : List (Str × Nat)} (h1 : X.N[i]? = some x) (h2 : X.env.kindOf x = some .cell) (h3 : scope.names.lookup x = some .free) (h : FreeOk X scope r) : FreeOk X scope ((x, i) :: r)
theorem FreeOk.mem {X : Cx} {scope : Scope} : ∀ {F : List (Str × Nat)}, FreeOk X scope F → ∀ p ∈ F, X.N[p.2]? = some p.1 ∧ X.env.kindOf p.1 = some .cell ∧ scope.names.lookup p.1 = some .free
  | _, .nil, _, h => nomatch h
  | _, .cons h1 h2 h3 h, p, hp => by
    rcases List.mem_cons.mp hp with z | z
    · subst z; exact ⟨h1, h2, h3⟩
    · exact h.mem p z
structure CompSc (X : Cx) (scope : Scope) (own : List Str) (F : List (Str × Nat)) : Prop where
  kind : scope.kind = .function
  nocell : (scope.names.all fun y => !(y.2 == NameKind.cell)) = true
  loc : (scope.names.all fun y => !(y.2 == NameKind.local) || (scope.names.lookup y.1 == some NameKind.local)) = true
  fr : (scope.names.all fun y => !(y.2 == NameKind.free) || (X.env.scope.names.lookup y.1 == some NameKind.cell)) = true
  free : FreeOk X scope F
def compN (own : List Str) (F : List (Str × Nat)) : List Str := own ++ F.map (·.1)
def compσ (own : List Str) (F : List (Str × Nat)) (σ : St) : St := own.map (fun _ => Option.none) ++ F.map (fun p => (σ[p.2]?).join)
def compCx (X : Cx) (own : List Str) (F : List (Str × Nat)) (scope : Scope) (C : Addr) (s₃ : Shared) (H₃ : Hp) (ex : List Addr) : Cx where
  prog := X.prog
  w := X.w
  K := X.K
  mg := X.mg
  base := X.base
  A := X.A
  N := compN own F
  s₀ := s₃
  H₀ := H₃
  env := compEnvC scope (clo X.env scope.names) C X.env
  outer := X.stack
  stack := X.stack
  ex := ex
  fn := fun _ => false
  calm := X.calm
  pn := []
  xe := fun _ _ => False
theorem CompSc.nc {X : Cx} {scope : Scope} {own : List Str} {F : List (Str × Nat)} (S : CompSc X scope own F) : ∀ y ∈ scope.names, y.2 ≠ .cell := fun y hy e => by
  have q := List.all_eq_true.mp S.nocell y hy
  rw [e] at q
  exact absurd q (by decide)
theorem CompSc.lc {X : Cx} {scope : Scope} {own : List Str} {F : List (Str × Nat)} (S : CompSc X scope own F) : ∀ y ∈ scope.names, y.2 = .local → scope.names.lookup y.1 = some .local := fun y hy e => by
  have q := List.all_eq_true.mp S.loc y hy
  rw [e] at q
  simpa using q
theorem CompSc.fc {X : Cx} {scope : Scope} {own : List Str} {F : List (Str × Nat)} (S : CompSc X scope own F) : ∀ y ∈ scope.names, y.2 = .free → X.env.kindOf y.1 = some .cell := fun y hy e => by
  have q := List.all_eq_true.mp S.fr y hy
  rw [e] at q
  have q' : X.env.scope.names.lookup y.1 = some NameKind.cell := by simpa using q
  exact q'
theorem relabel_free {scope : Scope} {env : Env} (hc : ∀ y ∈ scope.names, y.2 ≠ .cell) {x : Str} (h : (relabel scope env).names.lookup x = some .cell ∨ (relabel scope env).names.lookup x = some .free) : (x, NameKind.free) ∈ scope.names := by
  have go : ∀ k, (relabel scope env).names.lookup x = some k → k = .cell ∨ k = .free → (x, NameKind.free) ∈ scope.names := fun k e hk => by
    have m := PySem.mem_of_lookup e
    unfold relabel at m
    obtain ⟨⟨n, k0⟩, hm, e2⟩ := List.mem_map.mp m
    by_cases hf : k0 = .free
    · subst hf
      dsimp only at e2
      split at e2 <;> (cases e2; exact hm)
    · have e3 : (k0 == NameKind.free) = false := by simpa using hf
      simp only [e3, Bool.false_and, Bool.false_eq_true, if_false] at e2
      cases e2
      rcases hk with z | z
      · exact absurd z (hc _ hm)
      · exact absurd z hf
  rcases h with h | h
  · exact go _ h (.inl rfl)
  · exact go _ h (.inr rfl)
theorem lookup_relabel_free {env : Env} (hf : env.scope.kind = .function) : ∀ {names : List (Str × NameKind)} {x : Str}, names.lookup x = some .free → env.kindOf x = some .cell →
    (names.map fun (n, k) => if (k == NameKind.free && env.scope.kind == .function && env.kindOf n == some .cell) then (n, NameKind.cell) else (n, k)).lookup x = some .cell
  | [], _, h, _ => by simp at h
  | (n, k) :: r, x, h, hx => by
    have ih := @lookup_relabel_free env hf r x
    rw [List.map_cons]
    by_cases e : x = n
    · subst e
      have hk : k = .free := by simpa [List.lookup_cons] using h
      subst hk
      have c : (NameKind.free == NameKind.free && env.scope.kind == .function && env.kindOf x == some .cell) = true := by rw [hf, hx]; rfl
      show List.lookup x ((if (NameKind.free == NameKind.free && env.scope.kind == .function && env.kindOf x == some .cell) = true then (x, NameKind.cell) else (x, NameKind.free)) :: _) = _
      rw [if_pos c]
      simp [List.lookup_cons]
    · have e2 : (x == n) = false := by simpa using e
      have h' : r.lookup x = some .free := by rw [List.lookup_cons, e2] at h; exact h
      have q := ih h' hx
      dsimp only
      split
      · rw [List.lookup_cons, e2]; exact q
      · rw [List.lookup_cons, e2]; exact q
section
variable {X : Cx} {pins : List (Addr × Obj)} {σ : St} {H : Hp} {s : Shared}
theorem Inv.freeCells {scope : Scope} {own : List Str} {F : List (Str × Nat)} (I : Inv X pins σ H s) (S : CompSc X scope own F) : ∀ x ∈ scope.names, x.2 = .free → ∃ c, X.env.cells.lookup x.1 = some c := fun x hx e =>
  I.ok.has x.1 (.inl (S.fc x hx e))
theorem Inv.notStk (I : Inv X pins σ H s) {b : Addr} (h1 : b ≠ X.env.locals) (h2 : b ∉ X.fs) : b ∉ frs X.stack := fun z => (List.mem_cons.mp (I.stkSub b z)).elim h1 h2
theorem comp_start {scope : Scope} {own : List Str} {F : List (Str × Nat)} {fp : List Addr} {h1 : Heap} {tk : Nat} (I : Inv X pins σ H s) (S : CompSc X scope own F) (hf : ∀ b ∈ fp, FpOk X pins H b) (hlt : ∀ b ∈ fp, b < s.heap.objs.size) {s3 : Shared}
    (e3 : s3 = { s with heap := s.heap.push { cls := .type "list", data := .seq ([] : List Value).toArray } })
    (hns : h1.Ns s3.heap.objs.size (fun _ => none)) (hk : ∀ b o, s3.heap.get? b = some o → h1.get? b = some o) :
    Inv (compCx X own F scope s3.heap.objs.size s3 H (s.heap.objs.size :: fp)) [] (compσ own F σ) H { s3 with heap := h1, toks := tk } := by
  have sz3 : s3.heap.objs.size = s.heap.objs.size + 1 := by rw [e3]; exact Heap.size_push ..
  have k3 : ∀ b o, s.heap.get? b = some o → s3.heap.get? b = some o := fun b o e => by rw [e3]; exact Heap.get?_push_of_some _ e
  have I3 : Inv X pins σ H s3 := by rw [e3]; exact I.kept (t' := s.toks) fun b o e => Heap.get?_push_of_some _ e
  have lkup : ∀ x c, (clo X.env scope.names).lookup x = some c → X.env.cells.lookup x = some c := fun x c e => clo_of e
  have base_lt : ∀ b o, X.base.get? b = some o → b < X.s₀.heap.objs.size := fun b o e => Nat.lt_of_lt_of_le (Heap.lt_size e) I.ok.bsz
  have kf : X.env.scope.kind = .function := I.ok.kind
  refine ⟨⟨I.ok.mod, S.kind, I.ok.glob, I.ok.blt, Nat.le_refl _, fun x y c h1 h2 => I.ok.inj x y c (lkup x c h1) (lkup y c h2), fun x hx => ?_, fun x c hx _ => (nomatch hx), I.ok.hd, I.ok.frames, .inl rfl, fun b hb => ?_, fun b o e => ?_, ?_, fun b o e hb => ?_, fun b hb => ?_, I3.stack, fun b hb => I.stkFree b hb⟩,
    rfl, I3.bare, Un.kept hk, ⟨_, hns, fun i x v e1 e2 e3' => ?_⟩, fun x c e => ?_, ?_, fun x c e => I.freeC x c (lkup x c e), fun p hp => absurd (show p ∈ ([] : List (Addr × Obj)) from hp) (by simp), I3.hok.kept hk, ?_⟩
  · have hm := relabel_free S.nc hx
    obtain ⟨c, e⟩ := I.freeCells S _ hm rfl
    exact ⟨c, clo_lookup e hm⟩
  · rcases List.mem_cons.mp hb with z | z
    · subst z
      refine ⟨fun q => ?_, fun x c e q => ?_⟩
      · have q' : s.heap.objs.size = s3.heap.objs.size := q
        omega
      · obtain ⟨v, u⟩ := I.cell x c (lkup x c e)
        exact absurd u.lt (by rw [q]; exact Nat.lt_irrefl _)
    · refine ⟨fun q => ?_, fun x c e => (hf b z).2.2.2.2.1 x c (lkup x c e)⟩
      exact Nat.ne_of_lt (Nat.lt_of_lt_of_le (hlt b z) (show s.heap.objs.size ≤ s3.heap.objs.size by omega)) q
  · obtain ⟨a1, a2⟩ := I.bs b o e
    exact ⟨k3 b o a1, a2⟩
  · exact Nat.le_trans (Nat.le_trans I.ok.bsz I.sz) (by show s.heap.objs.size ≤ s3.heap.objs.size; omega)
  · have l1 := base_lt b o e
    rcases List.mem_cons.mp hb with z | z
    · exact absurd (Nat.lt_of_lt_of_le l1 I.sz) (by rw [z]; exact Nat.lt_irrefl _)
    · rcases (hf b z).2.2.2.1 with q | q
      · exact I.ok.noex b o e q
      · exact absurd l1 (Nat.not_lt.mpr q)
  · rcases List.mem_cons.mp hb with z | z
    · subst z
      exact I.notStk (Nat.ne_of_gt I.lt) (I.nofs (Nat.le_refl _))
    · exact I.notStk (hf b z).2.1 (hf b z).2.2.1
  · -- a name that is seen
    have hi : own.length ≤ i := by
      by_cases z : i < own.length
      · rw [compσ, List.getElem?_append_left (by simpa using z), List.getElem?_map] at e2
        cases q : own[i]? with
        | none => rw [q] at e2; cases e2
        | some y => rw [q] at e2; cases e2
      · omega
    rw [compσ, List.getElem?_append_right (by simpa using hi), List.getElem?_map] at e2
    have e1' : (own ++ F.map (·.1))[i]? = some x := e1
    rw [List.getElem?_append_right hi, List.getElem?_map] at e1'
    simp only [List.length_map] at e2
    cases q : F[i - own.length]? with
    | none => rw [q] at e2; cases e2
    | some p =>
      rw [q] at e1' e2
      simp only [Option.map_some, Option.some.injEq] at e1' e2
      obtain ⟨f1, f2, f3⟩ := S.free.mem p (List.mem_of_getElem? q)
      subst e1'
      obtain ⟨m, hn, hl⟩ := I.loc
      have e4 : σ[p.2]? = some (some v) := by
        cases r : σ[p.2]? with
        | none => rw [r] at e2; cases e2
        | some o => rw [r] at e2; exact congrArg some e2
      obtain ⟨u, ru, l⟩ := hl p.2 p.1 v f1 e4 (.inr (.inl f2))
      refine ⟨u, ru, .inr ⟨.inl (lookup_relabel_free kf f3 f2), ?_⟩⟩
      rcases l with ⟨l, _⟩ | ⟨_, c, ec, z⟩
      · rw [f2] at l; cases l
      · refine ⟨c, clo_lookup ec (PySem.mem_of_lookup f3), ?_⟩
        obtain ⟨oc, ho, hd⟩ := z
        exact ⟨oc, hk _ _ (k3 _ _ ho), hd⟩
  · obtain ⟨v, oc, ho, hd⟩ := I.cell x c (lkup x c e)
    exact ⟨v, oc, hk _ _ (k3 _ _ ho), hd⟩
  · exact I.hok.fresh (by show s.heap.objs.size ≤ s3.heap.objs.size; omega)
  · show (compσ own F σ).length = (compN own F).length
    simp [compσ, compN]
theorem comp_back {scope : Scope} {own : List Str} {F : List (Str × Nat)} {fp : List Addr} {s3 s4 : Shared} {σ' : St} {H' : Hp} {ys : List V} {its : List Value} {n : Nat} (I : Inv X pins σ H s) (hf : ∀ b ∈ fp, FpOk X pins H b)
    (e3 : s3 = { s with heap := s.heap.push { cls := .type "list", data := .seq ([] : List Value).toArray } })
    (J : Inv (compCx X own F scope s3.heap.objs.size s3 H (s.heap.objs.size :: fp)) [] σ' H' s4) (hz : ys.length ≤ sizeLine) (hv : Vals ys its)
    (ha : s4.heap.get? s.heap.objs.size = some { cls := .type "list", data := .seq its.toArray n }) (hn : H' s.heap.objs.size = none) : Inv X pins σ (upd H' s.heap.objs.size (.lst ys)) s4 := by
  have sz3 : s3.heap.objs.size = s.heap.objs.size + 1 := by rw [e3]; exact Heap.size_push ..
  have k3 : ∀ b o, s.heap.get? b = some o → s3.heap.get? b = some o := fun b o e => by rw [e3]; exact Heap.get?_push_of_some _ e
  have U : Un (frs X.stack) (s.heap.objs.size :: fp) H H' s3.heap s4.heap := J.base
  have ne : ∀ b o, s.heap.get? b = some o → b ≠ s.heap.objs.size := fun b o e => Nat.ne_of_lt (Heap.lt_size e)
  have nx : ∀ b o, s.heap.get? b = some o → b ∉ fp → b ∉ s.heap.objs.size :: fp := fun b o e h z => (List.mem_cons.mp z).elim (ne b o e) h
  have os4 : s4.os = s.os := by
    have q : s4.os = s3.os := J.os
    rw [q, e3]
  refine I.call' (ch := fp) os4 ⟨fun b o e z hb hx => U.keep b o (k3 b o e) z hb (nx b o e hx), fun b o e z hb hx => U.slot b o (k3 b o e) z hb (nx b o e hx), fun b o e z hx => ?_, fun b o e hx => U.there b o (k3 b o e) (nx b o e hx), fun b xs e => ?_, fun b o u e => ?_, fun b ps e => ?_⟩ (fun b u e => ?_) J.bare fun b hb => ?_
  · rw [upd_ne (ne b o e)]
    exact U.free b o (k3 b o e) z (nx b o e hx)
  · have q := U.tups b xs e
    rw [upd_ne (ne_of_none q hn)]; exact q
  · have q := U.frzs b o u e
    rw [upd_ne (ne_of_none q hn)]; exact q
  · obtain ⟨more, q⟩ := U.tbls b ps e
    exact ⟨more, by rw [upd_ne (ne_of_none q hn)]; exact q⟩
  · by_cases hb : b = s.heap.objs.size
    · subst hb
      rw [upd_same] at e
      cases e
      exact ⟨hz, its, n, hv, ha⟩
    · rw [upd_ne hb] at e
      exact (J.hok b u e).stay (fun _ _ _ q => q) (fun c q => by rw [upd_ne (ne_of_none q hn)]; exact q) fun c xs q => by rw [upd_ne (ne_of_none q hn)]; exact q
  · obtain ⟨_, f1, _, f3, f4, f5⟩ := hf b hb
    exact ⟨f3, f1, f4, f5⟩
theorem comp_letgo {H' : Hp} {s4 : Shared} {C : Addr} {h' : Heap} {σ4 : St} (I : Inv X pins σ H s) (hC : s.heap.objs.size ≤ C) (I4 : Inv X pins σ4 H' s4) (hn : H' C = none) (hs : Heap.SameBut C s4.heap h') : Inv X pins σ4 H' { s4 with heap := h' } := by
  have q := I4.turned (it := C) (t' := s4.toks) (h' := h') (fun b o hb e => (hs.2 b hb).trans e) hn (Nat.ne_of_gt (Nat.lt_of_lt_of_le I.lt hC)) (.inr (Nat.le_trans I.sz hC)) (fun x c e z => ?_) (fun p hp z => ?_)
  · exact q
  · obtain ⟨v, u⟩ := I.cell x c e
    exact absurd (Nat.lt_of_lt_of_le u.lt (by rw [z]; exact hC)) (Nat.lt_irrefl _)
  · exact absurd (Nat.lt_of_lt_of_le (Heap.lt_size (I.pin p hp).1) (by rw [z]; exact hC)) (Nat.lt_irrefl _)
end
def PTs (X : Cx) (ifs : List Expr) (t : TT) : Prop :=
  ∀ (pins : List (Addr × Obj)) (s : Shared) (σ : St) (H : Hp) (Q : Bool → Hp → Prop), Inv X pins σ H s → t σ H Q →
    wpAny (model X.prog X.w) X.A (forIn ifs true fun c r => if r = true then do let ok ← isTrue c X.env (eval c X.env); pure (ForInStep.yield ok) else pure (ForInStep.yield r)) (TP X pins σ Q) X.xe s
def tTrue : TT := fun _ H Q => Q true H
theorem pts_nil {X : Cx} : PTs X [] tTrue := fun _ _ _ H _ I h => wpAny_tests_nil ⟨H, I, h⟩
theorem pts_one {X : Cx} {c : Expr} {t : TT} (h : PT X c t) : PTs X [c] t := fun pins s σ H Q I q => wpAny_tests_one (h pins s σ H Q I q)
theorem compLoop_go {prog : Program} {w : World} {A : Around} {R : Result → Shared → Prop} {s : Shared} {elt target iter : Expr} {ifs : List Expr} {scope : Scope} {pos : Pos} {it acc : Value} {env : Env} (I : Nat → Shared → Prop)
    (turn : ∀ n s, I n s → wpAny (model prog w) A (pyNext it) (fun r s₁ => match r with
      | none => R (.ok .next) s₁
      | some v => wpAny (model prog w) A (letOwnedTupleGo target it v) (fun _ s₂ => wpAny (model prog w) A (assign target env v) (fun _ s₃ =>
          wpAny (model prog w) A (forIn ifs true fun c r => if r = true then do let ok ← isTrue c env (eval c env); pure (ForInStep.yield ok) else pure (ForInStep.yield r)) (fun ok s₄ =>
            if ok = true then wpAny (model prog w) A (eval elt env) (fun x s₅ =>
              wpAny (model prog w) A (call (.builtin "list.append") [acc, x]) (fun _ s₆ => ∃ m, m < n ∧ I m s₆) (fun _ _ => False) s₅) (fun _ _ => False) s₄
            else ∃ m, m < n ∧ I m s₄) (fun _ _ => False) s₃) (fun _ _ => False) s₂) (fun _ _ => False) s₁) (fun _ _ => False) s)
    (n : Nat) (h : I n s) : codeAny (model prog w) A (.compLoop (.ListComp elt [⟨target, iter, ifs, 0⟩] scope pos) 0 it acc env) R s := by
  refine codeAny_loop rfl I (fun n s hI => ?_) n h
  show wpAny _ A ((compTurn (.ListComp elt [⟨target, iter, ifs, 0⟩] scope pos) 0 it acc env).onRaise (fun x => do noteFrame x env; theTreesLotGoes x)) _ _ s
  refine wpAny_noted ?_
  rw [compTurn_list]
  refine wpAny_bind (wpAny_standAt (wpAny_bind (wpAny_mono (turn n s hI) (fun r s₁ h₁ => ?_) fun _ _ f => f.elim)))
  cases r with
  | none => exact wpAny_pure h₁
  | some v =>
    refine wpAny_bind (wpAny_mono h₁ (fun _ s₂ h₂ => wpAny_bind (wpAny_mono h₂ (fun _ s₃ h₃ => wpAny_bind (wpAny_mono h₃ (fun ok s₄ h₄ => ?_) fun _ _ f => f.elim)) fun _ _ f => f.elim)) fun _ _ f => f.elim)
    cases ok with
    | false => exact wpAny_pure ⟨rfl, h₄⟩
    | true => exact wpAny_bind (wpAny_bind (wpAny_mono h₄ (fun x s₅ h₅ => wpAny_bind (wpAny_mono h₅ (fun _ s₆ h₆ => wpAny_pure (wpAny_pure ⟨rfl, h₆⟩)) fun _ _ f => f.elim)) fun _ _ f => f.elim))
def Weak (σ σ' : St) : Prop := σ'.length = σ.length ∧ ∀ (i : Nat) v, σ'[i]? = some (some v) → σ[i]? = some (some v)
theorem weak_set {σ : St} {i : Nat} {v : Option V} (h : σ[i]? = some none) : Weak (σ.set i v) σ := by
  refine ⟨by simp, fun j u e => ?_⟩
  by_cases hj : i = j
  · subst hj; rw [h] at e; cases e
  · rw [List.getElem?_set_ne hj]; exact e
def CompBody (own : List Str) (F : List (Str × Nat)) (g : TG) (tt : TT) (te : TE) (σ : St) (Q : VK) (J : It) (H1 : Hp) : Prop := ∃ W : Nat → Nat → List V → Hp → Prop, (∃ m, W 0 m [] H1) ∧ ∀ i m ys H', W i m ys H' → ys.length ≤ i →
  (J.stop i H' ∧ i ≤ sizeLine ∧ ∀ p, H' p = none → Q (.ref p) (upd H' p (.lst ys))) ∨
  (J.go i H' ∧ i < sizeLine ∧ ∃ N : List V → Hp → Prop, (∀ ys' H'', N ys' H'' → ∃ m', m' < m ∧ W (i + 1) m' ys' H'') ∧
    ∀ x H2, J.yld i H' x H2 → g x (compσ own F σ) H2 fun σ3 H3 => Weak σ3 (compσ own F σ) ∧ tt σ3 H3 fun b H4 => if b = true then te σ3 H4 fun y H5 => N (ys ++ [y]) H5 else N ys H4)
def tComp (own : List Str) (F : List (Str × Nat)) (wi : TI) (g : TG) (tt : TT) (te : TE) : TE := fun σ H Q => wi σ H fun J H1 => CompBody own F g tt te σ Q J H1
section
variable {X : Cx} {scope : Scope} {own : List Str} {F : List (Str × Nat)} {elt tg iter : Expr} {ifs : List Expr} {pos : Pos} {wi : TI} {g : TG} {tt : TT} {te : TE}
abbrev pushed (s : Shared) : Shared := { s with heap := s.heap.push { cls := .type "list", data := .seq ([] : List Value).toArray } }
theorem comp_run {pins : List (Addr × Obj)} {σ : St} {H : Hp} {s : Shared} {Q : VK} {RR : Addr → Result → Shared → Prop} {it : Addr} {fp : List Addr} {tn : Nat → Heap → Prop} {J : It} (S : CompSc X scope own F) (hc : X.calm = true)
    (hg : ∀ C s₃ H₃ ex, PG (compCx X own F scope C s₃ H₃ ex) tg g) (ht : ∀ C s₃ H₃ ex, PTs (compCx X own F scope C s₃ H₃ ex) ifs tt) (he : ∀ C s₃ H₃ ex, PE (compCx X own F scope C s₃ H₃ ex) elt te)
    (I : Inv X pins σ H s) (T : Turn X.prog X.w X.K tg J fp it tn) (st : tn 0 s.heap) (hf : ∀ b ∈ fp, FpOk X pins H b)
    (h : CompBody own F g tt te σ Q J H)
    (hR : ∀ C s4 H4, s.heap.objs.size ≤ C → C ≠ s.heap.objs.size → Inv X pins σ H4 s4 → Q (.ref s.heap.objs.size) H4 → H4 C = none → (∃ m, s4.heap.Ns C m) → RR C (.ok .next) s4) :
    wpAny (model X.prog X.w) X.A (newList []) (fun acc s₃ => wpAny (model X.prog X.w) X.A (newFunctionEnv scope X.env.globals (clo X.env scope.names) [] X.env.qual none .none (some X.env)) (fun cenv s₄ =>
      codeAny (model X.prog X.w) X.A (.compStart (.ListComp elt [⟨tg, iter, ifs, 0⟩] scope pos) 0 (.ref it) acc { cenv with scope := relabel scope X.env }) (fun r s' => acc = .ref s.heap.objs.size ∧ RR cenv.locals r s') s₄) X.xe s₃) X.xe s := by
  obtain ⟨W, ⟨m0, w0⟩, turn⟩ := h
  have hlt : ∀ b ∈ fp, b < s.heap.objs.size := fun b hb => by
    obtain ⟨o, e, _⟩ := T.obj _ _ st b hb
    exact Heap.lt_size e
  refine wpAny_newObj_type (wpAny_newFunctionEnv S.nc (by intro y hy; simp at hy) (fun h₁ hns₁ hsb₁ => ?_) S.kind)
  dsimp only at hns₁ hsb₁ ⊢
  have e3' : pushed s = { s with heap := s.heap.push { cls := .type "list", data := .seq ([] : List Value).toArray } } := rfl
  have sz3 : (pushed s).heap.objs.size = s.heap.objs.size + 1 := Heap.size_push ..
  have k3 : ∀ b o, (pushed s).heap.get? b = some o → h₁.get? b = some o := fun b o e => hsb₁.extBut b o (Nat.ne_of_lt (Heap.lt_size e)) (Heap.get?_push_of_some _ e)
  have k2 : ∀ b o, s.heap.get? b = some o → (pushed s).heap.get? b = some o := fun b o e => Heap.get?_push_of_some _ e
  have hns : h₁.Ns (pushed s).heap.objs.size (fun _ => none) := by simpa using hns₁
  have I0 : Inv (compCx X own F scope (pushed s).heap.objs.size (pushed s) H (s.heap.objs.size :: fp)) [] (compσ own F σ) H { pushed s with heap := h₁, toks := (pushed s).toks + ([] : List (Str × Value)).length } := comp_start I S hf hlt e3' hns k3
  have acc0 : h₁.get? s.heap.objs.size = some { cls := .type "list", data := .seq ([] : List Value).toArray 0 } := k3 _ _ (Heap.get?_push_size _ rfl)
  have ht0 : tn 0 h₁ := T.keep _ _ _ st fun b _ o e => k3 b o (k2 b o e)
  have loop : codeAny (model X.prog X.w) X.A (.compLoop (.ListComp elt [⟨tg, iter, ifs, 0⟩] scope pos) 0 (.ref it) (.ref s.heap.objs.size) (compEnvC scope (clo X.env scope.names) (pushed s).heap.objs.size X.env)) (RR (pushed s).heap.objs.size) { pushed s with heap := h₁, toks := (pushed s).toks + ([] : List (Str × Value)).length } := by
    refine compLoop_go (fun n s' => ∃ i ys H' its k, Inv (compCx X own F scope (pushed s).heap.objs.size (pushed s) H (s.heap.objs.size :: fp)) [] (compσ own F σ) H' s' ∧ tn i s'.heap ∧ (∀ b ∈ fp, H' b = none) ∧ H' s.heap.objs.size = none ∧
      Vals ys its ∧ s'.heap.get? s.heap.objs.size = some { cls := .type "list", data := .seq its.toArray k } ∧ ys.length ≤ i ∧ W i n ys H') ?_ m0 ⟨0, [], H, [], 0, I0, ht0, fun b hb => (hf b hb).1, I.hok.fresh (Nat.le_refl _), .nil, acc0, Nat.le_refl _, w0⟩
    rintro n s5 ⟨i, ys, H5, its, k, I5, t5, fr5, ha5, v5, o5, l5, w5⟩
    have pn5 : Inv (compCx X own F scope (pushed s).heap.objs.size (pushed s) H (s.heap.objs.size :: fp)) [(s.heap.objs.size, { cls := .type "list", data := .seq its.toArray k })] (compσ own F σ) H5 s5 := I5.pins_of fun p hp => by
      have z : p = (s.heap.objs.size, { cls := .type "list", data := .seq its.toArray k }) := by simpa using hp
      subst z
      obtain ⟨x1, x2⟩ := I0.ok.exf s.heap.objs.size List.mem_cons_self
      exact ⟨o5, ha5, x1, I0.ok.exfs _ List.mem_cons_self, fun v z => by cases z⟩
    have fp5 : ∀ {H' : Hp}, (∀ b ∈ fp, H' b = none) → ∀ b ∈ fp, FpOk (compCx X own F scope (pushed s).heap.objs.size (pushed s) H (s.heap.objs.size :: fp)) [(s.heap.objs.size, { cls := .type "list", data := .seq its.toArray k })] H' b := fun {H'} hn b hb => by
      obtain ⟨x1, x2⟩ := I0.ok.exf b (List.mem_cons_of_mem _ hb)
      refine ⟨hn b hb, x1, I0.ok.exfs b (List.mem_cons_of_mem _ hb), .inl (List.mem_cons_of_mem _ hb), x2, fun p hp => ?_⟩
      have z : p = (s.heap.objs.size, { cls := .type "list", data := .seq its.toArray k }) := by
        have hp' : p ∈ ([] : List (Addr × Obj)) ++ [(s.heap.objs.size, { cls := .type "list", data := .seq its.toArray k })] := hp
        simpa using hp'
      subst z
      exact Nat.ne_of_gt (hlt b hb)
    rcases turn i n ys H5 w5 l5 with ⟨stop, hz, q⟩ | ⟨go, hz, N, hN, step⟩
    · refine thn (T.done (compCx X own F scope (pushed s).heap.objs.size (pushed s) H (s.heap.objs.size :: fp)) rfl rfl rfl hc i _ s5 _ H5 (fun _ _ => False) pn5 (fp5 fr5) t5 stop) fun r s6 ⟨hr, I6⟩ => ?_
      subst hr
      obtain ⟨a6, b6, _⟩ := I6.pin (s.heap.objs.size, { cls := .type "list", data := .seq its.toArray k }) (List.mem_append_right _ (List.mem_singleton.mpr rfl))
      have J6 := I6.pins_of (pins' := []) (fun p hp => nomatch hp)
      have I7 := comp_back I hf e3' J6 (Nat.le_trans l5 hz) v5 a6 b6
      have hC : H5 (pushed s).heap.objs.size = none := J6.free
      refine hR _ s6 _ (show s.heap.objs.size ≤ (pushed s).heap.objs.size by omega) (fun z => by have z' : (pushed s).heap.objs.size = s.heap.objs.size := z; omega) I7 (q _ b6) (by rw [upd_ne (fun z => by have z' : (pushed s).heap.objs.size = s.heap.objs.size := z; omega)]; exact hC) ?_
      obtain ⟨m, hn, _⟩ := J6.loc
      exact ⟨m, hn⟩
    · refine thn (T.item (compCx X own F scope (pushed s).heap.objs.size (pushed s) H (s.heap.objs.size :: fp)) rfl rfl rfl hc i _ s5 _ H5 (fun _ _ => False) pn5 (fp5 fr5) t5 go) fun r s6 ⟨u, hr, h6⟩ => ?_
      subst hr
      refine thn h6 fun _ s7 ⟨x, H7, I7, r7, y7, t7, fr7⟩ => ?_
      have J7 := I7.pinned (fp5 fr7) (T.obj _ _ t7)
      refine thn (hg _ _ _ _ _ s7 _ H7 x u _ J7 r7 (step x H7 y7)) fun _ s8 ⟨σ8, H8, I8, wk, q8⟩ => ?_
      refine thn (ht _ _ _ _ _ s8 σ8 H8 _ I8 q8) fun ok s9 ⟨H9, I9, q9⟩ => ?_
      have keep : ∀ {σ' : St} {H' : Hp} {s' : Shared}, Inv (compCx X own F scope (pushed s).heap.objs.size (pushed s) H (s.heap.objs.size :: fp)) ([(s.heap.objs.size, { cls := .type "list", data := .seq its.toArray k })] ++ pinsAt fp s7.heap) σ' H' s' →
          tn (i + 1) s'.heap ∧ (∀ b ∈ fp, H' b = none) ∧ H' s.heap.objs.size = none ∧ s'.heap.get? s.heap.objs.size = some { cls := .type "list", data := .seq its.toArray k } := fun {σ' H' s'} J => by
        have pa := J.pin (s.heap.objs.size, { cls := .type "list", data := .seq its.toArray k }) (List.mem_append_right _ (List.mem_append_left _ (List.mem_singleton.mpr rfl)))
        refine ⟨T.keep _ _ _ t7 fun b hb o e => (J.pin (b, o) (List.mem_append_right _ (List.mem_append_right _ (mem_pinsAt hb e)))).1, fun b hb => ?_, pa.2.1, pa.1⟩
        obtain ⟨o, e, d⟩ := T.obj _ _ t7 b hb
        exact (J.pin (b, o) (List.mem_append_right _ (List.mem_append_right _ (mem_pinsAt hb e)))).2.1
      cases ok with
      | false =>
        rw [if_neg Bool.false_ne_true] at q9 ⊢
        obtain ⟨m', hm, w9⟩ := hN _ _ q9
        obtain ⟨a1, a2, a3, a4⟩ := keep I9
        exact ⟨m', hm, i + 1, ys, H9, its, k, (I9.pins_of (pins' := []) (fun p hp => nomatch hp)).weak wk.1 wk.2, a1, a2, a3, v5, a4, Nat.le_succ_of_le l5, w9⟩
      | true =>
        rw [if_pos rfl] at q9 ⊢
        refine thn (he _ _ _ _ _ s9 σ8 H9 _ I9 q9) fun u' s10 ⟨y, H10, I10, r10, q10⟩ => ?_
        obtain ⟨m', hm, w10⟩ := hN _ _ q10
        obtain ⟨a1, a2, a3, a4⟩ := keep I10
        have hl := v5.length
        refine call_meets PySem.F.slot_list_append ⟨_, a4, rfl⟩ PySem.F.entry_list_append (PySem.F.args_list_append_2 _ _) (PySem.list_append s.heap.objs.size its.toArray k u' (by rw [List.size_toArray]; omega)) ⟨a4, ?_⟩
        have q := PySem.IsL.update a4 (fun xs : Array Value => xs.push u')
        have eq : its.toArray.push u' = (its ++ [u']).toArray := by simp
        rw [eq] at q
        obtain ⟨x1, x2⟩ := I0.ok.exf s.heap.objs.size List.mem_cons_self
        have I11 := (I10.pins_of (pins' := []) (fun p hp => nomatch hp)).turned (it := s.heap.objs.size) (t' := s10.toks) (h' := s10.heap.update s.heap.objs.size (Obj.mapSeq (fun xs : Array Value => xs.push u'))) (fun b o hb e => (Heap.get?_update_other s10.heap _ (Ne.symm hb)).trans e) a3 x1 (.inl List.mem_cons_self) x2 (fun p hp => absurd (show p ∈ ([] : List (Addr × Obj)) from hp) (by simp))
        refine ⟨m', hm, i + 1, ys ++ [y], H10, its ++ [u'], _, I11.weak wk.1 wk.2, ?_, a2, a3, v5.append (.cons r10 .nil), q, by rw [List.length_append, List.length_singleton]; omega, w10⟩
        exact T.keep _ _ _ a1 fun b hb o e => (Heap.get?_update_other s10.heap _ (Nat.ne_of_gt (hlt b hb))).trans e
  have loop' := codeAny_mono loop (R' := fun r s' => Value.ref s.heap.objs.size = .ref s.heap.objs.size ∧ RR (pushed s).heap.objs.size r s') fun r s' z => ⟨rfl, z⟩
  exact codeAny_compStart_list loop' (T.self X.A 0 _ _ _ ht0 loop')
theorem pe_comp (S : CompSc X scope own F) (hc : X.calm = true) (hi : PI X tg iter wi)
    (hg : ∀ C s₃ H₃ ex, PG (compCx X own F scope C s₃ H₃ ex) tg g) (ht : ∀ C s₃ H₃ ex, PTs (compCx X own F scope C s₃ H₃ ex) ifs tt) (he : ∀ C s₃ H₃ ex, PE (compCx X own F scope C s₃ H₃ ex) elt te)
    (hs : ∀ x, foldedSetIterable iter X.env x = pure x := by intro _; rfl) : PE X (.ListComp elt [⟨tg, iter, ifs, 0⟩] scope pos) (tComp own F wi g tt te) := by
  intro pins s σ H Q I h
  rw [eval_ListComp]
  refine wpAny_comprehension_free (use := none) rfl hs (closureFor_clo (I.freeCells S)) S.kind S.lc ?_
  refine thn (hi pins s σ H _ I h) fun v s1 h1 => thn h1 fun itv s2 ⟨it, fp, tn, J, H2, e, I2, T, st2, f2, q2⟩ => ?_
  subst e
  refine thn (comp_run (Q := Q) (RR := fun C r s' => compPost (model X.prog X.w) X.A X.xe none (EP X pins σ Q) (.ref s2.heap.objs.size) C r s') S hc hg ht he I2 T st2 f2 q2 fun C s4 H4 c1 c2 I4 q4 n4 hm => ?_) fun acc s3 h3 => thn h3 fun cenv s4 h4 => codeAny_mono h4 fun r s' ⟨ea, hr⟩ => ?_
  · obtain ⟨m, hn⟩ := hm
    exact ⟨m, hn, fun h' hs' => ⟨.ref s2.heap.objs.size, H4, comp_letgo I2 c1 I4 n4 hs', rfl, q4⟩⟩
  · rw [ea]; exact hr
theorem ps_comp {i : Nat} {x : Str} {pos' spos : Pos} (hN : X.N.Nodup) (hi' : X.N[i]? = some x) (hx : Loc X.env.scope x) (S : CompSc X scope own F) (hc : X.calm = true) (hi : PI X tg iter wi)
    (hg : ∀ C s₃ H₃ ex, PG (compCx X own F scope C s₃ H₃ ex) tg g) (ht : ∀ C s₃ H₃ ex, PTs (compCx X own F scope C s₃ H₃ ex) ifs tt) (he : ∀ C s₃ H₃ ex, PE (compCx X own F scope C s₃ H₃ ex) elt te)
    (hsw : swapsWith (.ListComp elt [⟨tg, iter, ifs, 0⟩] scope pos) (some (.Name x pos')) spos.line X.env = pure true := by rfl)
    (hs : ∀ x, foldedSetIterable iter X.env x = pure x := by intro _; rfl) (hf : X.fn x = true ∨ X.env.scope.names.lookup x = some .local := by first | exact .inl rfl | exact .inr rfl | assumption) :
    PS X (.Assign [.Name x pos'] (.ListComp elt [⟨tg, iter, ifs, 0⟩] scope pos) spos) (tAsg (tComp own F wi g tt te) (gName i)) := by
  intro pins s σ H D I h
  rw [exec_Assign_Name_used x pos' _ _ hsw]
  refine wpAny_bind (wpAny_standAt (wpAny_bind ?_))
  refine wpAny_bind ?_
  refine wpAny_mono (Q := fun _ s' => SP X pins D .next s') ?_ (fun _ s' q => wpAny_pure (wpAny_pure q)) fun _ _ z => z
  refine wpAny_comprehension_free (use := some (assign (.Name x pos') X.env)) rfl hs (closureFor_clo (I.freeCells S)) S.kind S.lc ?_
  refine thn (hi pins s σ H _ I h) fun v s1 h1 => thn h1 fun itv s2 ⟨it, fp, tn, J, H2, e, I2, T, st2, f2, q2⟩ => ?_
  subst e
  refine thn (comp_run (Q := fun x H1 => gName i x σ H1 D.nx) (RR := fun C r s' => compPost (model X.prog X.w) X.A X.xe (some (assign (.Name x pos') X.env)) (fun _ s' => SP X pins D .next s') (.ref s2.heap.objs.size) C r s') S hc hg ht he I2 T st2 f2 q2 fun C s4 H4 c1 c2 I4 q4 n4 hm => ?_) fun acc s3 h3 => thn h3 fun cenv s4 h4 => codeAny_mono h4 fun r s' ⟨ea, hr⟩ => ?_
  · obtain ⟨m, hn⟩ := hm
    refine wpAny_assign_Name (store_ok2 I4 hN hi' hx (v := .ref s2.heap.objs.size) rfl (fun s5 I5 ⟨a, sb, ha⟩ => ?_) hf)
    have aC : a ≠ C := by
      rcases ha with z | z
      · rw [z]; exact Nat.ne_of_lt (Nat.lt_of_lt_of_le I2.lt c1)
      · obtain ⟨v, u⟩ := I2.cell _ _ z
        exact Nat.ne_of_lt (Nat.lt_of_lt_of_le u.lt c1)
    exact ⟨m, hn.sameBut sb (Ne.symm aC), fun h' hs' => ⟨_, H4, comp_letgo I2 c1 I5 n4 hs', q4⟩⟩
  · rw [ea]; exact hr
end
end L2
namespace L2
open PySem PySem.Spec PyProof.Rows
inductive T where
  | non | bl (b : Bool) | int (i : Int) | str (x : List Nat) | lst (ts : List T) | dic (ks : List (List Nat)) (ts : List T) | tup (ts : List T)
mutual
def Rep (H : Hp) : V → T → Prop
  | v, .non => v = .non
  | v, .bl b => v = .bl b
  | v, .int i => v = .int i
  | v, .str x => v = .str (tx x)
  | v, .lst ts => ∃ a vs, v = .ref a ∧ H a = some (.lst vs) ∧ Reps H vs ts
  | v, .dic ks ts => ∃ a ps, v = .ref a ∧ H a = some (.dK ps) ∧ ps.map (·.1) = ks.map (fun k => (Sum.inr (tx k) : Key)) ∧ Reps H (ps.map (·.2)) ts
  | v, .tup ts => ∃ a vs, v = .ref a ∧ H a = some (.tup vs) ∧ Reps H vs ts
def Reps (H : Hp) : List V → List T → Prop
  | vs, [] => vs = []
  | vs, t :: ts => ∃ v r, vs = v :: r ∧ Rep H v t ∧ Reps H r ts
end
mutual
theorem Rep.same {H H' : Hp} (e : Same H H') : ∀ (v : V) (t : T), Rep H v t → Rep H' v t
  | _, .non, h => h
  | _, .bl _, h => h
  | _, .int _, h => h
  | _, .str _, h => h
  | _, .lst ts, ⟨a, vs, h1, h2, h3⟩ => ⟨a, vs, h1, e _ _ h2, Reps.same e vs ts h3⟩
  | _, .dic ks ts, ⟨a, ps, h1, h2, h3, h4⟩ => ⟨a, ps, h1, e _ _ h2, h3, Reps.same e _ ts h4⟩
  | _, .tup ts, ⟨a, vs, h1, h2, h3⟩ => ⟨a, vs, h1, e _ _ h2, Reps.same e vs ts h3⟩
theorem Reps.same {H H' : Hp} (e : Same H H') : ∀ (vs : List V) (ts : List T), Reps H vs ts → Reps H' vs ts
  | _, [], h => h
  | _, t :: ts, ⟨v, r, h1, h2, h3⟩ => ⟨v, r, h1, Rep.same e v t h2, Reps.same e r ts h3⟩
end
theorem Reps.snoc {H : Hp} {v : V} {t : T} (h : Rep H v t) : ∀ {vs : List V} {ts : List T}, Reps H vs ts → Reps H (vs ++ [v]) (ts ++ [t])
  | _, [], e => by
    have e' : _ = [] := e
    subst e'
    exact ⟨v, [], rfl, h, rfl⟩
  | _, t' :: ts, ⟨v', r, h1, h2, h3⟩ => by
    subst h1
    exact ⟨v', r ++ [v], rfl, h2, Reps.snoc h h3⟩
theorem Reps.length {H : Hp} : ∀ {vs : List V} {ts : List T}, Reps H vs ts → vs.length = ts.length
  | _, [], e => by
    have e' : _ = [] := e
    subst e'; rfl
  | _, t' :: ts, ⟨v', r, h1, h2, h3⟩ => by
    subst h1
    simp [Reps.length h3]
theorem Reps.get {H : Hp} : ∀ {vs : List V} {ts : List T} {i : Nat} {v : V}, Reps H vs ts → vs[i]? = some v → ∃ t, ts[i]? = some t ∧ Rep H v t
  | _, [], i, v, e, h => by
    have e' : _ = [] := e
    subst e'; simp at h
  | _, t' :: ts, 0, v, ⟨v', r, h1, h2, h3⟩, h => by
    subst h1
    simp at h; subst h
    exact ⟨t', rfl, h2⟩
  | _, t' :: ts, i + 1, v, ⟨v', r, h1, h2, h3⟩, h => by
    subst h1
    obtain ⟨t, e, q⟩ := Reps.get (i := i) (v := v) h3 (by simpa using h)
    exact ⟨t, by simpa using e, q⟩
def tyT : T → String
  | .non => "NoneType"
  | .bl _ => "bool"
  | .int _ => "int"
  | .str _ => "str"
  | .lst _ => "list"
  | .dic _ _ => "dict"
  | .tup _ => "tuple"
theorem Rep.ty {H : Hp} {v : V} : ∀ {t : T}, Rep H v t → tyS H v = some (tyT t)
  | .non, h => by cases (show v = .non from h); rfl
  | .bl b, h => by cases (show v = .bl b from h); rfl
  | .int i, h => by cases (show v = .int i from h); rfl
  | .str x, h => by cases (show v = .str (tx x) from h); rfl
  | .lst ts, h => by obtain ⟨a, vs, e, h2, _⟩ := h; subst e; show (match H a with | some (.lst _) => some "list" | some (.tup _) => some "tuple" | some (.dK _) => some "dict" | _ => none) = _; rw [h2]; rfl
  | .dic ks ts, h => by obtain ⟨a, vs, e, h2, _⟩ := h; subst e; show (match H a with | some (.lst _) => some "list" | some (.tup _) => some "tuple" | some (.dK _) => some "dict" | _ => none) = _; rw [h2]; rfl
  | .tup ts, h => by obtain ⟨a, vs, e, h2, _⟩ := h; subst e; show (match H a with | some (.lst _) => some "list" | some (.tup _) => some "tuple" | some (.dK _) => some "dict" | _ => none) = _; rw [h2]; rfl
def letL : List Nat := (List.range 26).map (· + 97)
def figL : List Nat := (List.range 10).map (· + 48)
def sgnL : List Nat := ((List.range 95).map (· + 32)).filter (· != 37)
def okName (w : List Nat) : Bool := decide (1 ≤ w.length) && decide (w.length ≤ 12) && (match w with | [] => false | c :: _ => decide (c ∈ letL)) && w.all (fun c => decide (c ∈ letL ++ figL))
def okText (w : List Nat) : Bool := decide (w.length ≤ 30) && w.all (fun c => decide (c ∈ sgnL))
mutual
def Nice : Nat → T → Prop
  | _, .non => True
  | _, .bl _ => True
  | _, .int i => -(10 ^ 12) ≤ i ∧ i ≤ 10 ^ 12
  | _, .str x => okText x = true
  | d, .lst ts => 1 ≤ d ∧ ts.length ≤ 4 ∧ NiceL (d - 1) ts
  | d, .dic ks ts => 1 ≤ d ∧ ts.length ≤ 4 ∧ ks.length = ts.length ∧ ks.Nodup ∧ (∀ k ∈ ks, okName k = true) ∧ NiceL (d - 1) ts
  | _, .tup _ => False
def NiceL : Nat → List T → Prop
  | _, [] => True
  | d, t :: ts => Nice d t ∧ NiceL d ts
end
theorem NiceL.snoc {d : Nat} {t : T} (h : Nice d t) : ∀ {ts : List T}, NiceL d ts → NiceL d (ts ++ [t])
  | [], _ => ⟨h, trivial⟩
  | _ :: ts, ⟨a, b⟩ => ⟨a, NiceL.snoc h b⟩
end L2
namespace L2
open PySem PySem.Spec PyProof.Rows
theorem same_new {H : Hp} {p : Addr} (h : H p = none) (o : HO) : Same H (upd H p o) := fun b u q => by rw [upd_ne (ne_of_none q h)]; exact q
section
variable {K : PySem.W.Frag} {H : Hp} {Q : VK} {a b : Addr} {xs ys : List V}
theorem rEqL_i {neg : Bool} (h1 : SqL K H a xs) (h2 : SqL K H b ys) (f1 : xs.all flatV = true) (f2 : ys.all flatV = true) (q : Q (.bl (if neg then !eqLs xs ys else eqLs xs ys)) H) : rEqL K neg (.ref a) (.ref b) H Q :=
  ⟨a, b, xs, ys, rfl, rfl, h1, h2, f1, f2, q⟩
theorem rIxL_i {i : Int} {v : V} (h1 : SqL K H a xs) (h2 : atI xs i = some v) (q : Q v H) : rIxL K (.ref a) (.int i) H Q := ⟨a, xs, i, v, rfl, rfl, h1, h2, q⟩
theorem rIxS_i {z : Str} {i : Int} {c : Nat} (h1 : z.length ≤ sizeLine) (h2 : atI (ts z) i = some c) (q : Q (.str (tx [c])) H) : rIxS (.str z) (.int i) H Q := ⟨z, i, c, rfl, rfl, h1, h2, q⟩
end
theorem atI_of {α : Type} {xs : List α} {i : Int} (h0 : 0 ≤ i) (h1 : i < xs.length) : ∃ v, atI xs i = some v ∧ v ∈ xs := by
  obtain ⟨j, rfl⟩ := Int.eq_ofNat_of_zero_le h0
  have hj : j < xs.length := by omega
  exact ⟨xs[j], atI_nat (by simp [hj]), List.getElem_mem hj⟩
theorem atI_getD {α : Type} {xs : List α} {i : Int} {d : α} (h0 : 0 ≤ i) (h1 : i < xs.length) : atI xs i = some (xs.getD i.toNat d) := by
  obtain ⟨j, rfl⟩ := Int.eq_ofNat_of_zero_le h0
  have hj : j < xs.length := by omega
  refine atI_nat ?_
  simp [List.getD, hj]
theorem comp_by {x : Str} {F : List (Str × Nat)} {J : It} {n : Nat} {tt : TT} {te : TE} {σ : St} {Q : VK} {H1 : Hp} (Pv : Nat → List V → Hp → Prop) (hn : n ≤ sizeLine) (h0 : Pv 0 [] H1) (hgo : ∀ i ys H, i < n → Pv i ys H → J.go i H)
    (hst : ∀ ys H, Pv n ys H → J.stop n H)
    (hs : ∀ i ys H y H2, i < n → ys.length ≤ i → Pv i ys H → J.yld i H y H2 → tt (some y :: F.map (fun p => (σ[p.2]?).join)) H2 fun b H3 => if b = true then te (some y :: F.map (fun p => (σ[p.2]?).join)) H3 fun z H4 => Pv (i + 1) (ys ++ [z]) H4 else Pv (i + 1) ys H3)
    (hd : ∀ ys H, ys.length ≤ n → Pv n ys H → ∀ p, H p = none → Q (.ref p) (upd H p (.lst ys))) : CompBody [x] F (gName 0) tt te σ Q J H1 := by
  refine ⟨fun i m ys H => m = n - i ∧ i ≤ n ∧ Pv i ys H, ⟨n, by simp, Nat.zero_le _, h0⟩, ?_⟩
  rintro i m ys H ⟨rfl, hi, p⟩ hl
  by_cases hlt : i < n
  · refine .inr ⟨hgo i ys H hlt p, by omega, Pv (i + 1), fun ys' H'' q => ⟨n - (i + 1), by omega, rfl, hlt, q⟩, fun y H2 hy => ?_⟩
    exact ⟨weak_set (i := 0) rfl, hs i ys H y H2 hlt hl p hy⟩
  · have e : i = n := by omega
    subst e
    exact .inl ⟨hst ys H p, hn, hd ys H hl p⟩
theorem comp_rng {x : Str} {F : List (Str × Nat)} {lo : Int} {n : Nat} {te : TE} {σ : St} {Q : VK} {H1 : Hp} (Pv : Nat → List V → Hp → Prop) (hn : n ≤ sizeLine) (h0 : Pv 0 [] H1)
    (hs : ∀ (i : Nat) ys H, i < n → ys.length ≤ i → Pv i ys H → te (some (.int (lo + i)) :: F.map (fun p => (σ[p.2]?).join)) H fun z H4 => Pv (i + 1) (ys ++ [z]) H4)
    (hd : ∀ ys H, ys.length ≤ n → Pv n ys H → ∀ p, H p = none → Q (.ref p) (upd H p (.lst ys))) : CompBody [x] F (gName 0) tTrue te σ Q (Itr lo n) H1 :=
  comp_by Pv hn h0 (fun i _ _ h _ => h) (fun _ _ _ => Nat.le_refl _) (fun i ys H y H2 h1 h2 h3 h4 => by
    obtain ⟨rfl, rfl⟩ := h4
    exact hs i ys _ h1 h2 h3) hd
theorem comp_str {x : Str} {F : List (Str × Nat)} {w : Str} {tt : TT} {te : TE} {σ : St} {Q : VK} {H1 : Hp} (Pv : Nat → List V → Hp → Prop) (hn : (ts w).length ≤ sizeLine) (h0 : Pv 0 [] H1)
    (hs : ∀ i c ys H, (ts w)[i]? = some c → ys.length ≤ i → Pv i ys H → tt (some (.str (tx [c])) :: F.map (fun p => (σ[p.2]?).join)) H fun b H3 => if b = true then te (some (.str (tx [c])) :: F.map (fun p => (σ[p.2]?).join)) H3 fun z H4 => Pv (i + 1) (ys ++ [z]) H4 else Pv (i + 1) ys H3)
    (hd : ∀ ys H, ys.length ≤ (ts w).length → Pv (ts w).length ys H → ∀ p, H p = none → Q (.ref p) (upd H p (.lst ys))) : CompBody [x] F (gName 0) tt te σ Q (Its w) H1 :=
  comp_by Pv hn h0 (fun i _ _ h _ => h) (fun _ _ _ => Nat.le_refl _) (fun i ys H y H2 h1 h2 h3 h4 => by
    obtain ⟨rfl, c, hc, rfl⟩ := h4
    exact hs i c ys _ hc h2 h3) hd
end L2
namespace L2
open PySem PySem.Spec PyProof.Rows
section
variable {X : Cx} {x : Str} {pos : Pos}
theorem pe_gs {z : Str} (hg : Gl X x) (h : ∃ t, X.mg x = some (.str z t)) (hd : (x == ("__debug__" : Str)) = false := by decide) : PE X (.Name x pos) (tC (.str z)) := by
  obtain ⟨t, h⟩ := h
  exact pe_glob hg h ⟨t, rfl⟩ hd
theorem pe_gi {z : Int} (hg : Gl X x) (h : ∃ t, X.mg x = some (.int z t)) (hd : (x == ("__debug__" : Str)) = false := by decide) : PE X (.Name x pos) (tC (.int z)) := by
  obtain ⟨t, h⟩ := h
  exact pe_glob hg h ⟨t, rfl⟩ hd
end
end L2
namespace L2
open PySem PySem.Spec PyProof.Rows
theorem cxOf_K {CX : CXT} {P : Program} {w : World} {K : PySem.W.Frag} {mg : Str → Option Value} {base : Heap} {N : List Str} {qual : Str} {scope : Scope} {f : Addr} {cd : Value} {A : Around} {outer : List Env} {s : Shared} {H : Hp} {E : XK} : (cxOf CX P w K mg base N qual scope f cd A outer s H E).K = K := rfl
theorem nox_K {X : Cx} : X.nox.K = X.K := rfl
theorem compCx_K {X : Cx} {own : List Str} {F : List (Str × Nat)} {scope : Scope} {C : Addr} {s₃ : Shared} {H₃ : Hp} {ex : List Addr} : (compCx X own F scope C s₃ H₃ ex).K = X.K := rfl
theorem flat_ints (ns : List Int) : (ns.map V.int).all flatV = true := by
  rw [List.all_map]; exact List.all_eq_true.mpr fun _ _ => rfl
theorem eqLs_nil (xs : List V) : eqLs xs [] = xs.isEmpty := by cases xs <;> rfl
end L2
namespace L2
theorem natAbs10 : Int.natAbs 10 = 10 := rfl
end L2
namespace L2
open PySem PySem.Spec PyProof.Rows
def ForB (g : TG) (tb : TS) (D : Ends) (σ : St) (J : It) (H1 : Hp) : Prop := ∃ W : Nat → Nat → St → Hp → Prop, (∃ m, W 0 m σ H1) ∧ ∀ i m σ H, W i m σ H →
  (J.stop i H ∧ D.nx σ H) ∨ (J.go i H ∧ ∃ N : St → Hp → Prop, (∀ σ' H', N σ' H' → ∃ m', m' < m ∧ W (i + 1) m' σ' H') ∧ ∀ x H', J.yld i H x H' → g x σ H' fun σ2 H2 => tb { D with nx := N, ct := N, bk := D.nx } σ2 H2)
theorem tFor_eq (wi : TI) (g : TG) (tb : TS) (D : Ends) (σ : St) (H : Hp) : tFor wi g tb D σ H = wi σ H fun J H1 => ForB g tb D σ J H1 := rfl
theorem forB_rng {lo : Int} {n : Nat} {g : TG} {tb : TS} {D : Ends} {σ : St} {H : Hp} (Pv : Nat → St → Hp → Prop) (h0 : Pv 0 σ H)
    (hs : ∀ i σ H, i < n → Pv i σ H → g (.int (lo + i)) σ H fun σ2 H2 => tb { D with nx := Pv (i + 1), ct := Pv (i + 1), bk := D.nx } σ2 H2) (hd : ∀ σ H, Pv n σ H → D.nx σ H) : ForB g tb D σ (Itr lo n) H := for_range Pv h0 hs hd
theorem forB_list {K : PySem.W.Frag} {a : Addr} {xs : List V} {g : TG} {tb : TS} {D : Ends} {σ : St} {H : Hp} (Pv : Nat → St → Hp → Prop) (h0 : Pv 0 σ H) (hl : ∀ i σ H, i ≤ xs.length → Pv i σ H → SqL K H a xs)
    (hs : ∀ i x σ H, xs[i]? = some x → Pv i σ H → g x σ H fun σ2 H2 => tb { D with nx := Pv (i + 1), ct := Pv (i + 1), bk := D.nx } σ2 H2) (hd : ∀ σ H, Pv xs.length σ H → D.nx σ H) : ForB g tb D σ (Itl K a) H := for_list Pv h0 hl hs hd
section
variable {X : Cx}
theorem call_intB : CallR X (.type "int") (fun xs H Q => ∃ k, xs = [.bl k] ∧ Q (.int (if k then 1 else 0)) H) := fun pins s σ H xs us Q I r h => call_int1 pins s σ H xs us Q I r (.inr h)
theorem call_len_l : CallR X (.builtin "len") (fun xs H Q => ∃ p, xs = [.ref p] ∧ ∃ ys, SqL X.K H p ys ∧ Q (.int ys.length) H) := fun pins s σ H xs us Q I r ⟨p, e, ys, h, q⟩ => call_len_seq pins s σ H xs us Q I r ⟨p, ys, e, .inl h, q⟩
end
abbrev nK (k : List Nat) : Key := Sum.inr (tx k)
theorem nK_inj {a b : List Nat} (h : nK a = nK b) : a = b := by
  have e : tx a = tx b := Sum.inr.inj h
  rw [← ts_tx a, e, ts_tx]
theorem Reps.repl {H : Hp} {k : Key} {v : V} {t : T} (hv : Rep H v t) : ∀ {ps : List (Key × V)} {ts : List T}, Reps H (ps.map (·.2)) ts → ∃ ts', Reps H ((ps.map fun kv => if kv.1 = k then (kv.1, v) else kv).map (·.2)) ts' ∧ ts'.length = ts.length ∧ ∀ u ∈ ts', u ∈ ts ∨ u = t
  | [], ts, h => ⟨ts, h, rfl, fun u hu => .inl hu⟩
  | p :: ps, [], h => by
    have h' : (p :: ps).map (·.2) = [] := h
    cases h'
  | p :: ps, u :: ts, ⟨v', r, e, h1, h2⟩ => by
    have e' : p.2 :: ps.map (·.2) = v' :: r := e
    injection e' with e1 e2
    subst e1 e2
    obtain ⟨ts', r', l', m'⟩ := Reps.repl hv h2
    by_cases hk : p.1 = k
    · refine ⟨t :: ts', ⟨v, _, ?_, hv, r'⟩, by simp [l'], fun z hz => ?_⟩
      · rw [List.map_cons, if_pos hk, List.map_cons]
      · rcases List.mem_cons.mp hz with q | q
        · exact .inr q
        · exact (m' z q).imp (List.mem_cons_of_mem _) id
    · refine ⟨u :: ts', ⟨p.2, _, ?_, h1, r'⟩, by simp [l'], fun z hz => ?_⟩
      · rw [List.map_cons, if_neg hk, List.map_cons]
      · rcases List.mem_cons.mp hz with q | q
        · exact .inl (by rw [q]; exact List.mem_cons_self)
        · exact (m' z q).imp (List.mem_cons_of_mem _) id
theorem put_rep {H : Hp} {ps : List (Key × V)} {ks : List (List Nat)} {ts : List T} {n : List Nat} {v : V} {t : T} (hk : ps.map (·.1) = ks.map nK) (hR : Reps H (ps.map (·.2)) ts) (nd : ks.Nodup) (hv : Rep H v t) :
    ∃ (ks' : List (List Nat)) (ts' : List T), (putK ps (nK n) v).map (·.1) = ks'.map nK ∧ Reps H ((putK ps (nK n) v).map (·.2)) ts' ∧ ks'.Nodup ∧ (∀ k ∈ ks', k ∈ ks ∨ k = n) ∧ (∀ u ∈ ts', u ∈ ts ∨ u = t) ∧ ks'.length ≤ ks.length + 1 := by
  unfold putK
  by_cases h : (ps.any fun kv => decide (kv.1 = nK n)) = true
  · rw [if_pos h]
    obtain ⟨ts', r', l', m'⟩ := Reps.repl (k := nK n) hv hR
    refine ⟨ks, ts', ?_, r', nd, fun k hk => .inl hk, m', Nat.le_succ _⟩
    rw [← hk, List.map_map]
    apply List.map_congr_left
    intro p _
    show (if p.1 = nK n then (p.1, v) else p).1 = p.1
    split <;> rfl
  · rw [if_neg h]
    refine ⟨ks ++ [n], ts ++ [t], by rw [List.map_append, hk, List.map_append]; rfl, by rw [List.map_append]; exact Reps.snoc hv hR, ?_, fun k hk => ?_, fun u hu => ?_, by simp⟩
    · refine nd_snoc nd fun hm => h (List.any_eq_true.mpr ?_)
      have hm' : nK n ∈ ps.map (·.1) := by rw [hk]; exact List.mem_map.mpr ⟨n, hm, rfl⟩
      obtain ⟨p, hp, e⟩ := List.mem_map.mp hm'
      exact ⟨p, hp, decide_eq_true e⟩
    · rcases List.mem_append.mp hk with q | q
      · exact .inl q
      · exact .inr (List.mem_singleton.mp q)
    · rcases List.mem_append.mp hu with q | q
      · exact .inl q
      · exact .inr (List.mem_singleton.mp q)
theorem NiceL_iff {d : Nat} : ∀ {ts : List T}, NiceL d ts ↔ ∀ t ∈ ts, Nice d t
  | [] => ⟨fun _ _ h => (nomatch h), fun _ => trivial⟩
  | u :: ts => by
    show (Nice d u ∧ NiceL d ts) ↔ _
    rw [NiceL_iff (ts := ts)]
    exact ⟨fun h t ht => (List.mem_cons.mp ht).elim (fun e => e ▸ h.1) (h.2 t), fun h => ⟨h u List.mem_cons_self, fun t ht => h t (List.mem_cons_of_mem _ ht)⟩⟩
end L2
namespace L2
open PySem PySem.Spec PyProof.Rows
theorem ts_l36 : ts (Str.ofString "abcdefghijklmnopqrstuvwxyz0123456789") = letL ++ figL := by decide +kernel
theorem ts_l26 : ts (Str.ofString "abcdefghijklmnopqrstuvwxyz") = letL := by decide +kernel
theorem ts_a : ts (Str.ofString "a") = [97] := by decide +kernel
theorem ts_q : ts (Str.ofString "'") = [39] := by decide +kernel
theorem of_nil : Str.ofString "" = tx [] := by decide +kernel
theorem rep_one (c k : Nat) : (List.replicate k [c]).flatten = List.replicate k c := by
  induction k with
  | zero => rfl
  | succ k ih => rw [List.replicate_succ, List.flatten_cons, ih, List.replicate_succ]; rfl
theorem okName_of {w : List Nat} (h1 : w.length ≤ 12) (h3 : ∃ c r, w = c :: r ∧ c ∈ letL) (h4 : ∀ c ∈ w, c ∈ letL ++ figL) : okName w = true := by
  obtain ⟨c, r, rfl, hc⟩ := h3
  unfold okName
  simp only [Bool.and_eq_true, decide_eq_true_eq, List.all_eq_true]
  exact ⟨⟨⟨by simp, h1⟩, hc⟩, h4⟩
theorem okText_of {w : List Nat} (h1 : w.length ≤ 30) (h4 : ∀ c ∈ w, c ∈ sgnL) : okText w = true := by
  unfold okText
  simp only [Bool.and_eq_true, decide_eq_true_eq, List.all_eq_true]
  exact ⟨h1, h4⟩
theorem at_l36 {i : Int} (h0 : 0 ≤ i) (h1 : i < 36) : ∃ c, atI (letL ++ figL) i = some c ∧ c ∈ letL ++ figL := atI_of h0 (by show i < ((36 : Nat) : Int); omega)
theorem at_l26 {i : Int} (h0 : 0 ≤ i) (h1 : i < 26) : ∃ c, atI (letL ++ figL) i = some c ∧ c ∈ letL := by
  obtain ⟨j, rfl⟩ := Int.eq_ofNat_of_zero_le h0
  have hj : j < 26 := by omega
  have hj' : j < letL.length := hj
  refine ⟨letL[j], atI_nat (by rw [List.getElem?_append_left hj']; simp [hj']), List.getElem_mem hj'⟩
theorem a_letL : 97 ∈ letL := by decide
theorem letL_sub {c : Nat} (h : c ∈ letL) : c ∈ letL ++ figL := List.mem_append_left _ h
end L2
namespace L2
end L2
namespace L2
open PySem PySem.Spec PyProof.Rows
theorem ts_sgn : Str.ofString " !\"#$&'()*+,-./0123456789:;<=>?@ABCDEFGHIJKLMNOPQRSTUVWXYZ[\\]^_`" ++ Str.ofString "abcdefghijklmnopqrstuvwxyz{|}~" = tx sgnL := by decide +kernel
theorem q_sgnL : 39 ∈ sgnL := by decide
theorem at_sgn {i : Int} (h0 : 0 ≤ i) (h1 : i < 94) : ∃ c, atI sgnL i = some c ∧ c ∈ sgnL := atI_of h0 (by show i < ((94 : Nat) : Int); omega)
theorem flat_one (cs : List Nat) : ((cs.map fun c => tx [c]).map ts).flatten = cs := by
  induction cs with
  | nil => rfl
  | cons d r ih => simp only [List.map_cons, List.flatten_cons, ih, ts_tx]; rfl
end L2
namespace L2
open PySem PySem.Spec PyProof.Rows
theorem HOk.sim {P : Program} {w : World} {H H' : Hp} {h : Heap} (ok : HOk P w H h) (ho : ∀ b a, H b = some (.own a) → H' b = some (.own a)) (ht : ∀ b xs, H b = some (.tup xs) → H' b = some (.tup xs))
    (hs : ∀ b u, H' b = some u → H b = some u ∨ (∃ o, H b = some (.frz o u)) ∨ ∃ o u', u = .frz o u' ∧ H b = some u' ∧ h.get? b = some o) : HOk P w H' h := fun b u e => by
  rcases hs b u e with q | ⟨o, q⟩ | ⟨o, u', rfl, q, g⟩
  · exact (ok b u q).stay (fun _ _ _ z => z) (fun c z => ho c b z) fun c xs z => ht c xs z
  · obtain ⟨_, z⟩ := (show ObjOk P w H h b (.frz o u) from ok b _ q)
    exact z.stay (fun _ _ _ z => z) (fun c z => ho c b z) fun c xs z => ht c xs z
  · exact ⟨g, (ok b u' q).stay (fun _ _ _ z => z) (fun c z => ho c b z) fun c xs z => ht c xs z⟩
section
variable {X : Cx} {pins : List (Addr × Obj)} {σ σ' : St} {H H' : Hp} {s s' : Shared}
theorem Inv.sim (I : Inv X pins σ H s) (hn : ∀ b, H b = none → H' b = none) (ho : ∀ b a, H b = some (.own a) → H' b = some (.own a)) (ht : ∀ b xs, H b = some (.tup xs) → H' b = some (.tup xs))
    (hb : ∀ b ps, H b = some (.tbl ps) → H' b = some (.tbl ps)) (hf : ∀ b o u, X.H₀ b = some (.frz o u) → H' b = some (.frz o u))
    (hs : ∀ b u, H' b = some u → H b = some u ∨ (∃ o, H b = some (.frz o u)) ∨ ∃ o u', u = .frz o u' ∧ H b = some u' ∧ s.heap.get? b = some o) : Inv X pins σ H' s :=
  ⟨I.ok, I.os, I.bare, ⟨I.base.keep, I.base.slot, fun b o e n hx => hn b (I.base.free b o e n hx), I.base.there, fun b xs e => ht b xs (I.base.tups b xs e), hf, fun b ps e => by
    obtain ⟨m, q⟩ := I.base.tbls b ps e
    exact ⟨m, hb b _ q⟩⟩, I.loc, I.cell, hn _ I.free, fun x c e => hn _ (I.freeC x c e), fun p hp => by
    obtain ⟨a, b, c, d, e⟩ := I.pin p hp
    exact ⟨a, hn _ b, c, d, e⟩, I.hok.sim ho ht hs, I.len⟩
theorem Inv.freeze {d : Addr} {kvs : List (Key × V)} {o : Obj} (I : Inv X pins σ H s) (h : H d = some (.dK kvs)) (hg : s.heap.get? d = some o) : Inv X pins σ (upd H d (.frz o (.dK kvs))) s := by
  have ne : ∀ b u, H b = u → u ≠ some (.dK kvs) → b ≠ d := fun b u e n z => by subst z; exact n (e.symm.trans h)
  refine I.sim (fun b e => by rw [upd_ne (ne b _ e (by intro z; cases z))]; exact e) (fun b a e => by rw [upd_ne (ne b _ e (by intro z; cases z))]; exact e) (fun b a e => by rw [upd_ne (ne b _ e (by intro z; cases z))]; exact e)
    (fun b a e => by rw [upd_ne (ne b _ e (by intro z; cases z))]; exact e) (fun b o' u e => ?_) fun b u e => ?_
  · have e' := I.base.frzs b o' u e
    rw [upd_ne (ne b _ e' (by intro z; cases z))]; exact e'
  · by_cases hb : b = d
    · subst hb
      rw [upd_same] at e; cases e
      exact .inr (.inr ⟨o, _, rfl, h, hg⟩)
    · rw [upd_ne hb] at e; exact .inl e
def thaw (H H' : Hp) : Hp := fun b => match H b with
  | some (.frz _ _) => H' b
  | _ => match H' b with
    | some (.frz _ u) => some u
    | y => y
theorem thaw_frz {b : Addr} {o : Obj} {u : HO} (h : H b = some (.frz o u)) : thaw H H' b = H' b := by unfold thaw; rw [h]
theorem thaw_none {b : Addr} (h : H' b = none) : thaw H H' b = none := by unfold thaw; rw [h]; split <;> rfl
theorem thaw_of {b : Addr} {u : HO} (h : H' b = some u) (n : ∀ o v, u ≠ .frz o v) : thaw H H' b = some u := by
  unfold thaw; rw [h]
  split
  · rfl
  · cases u <;> first | rfl | exact absurd rfl (n _ _)
theorem thaw_at {b : Addr} {o : Obj} {u : HO} (h : H' b = some (.frz o u)) (n : ∀ o v, H b ≠ some (.frz o v)) : thaw H H' b = some u := by
  unfold thaw; rw [h]
  cases e : H b with
  | none => rfl
  | some v => cases v <;> first | rfl | exact absurd e (n _ _)
theorem thaw_inv {b : Addr} {u : HO} (h : thaw H H' b = some u) : H' b = some u ∨ ∃ o, H' b = some (.frz o u) := by
  unfold thaw at h
  split at h
  · exact .inl h
  · split at h
    · rename_i o v e
      cases h
      exact .inr ⟨_, e⟩
    · exact .inl h
theorem Inv.thaw (I : Inv X pins σ H s) (J : Inv X pins σ' H' s') : Inv X pins σ' (thaw H H') s' :=
  J.sim (fun b e => thaw_none e) (fun b a e => thaw_of e (by intro o v z; cases z)) (fun b a e => thaw_of e (by intro o v z; cases z)) (fun b a e => thaw_of e (by intro o v z; cases z))
    (fun b o u e => by rw [thaw_frz (I.base.frzs b o u e)]; exact J.base.frzs b o u e) fun b u e => (thaw_inv e).imp id .inl
theorem thaw_same {H H' : Hp} (h : ∀ b u, H b = some u → H' b = some u ∨ ((∃ o, H' b = some (.frz o u)) ∧ ∀ o v, u ≠ .frz o v)) : Same H (L2.thaw H H') := fun b u e => by
  rcases h b u e with q | ⟨⟨o, q⟩, n⟩
  · cases u with
    | frz o v => rw [thaw_frz e]; exact q
    | _ => exact thaw_of q (by intro o v z; cases z)
  · refine thaw_at q fun o' v z => ?_
    rw [e] at z; cases z; exact n _ _ rfl
def tThaw (t : TE) : TE := fun σ H Q => t σ H fun v H' => Q v (thaw H H')
theorem pe_thaw {e : Expr} {t : TE} (h : PE X e t) : PE X e (tThaw t) := by
  intro pins s σ H Q I q
  refine thn (h pins s σ H _ I q) fun u s1 ⟨v, H1, I1, r, q1⟩ => ⟨v, _, I.thaw I1, r, q1⟩
end
theorem KV.get {κ : Type} : ∀ {kvs : List (κ × V)} {vs : List (κ × Value)} {i : Nat} {kv : κ × V}, KV kvs vs → kvs[i]? = some kv → ∃ q, vs[i]? = some q ∧ kv.1 = q.1 ∧ RelV kv.2 q.2
  | _, _, _, _, .nil, e => by simp at e
  | _, _, 0, _, .cons r _, e => by simp at e; subst e; exact ⟨_, rfl, r⟩
  | _, _, i + 1, x, .cons _ t, e => by
    obtain ⟨u, h1, h2⟩ := KV.get (i := i) (kv := x) t (by simpa using e)
    exact ⟨u, by simpa using h1, h2⟩
theorem rel_key {P : Program} {w : World} {k : Key} {u : Value} (h : (mixKind P w).is k u = true) : RelV (kV k) u := by
  rcases keyIs_shape (show keyIs k u = true from h) with ⟨i, t, rfl, rfl⟩ | ⟨x, t, rfl, rfl⟩
  · exact ⟨t, rfl⟩
  · exact ⟨t, rfl⟩
theorem dictAt_of {P : Program} {w : World} {H : Hp} {h : Heap} {d : Addr} {o : Obj} {kvs : List (Key × V)} {es : Array DictEntry} {ep : Nat} (ok : HOk P w H h) (e : H d = some (.frz o (.dK kvs))) (he : o.data = .dict es ep) :
    ∃ vs, KV kvs vs ∧ h.DictAt (mixKind P w) d vs ep ∧ (d == sysModules) = false ∧ kvs.length ≤ sizeLine := by
  obtain ⟨g, z, hd, vs, rel, o', es', ep', ho, c, hdat, r⟩ := (show ObjOk P w H h d (.frz o (.dK kvs)) from ok d _ e)
  rw [g] at ho; cases ho
  rw [he] at hdat; cases hdat
  exact ⟨vs, rel, ⟨o, es, g, c, he, r⟩, hd, z⟩
def Itd (d : Addr) (o : Obj) (kvs : List (Key × V)) : It :=
  ⟨fun i H => i < kvs.length ∧ H d = some (.frz o (.dK kvs)), fun i H y H' => H' = H ∧ ∃ kv, kvs[i]? = some kv ∧ y = kV kv.1, fun i H => kvs.length ≤ i ∧ H d = some (.frz o (.dK kvs))⟩
theorem turn_dict {P : Program} {w : World} {K : PySem.W.Frag} {tg : Expr} (d it : Addr) (o : Obj) (kvs : List (Key × V)) : Turn P w K tg (Itd d o kvs) [it] it (fun i h => ∃ es ep, o.data = .dict es ep ∧ h.IsKeyIter it d i kvs.length ep) where
  mem := by simp
  obj := fun i h st b hb => by
    obtain ⟨es, ep, _, ob, e, c, dd⟩ := st
    have e' : b = it := by simpa using hb
    subst e'
    exact ⟨ob, e, fun v z => by rw [dd] at z; cases z⟩
  keep := fun i h h' st k => by
    obtain ⟨es, ep, a, st⟩ := st
    exact ⟨es, ep, a, st.at fun ob e => k it (by simp) ob e⟩
  item := by
    intro X hP hw hK hc i pins s σ H E I hf st hg
    subst hP hw hK
    obtain ⟨es, ep, hes, st⟩ := st
    obtain ⟨hi, hg⟩ := hg
    obtain ⟨vs, rel, hm, _, _⟩ := dictAt_of I.hok hg hes
    obtain ⟨f0, f1, f2, f3, f4, f5⟩ := hf it (by simp)
    have hl := rel.length
    obtain ⟨kv, hkv⟩ : ∃ kv, kvs[i]? = some kv := ⟨kvs[i], by simp [hi]⟩
    obtain ⟨q, hq, hq1, hq2⟩ := KV.get rel hkv
    rw [hl] at st
    refine wpAny_pyNext_dict_item (k := q.1) (v := q.2) st hm hq fun key h' hk st' sb => ?_
    have I1 : Inv X pins σ H { s with heap := h' } := I.turned (t' := s.toks) (fun b o hb e => (sb.2 b hb).trans e) f0 f1 f3 f4 f5
    obtain ⟨ob, e, c, dd⟩ := id st'
    exact ⟨key, rfl, go_of (s := { s with heap := h' }) e c dd (by decide) ⟨kV kv.1, H, I1, by rw [hq1]; exact rel_key hk, ⟨rfl, kv, hkv, rfl⟩, ⟨es, ep, hes, by rw [hl]; exact st'⟩, fun b hb => (hf b hb).1⟩⟩
  done := by
    intro X hP hw hK hc i pins s σ H E I hf st hg
    subst hP hw hK
    obtain ⟨es, ep, hes, st⟩ := st
    obtain ⟨hi, hg⟩ := hg
    obtain ⟨vs, rel, hm, _, _⟩ := dictAt_of I.hok hg hes
    obtain ⟨f0, f1, f2, f3, f4, f5⟩ := hf it (by simp)
    have hl := rel.length
    rw [hl] at st
    exact wpAny_pyNext_dict_end (I.ok.hd hc) st hm (by simp; omega) fun h' eb => ⟨rfl, I.turned (t' := s.toks) (fun b o hb e => eb b o hb e) f0 f1 f3 f4 f5⟩
  self := fun _ _ _ _ _ st h => by
    obtain ⟨es, ep, _, st⟩ := st
    exact wpAny_pyIter_keyiter st h
def iDict (tl : TE) : TI := fun σ H R => tl σ H fun x H1 => ∃ d kvs, x = .ref d ∧ ((H1 d = some (.dK kvs) ∧ ∀ o, R (Itd d o kvs) (upd H1 d (.frz o (.dK kvs)))) ∨ ∃ o, H1 d = some (.frz o (.dK kvs)) ∧ R (Itd d o kvs) H1)
section
variable {X : Cx}
theorem pi_dict {tg l : Expr} {tl : TE} (hl : PE X l tl) : PI X tg l (iDict tl) := by
  intro pins s σ H R I h
  refine thn (hl pins s σ H _ I h) fun v s1 ⟨x, H1, I1, r1, q1⟩ => ?_
  obtain ⟨d, kvs, rfl, q⟩ := q1
  cases r1
  have fin : ∀ o H2, Inv X pins σ H2 s1 → H2 d = some (.frz o (.dK kvs)) → R (Itd d o kvs) H2 → wpAny (model X.prog X.w) X.A (pyIter (.ref d)) (PIE X pins σ tg R) X.xe s1 := fun o H2 I2 e q => by
    obtain ⟨g, z, hd, vs, rel, o', es, ep, ho, c, hdat, r⟩ := (show ObjOk X.prog X.w H2 s1.heap d (.frz o (.dK kvs)) from I2.hok d _ e)
    rw [g] at ho; cases ho
    have hm : s1.heap.DictAt (mixKind X.prog X.w) d vs ep := ⟨o, es, g, c, hdat, r⟩
    refine wpAny_pyIter_dict hd hm ?_
    refine ⟨s1.heap.objs.size, [s1.heap.objs.size], _, _, H2, rfl, I2.kept (t' := s1.toks) fun b o e => Heap.get?_push_of_some _ e, turn_dict d _ o kvs, ⟨es, ep, hdat, _, Heap.get?_push_size _ rfl, rfl, by rw [rel.length]; rfl⟩, fun b hb => ?_, q⟩
    have e : b = s1.heap.objs.size := by simpa using hb
    subst e
    exact I2.fpOk (Nat.le_refl _) (I2.hok.fresh (Nat.le_refl _))
  rcases q with ⟨e, q⟩ | ⟨o, e, q⟩
  · obtain ⟨z, hd, vs, rel, o, es, ep, ho, _⟩ := (show ObjOk X.prog X.w H1 s1.heap d (.dK kvs) from I1.hok d _ e)
    exact fin o _ (I1.freeze e ho) upd_same (q o)
  · exact fin o _ I1 e q
end
theorem comp_dict {x : Str} {F : List (Str × Nat)} {d : Addr} {o : Obj} {kvs : List (Key × V)} {tt : TT} {te : TE} {σ : St} {Q : VK} {H1 : Hp} (Pv : Nat → List V → Hp → Prop) (hn : kvs.length ≤ sizeLine) (h0 : Pv 0 [] H1) (hz : ∀ i ys H, Pv i ys H → H d = some (.frz o (.dK kvs)))
    (hs : ∀ i kv ys H, kvs[i]? = some kv → ys.length ≤ i → Pv i ys H → tt (some (kV kv.1) :: F.map (fun p => (σ[p.2]?).join)) H fun b H3 => if b = true then te (some (kV kv.1) :: F.map (fun p => (σ[p.2]?).join)) H3 fun z H4 => Pv (i + 1) (ys ++ [z]) H4 else Pv (i + 1) ys H3)
    (hd : ∀ ys H, ys.length ≤ kvs.length → Pv kvs.length ys H → ∀ p, H p = none → Q (.ref p) (upd H p (.lst ys))) : CompBody [x] F (gName 0) tt te σ Q (Itd d o kvs) H1 :=
  comp_by Pv hn h0 (fun i ys H h p => ⟨h, hz i ys H p⟩) (fun ys H p => ⟨Nat.le_refl _, hz _ ys H p⟩) (fun i ys H y H2 h1 h2 h3 h4 => by
    obtain ⟨rfl, kv, hkv, rfl⟩ := h4
    exact hs i kv ys _ hkv h2 h3) hd
theorem comp_list {K : PySem.W.Frag} {x : Str} {F : List (Str × Nat)} {a : Addr} {xs : List V} {tt : TT} {te : TE} {σ : St} {Q : VK} {H1 : Hp} (Pv : Nat → List V → Hp → Prop) (hn : xs.length ≤ sizeLine) (h0 : Pv 0 [] H1) (hz : ∀ i ys H, i ≤ xs.length → Pv i ys H → SqL K H a xs)
    (hs : ∀ i v ys H, xs[i]? = some v → ys.length ≤ i → Pv i ys H → tt (some v :: F.map (fun p => (σ[p.2]?).join)) H fun b H3 => if b = true then te (some v :: F.map (fun p => (σ[p.2]?).join)) H3 fun z H4 => Pv (i + 1) (ys ++ [z]) H4 else Pv (i + 1) ys H3)
    (hd : ∀ ys H, ys.length ≤ xs.length → Pv xs.length ys H → ∀ p, H p = none → Q (.ref p) (upd H p (.lst ys))) : CompBody [x] F (gName 0) tt te σ Q (Itl K a) H1 :=
  comp_by Pv hn h0 (fun i ys H h p => ⟨xs, xs[i], hz i ys H (Nat.le_of_lt h) p, by simp [h]⟩) (fun ys H p => ⟨xs, hz _ ys H (Nat.le_refl _) p, Nat.le_refl _⟩) (fun i ys H y H2 h1 h2 h3 h4 => by
    obtain ⟨rfl, hy⟩ := h4
    exact hs i y ys _ (hy xs (hz i ys _ (Nat.le_of_lt h1) h3)) h2 h3) hd
def valsO (p d : Addr) : HO := .ext fun h => h.IsValuesView p d
section
variable {X : Cx}
theorem kv_vals {κ : Type} : ∀ {kvs : List (κ × V)} {vs : List (κ × Value)}, KV kvs vs → Vals (kvs.map (·.2)) (vs.map (·.2))
  | _, _, .nil => .nil
  | _, _, .cons r t => .cons r.2 (kv_vals t)
theorem vals_keys {P : Program} {w : World} : ∀ {kvs : List (Key × V)} {vs : List (Key × Value)} {us : List Value}, KV kvs vs → us.length = vs.length → (∀ (j : Nat) (v : Value), us[j]? = some v → ∃ k x, vs[j]? = some (k, x) ∧ (mixKind P w).is k v = true) → Vals (kvs.map fun kv => kV kv.1) us
  | _, _, [], .nil, _, _ => .nil
  | _, _, u :: us, .cons r t, hl, h => by
    obtain ⟨k, x, e, hk⟩ := h 0 u rfl
    simp only [List.getElem?_cons_zero, Option.some.injEq] at e
    refine .cons ?_ (vals_keys t (by simpa using hl) fun j v hv => by simpa using h (j + 1) v (by simpa using hv))
    have e2 := r.1
    rw [e] at e2
    show RelV (kV _) u
    rw [e2]; exact rel_key hk
  | _, _, u :: us, .nil, hl, _ => by simp at hl
  | _, _, [], .cons _ _, hl, _ => by simp at hl
theorem call_list_d (hc : X.calm = true) : CallR X (.type "list") (fun xs H Q => ∃ p kvs, xs = [.ref p] ∧ Rd H p (.dK kvs) ∧ ∀ l, H l = none → Q (.ref l) (upd H l (.lst (kvs.map fun kv => kV kv.1)))) := by
  intro pins s σ H xs us Q I r h
  obtain ⟨p, kvs, rfl, hq, q⟩ := h
  obtain ⟨u, rfl, rx⟩ := vals1 r
  cases rx
  obtain ⟨z, hd, vs, rel, dd⟩ := dk_rd I.hok hq
  obtain ⟨ep, hat⟩ := dd.dictAt
  have hl := rel.length
  refine PySem.W.kdl_call (PySem.W.kdl_dict (knd := mixKind X.prog X.w) (kvs := vs) (ep := ep) hd) (I.ok.hd hc) hat (by omega) fun h' tk acc c' hk hg hi => ?_
  refine ⟨.ref s.heap.objs.size, _, I.laid (t' := tk) hk (Nat.le_refl _) (o := .lst (kvs.map fun kv => kV kv.1)) ?_, rfl, q _ (I.hok.fresh (Nat.le_refl _))⟩
  refine ⟨by rw [List.length_map]; exact z, acc.toList, c', vals_keys (P := X.prog) (w := X.w) rel (by rw [Array.length_toList]; exact hi.1) (fun j v e => hi.2 j v (by rw [← Array.getElem?_toList]; exact e)), by simpa using hg⟩
def rVals : V → List V → Hp → VK → Prop := fun x vs H Q => ∃ d kvs, x = .ref d ∧ vs = [] ∧ Rd H d (.dK kvs) ∧ ∀ p, H p = none → Q (.ref p) (upd H p (valsO p d))
theorem mt_values : MtR X "dict.values" rVals := by
  intro pins s σ H x vs v us Q I rx rv h
  obtain ⟨d, kvs, rfl, rfl, hq, q⟩ := h
  cases rx
  cases rv
  obtain ⟨z, hd, ws, rel, dd⟩ := dk_rd I.hok hq
  refine call_meetsIn PySem.F.slot_dict_values dd.typeIs PySem.F.entry_dict_values (PySem.F.args_dict_values_1 _) (meets_dict_values (mixKind X.prog X.w) d hd) ⟨⟨ws, dd⟩, ?_⟩
  refine ⟨.ref s.heap.objs.size, _, I.laid (t' := s.toks) (fun b o e => Heap.get?_push_of_some _ e) (Nat.le_refl _) (o := valsO s.heap.objs.size d) ?_, rfl, q _ (I.hok.fresh (Nat.le_refl _))⟩
  exact ⟨⟨_, Heap.get?_push_size _ rfl, rfl, rfl⟩, ⟨_, Heap.get?_push_size _ rfl⟩, fun h1 h2 ⟨o, e, r⟩ k => ⟨o, k o e, r⟩⟩
theorem call_list_v (hc : X.calm = true) : CallR X (.type "list") (fun xs H Q => ∃ p d kvs, xs = [.ref p] ∧ H p = some (valsO p d) ∧ Rd H d (.dK kvs) ∧ ∀ l, H l = none → Q (.ref l) (upd H l (.lst (kvs.map (·.2))))) := by
  intro pins s σ H xs us Q I r h
  obtain ⟨p, d, kvs, rfl, hp, hq, q⟩ := h
  obtain ⟨u, rfl, rx⟩ := vals1 r
  cases rx
  obtain ⟨z, hd, vs, rel, dd⟩ := dk_rd I.hok hq
  obtain ⟨hv, _⟩ := (show ObjOk X.prog X.w H s.heap p (valsO p d) from I.hok p _ hp)
  obtain ⟨ep, hat⟩ := dd.dictAt
  have hl := rel.length
  refine PySem.W.kdl_call (PySem.W.kdl_values (knd := mixKind X.prog X.w) (kvs := vs) (ep := ep)) (I.ok.hd hc) ⟨hv, hat⟩ (by omega) fun h' tk acc c' hk hg hi => ?_
  refine ⟨.ref s.heap.objs.size, _, I.laid (t' := tk) hk (Nat.le_refl _) (o := .lst (kvs.map (·.2))) ?_, rfl, q _ (I.hok.fresh (Nat.le_refl _))⟩
  have e : acc.toList = vs.map (·.2) := PySem.W.kdl_vals_eq acc.toList (by rw [Array.length_toList]; exact hi.1) (fun j v e => hi.2 j v (by rw [← Array.getElem?_toList]; exact e))
  exact ⟨by rw [List.length_map]; exact z, acc.toList, c', by rw [e]; exact kv_vals rel, by simpa using hg⟩
end
end L2
namespace L2
open PySem PySem.Spec PyProof.Rows
theorem pr_keys_miss : typeLookup (.type "list") "keys" = pure none := am_miss_of_fast (by decide +kernel)
theorem pr_entry_loop : entryFor table "dict.update.loop" = some Builtin.«dict.update.loop» := entryFor_of_tree (by kernel_rfl)
theorem pr_plain_loop : plainId "dict.update.loop" = true := by decide +kernel
section
variable {prog : Program} {w : World} {A : Around} {E : Value → Shared → Prop}
theorem pr_noKeys {s : Shared} {a : Addr} {xs : Array Value} {k : Nat} {name : Str} {Q : Option Value → Shared → Prop}
    (hx : s.heap.get? a = some { cls := .type "list", dict := none, data := .seq xs k, slots := #[] }) (hmiss : typeLookup (.type "list") name = pure none) (hname : (["__module__", "__name__", "__qualname__", "__doc__", "__annotations__"] : List Str).contains name = false) (hA : A.handled = none)
    (h : ∀ h' tk, (∀ b o, s.heap.get? b = some o → h'.get? b = some o) → Q none { s with heap := h', toks := tk }) (hsz : name.length + 100 ≤ sizeLine := by size_fits) :
    wpAny (model prog w) A (getAttr? (.ref a) name) Q E s := by
  obtain ⟨hp, g, d, tk, os⟩ := s
  have hT : ∀ tk', (⟨hp, g, d, tk', os⟩ : Shared).TypeIs (.ref a) "list" := fun _ => ⟨_, hx, rfl⟩
  have f1 := sub_AttributeError
  have f3 := F.slot_list_getattribute.lookup
  have f4 := F.slot_list_getattribute.bind (.ref a)
  have f5 := am_list_getattr_none
  unfold getAttr? getAttrBy? getAttrBy
  repeat (any_goals (first | assumption | exact hT _ | ((with_reducible show wpAny _ _ (call (Value.builtin "list.__getattribute__") _ _) _ _ _); refine call_meets F.slot_list_getattribute (hT _) am_entry_list_getattribute (F.args_list_getattribute_2 _ _) (meets_getattribute_miss_list a xs k #[] name _ hmiss hname hsz) ⟨hx, hA, fun h' tk' e hx' => ?_⟩) | wp_step))
  obtain ⟨t', u', he⟩ := hx'.there
  show wpAny _ _ (getattributeRaised _ _ _ _ _ _ _) _ _ _
  unfold getattributeRaised
  repeat (any_goals (first | assumption | wp_step))
  exact h h' tk' fun b o e => hx'.keeps b o e
theorem pr_loop {κ : Type} [DecidableEq κ] (knd : KeyKind prog w κ) (hh : A.handled = none) {d it l : Addr} {items : Array Value} {ps : List (κ × Value)} {R : Result → Shared → Prop} (hdi : d ≠ it) (hdl : d ≠ l) (hil : it ≠ l) (hps : ps.length = items.size) :
    ∀ (n i : Nat) (s : Shared) (kvs : List (κ × Value)), items.size - i = n → i ≤ items.size → s.heap.IsListIter it l i → s.heap.IsList l items →
      (∀ (j : Nat) k v, ps[j]? = some (k, v) → ∃ a key, items[j]? = some (.ref a) ∧ a ≠ d ∧ a ≠ it ∧ IsTup s.heap a #[key, v] ∧ knd.is k key = true) → s.heap.DictOf knd d kvs → kvs.length + n ≤ sizeLine →
      (∀ h' tk, h'.DictOf knd d ((ps.drop i).foldl (fun m kv => stored m kv.1 kv.2) kvs) → (∀ b o, b ≠ d → b ≠ it → s.heap.get? b = some o → h'.get? b = some o) → R (.ok (.ret .none)) { s with heap := h', toks := tk }) →
      codeAny (model prog w) A (.builtin "dict.update.loop" ⟨[.ref d, .ref it, rawInt i, .none], []⟩) R s := by
  intro n
  induction n with
  | zero =>
    intro i s kvs hn hi hit hl hp hd hz hR
    refine codeAny_builtin pr_entry_loop ?_
    rw [Around.under_plainId pr_plain_loop _]
    unfold Builtin.«dict.update.loop»
    show wpAny _ A.in1 (pyNext (.ref it) >>= _) _ _ s
    refine wpAny_bind (wpAny_pyNext_list_end (show A.in1.handled = none from hh) hit hl (by simp; omega) fun h' eb => ?_)
    show wpAny _ _ (Builtin.Dict.addKeywords d [] >>= fun _ => ret .none) _ _ _
    refine wpAny_bind (wpAny_pure (wpAny_pure (hR h' _ ?_ fun b o hb hi' e => eb b o hi' e)))
    rw [List.drop_eq_nil_of_le (by omega)]
    exact hd.extBut eb hdi
  | succ n ih =>
    intro i s kvs hn hi hit hl hp hd hz hR
    refine codeAny_builtin pr_entry_loop ?_
    rw [Around.under_plainId pr_plain_loop _]
    unfold Builtin.«dict.update.loop»
    have hlt : i < items.size := by omega
    obtain ⟨kv, hkv⟩ : ∃ kv, ps[i]? = some kv := ⟨ps[i], by simp [hps, hlt]⟩
    obtain ⟨a, key, ha, had, hai, ht, hk⟩ := hp i kv.1 kv.2 hkv
    show wpAny _ A.in1 (pyNext (.ref it) >>= _) _ _ s
    refine wpAny_bind (wpAny_pyNext_list_item hit hl (x := .ref a) ha fun h' st' sb => ?_)
    show wpAny _ _ (holding [Value.ref a] (Sem.tryCatch (Builtin.Dict.pairItems (.ref a)) _ >>= _) >>= fun _ => again _) _ _ _
    have kp : ∀ b o, b ≠ it → s.heap.get? b = some o → h'.get? b = some o := fun b o hb e => (sb.2 b hb).trans e
    obtain ⟨o, ho, hc, m, hdat⟩ := id ht
    refine wpAny_bind (wpAny_holding (wpAny_bind (wpAny_tryCatch ?_)))
    unfold Builtin.Dict.pairItems
    refine wpAny_bind (wpAny_typeOf (T := "tuple") ⟨o, kp a o hai ho, hc⟩ ?_)
    rw [if_pos (by decide)]
    refine wpAny_bind (wpAny_seqItems (kp a o hai ho) hdat (wpAny_pure ?_))
    show wpAny _ _ (holding [key, kv.2] (dictSet d key kv.2)) _ _ _
    refine wpAny_holding (wpAny_dictSet_pairs hk (hd.sameBut sb hdi) (fun h2 hd2 sb2 => ?_) (by omega))
    have kp2 : ∀ b o, b ≠ d → b ≠ it → s.heap.get? b = some o → h2.get? b = some o := fun b o hb hi' e => (sb2.2 b hb).trans (kp b o hi' e)
    have hc' : ((i : Int) + 1) = ((i + 1 : Nat) : Int) := by omega
    rw [hc']
    refine wpAny_pure ⟨plainId_quiet pr_plain_loop _, ih (i + 1) _ (stored kvs kv.1 kv.2) (by omega) (by omega) ?_ ?_ ?_ hd2 ?_ ?_⟩
    · exact st'.at fun o e => (sb2.2 it (Ne.symm hdi)).trans e
    · obtain ⟨ol, e1, e2⟩ := hl
      exact ⟨ol, kp2 l ol (Ne.symm hdl) (Ne.symm hil) e1, e2⟩
    · intro j k v e
      obtain ⟨a', key', x1, x2, x3, ⟨o', y1, y2⟩, x5⟩ := hp j k v e
      exact ⟨a', key', x1, x2, x3, ⟨o', kp2 a' o' x2 x3 y1, y2⟩, x5⟩
    · have : (stored kvs kv.1 kv.2).length ≤ kvs.length + 1 := by
        unfold stored
        split <;> simp
      omega
    · intro h3 tk hd3 k3
      refine hR h3 tk ?_ fun b o hb hi' e => k3 b o hb hi' (kp2 b o hb hi' e)
      have e : ps.drop i = kv :: ps.drop (i + 1) := by
        obtain ⟨hlt', e'⟩ := List.getElem?_eq_some_iff.mp hkv
        rw [List.drop_eq_getElem_cons hlt', e']
      rw [e, List.foldl_cons]
      exact hd3
end
section
variable {X : Cx}
theorem pr_pairs {P : Program} {w : World} {H : Hp} {h : Heap} (ok : HOk P w H h) : ∀ {kvs : List (Key × V)} {ys : List V} {its : List Value}, Vals ys its → kvs.length = ys.length → (∀ (j : Nat) kv, kvs[j]? = some kv → ∃ a, ys[j]? = some (.ref a) ∧ H a = some (.tup [kV kv.1, kv.2])) →
    ∃ ps : List (Key × Value), KV kvs ps ∧ ∀ (j : Nat) k v, ps[j]? = some (k, v) → ∃ a key, its[j]? = some (.ref a) ∧ IsTup h a #[key, v] ∧ (mixKind P w).is k key = true
  | [], [], _, .nil, _, _ => ⟨[], .nil, fun j k v e => by simp at e⟩
  | kv :: kvs, y :: ys, _, .cons r t, hl, hp => by
    obtain ⟨ps, rel, h2⟩ := pr_pairs ok (kvs := kvs) t (by simpa using hl) fun j kv' e => by
      obtain ⟨a, e1, e2⟩ := hp (j + 1) kv' (by simpa using e)
      exact ⟨a, by simpa using e1, e2⟩
    obtain ⟨a, e1, e2⟩ := hp 0 kv rfl
    simp only [List.getElem?_cons_zero, Option.some.injEq] at e1
    subst e1
    cases r
    obtain ⟨_, its2, rv, pl⟩ := (show ObjOk P w H h a (.tup [kV kv.1, kv.2]) from ok a _ e2)
    obtain ⟨u1, u2, e3, r1, r2⟩ := vals2 rv
    subst e3
    refine ⟨(kv.1, u2) :: ps, .cons ⟨rfl, r2⟩ rel, fun j k v e => ?_⟩
    cases j with
    | zero =>
      simp only [List.getElem?_cons_zero, Option.some.injEq, Prod.mk.injEq] at e
      obtain ⟨rfl, rfl⟩ := e
      exact ⟨a, u1, rfl, pl, kV_is r1⟩
    | succ j => simpa using h2 j k v (by simpa using e)
  | [], _ :: _, _, _, hl, _ => by simp at hl
  | _ :: _, [], _, _, hl, _ => by simp at hl
theorem call_dict_p (hc : X.calm = true) : CallR X (.type "dict") (fun xs H Q => ∃ (p : Addr) (ys : List V) (kvs : List (Key × V)), xs = [.ref p] ∧ H p = some (.lst ys) ∧ kvs.length = ys.length ∧ (∀ (j : Nat) kv, kvs[j]? = some kv → ∃ a, ys[j]? = some (.ref a) ∧ H a = some (.tup [kV kv.1, kv.2])) ∧
    ∀ l, H l = none → Q (.ref l) (upd H l (.dK (mergeK [] kvs)))) := by
  intro pins s σ H xs us Q I r h
  obtain ⟨p, ys, kvs, rfl, hq, hlen, hpair, q⟩ := h
  obtain ⟨u, rfl, rx⟩ := vals1 r
  cases rx
  obtain ⟨hz, its, n, rv, hg⟩ := (show ObjOk X.prog X.w H s.heap p (.lst ys) from I.hok p _ hq)
  obtain ⟨ps, rel, hps⟩ := pr_pairs I.hok rv hlen hpair
  have hl1 := rv.length
  have hl2 := rel.length
  have hplt : p < s.heap.objs.size := Heap.lt_size hg
  refine callType_codes (Q₁ := fun obj s₁ => obj = .ref s.heap.objs.size ∧ s₁ = { s with heap := s.heap.push { cls := .type "dict", data := .dict #[] } }) F.kt_called_dict (F.kt_typeCall_dict_1 _) F.entry_dict_init (kt_code_dict_new _ ⟨rfl, rfl⟩) ?_
  rintro obj s₁ ⟨rfl, rfl⟩
  have hnew : (s.heap.push { cls := .type "dict", data := .dict #[] }).DictOf (mixKind X.prog X.w) s.heap.objs.size [] := Heap.DictOf.new s.heap
  have hg1 := Heap.get?_push_of_some { cls := .type "dict", data := .dict #[] } hg
  refine ⟨hnew.typeIs, F.args_dict_init_2 _ _, ?_⟩
  unfold Builtin.«dict.__init__»
  refine wpAny_bind ?_
  unfold Builtin.Dict.selfAndRest
  refine wpAny_bind (wpAny_notOrdered_dict hnew.typeIs ?_)
  show wpAny _ _ (pure (s.heap.objs.size, [Value.ref p])) _ _ _
  refine wpAny_pure ?_
  show wpAny _ _ (Builtin.Dict.updateFrom "dict.__init__" s.heap.objs.size (.ref p) [] .none) _ _ _
  unfold Builtin.Dict.updateFrom
  refine wpAny_bind (wpAny_typeOf (T := "list") ⟨_, hg1, rfl⟩ ?_)
  rw [if_pos (by decide)]
  refine wpAny_bind (pr_noKeys hg1 pr_keys_miss (by decide +kernel) (I.ok.hd hc) (fun h2 tk2 k2 => ?_))
  rw [if_pos (by rfl)]
  refine wpAny_bind (wpAny_rule (wpAny_bind (wpAny_pyIter_list (items := its.toArray) ⟨_, k2 _ _ hg1, rfl, n, rfl⟩ ?_)))
  have k1 : ∀ b o, s.heap.get? b = some o → h2.get? b = some o := fun b o e => k2 b o (Heap.get?_push_of_some _ e)
  have hd2 : s.heap.objs.size < h2.objs.size := Heap.lt_size (k2 _ _ (Heap.get?_push_size _ rfl))
  have hpl : ∀ b o, h2.get? b = some o → (h2.push { cls := .type "list_iterator", data := .fields #[.ref p, .int 0 0] }).get? b = some o := fun b o e => Heap.get?_push_of_some _ e
  refine wpAny_pure ⟨plainId_quiet pr_plain_loop _, pr_loop (mixKind X.prog X.w) (show X.A.in1.handled = none from I.ok.hd hc) (d := s.heap.objs.size) (it := h2.objs.size) (l := p) (items := its.toArray) (ps := ps) (Nat.ne_of_lt hd2) (Nat.ne_of_gt hplt) (Nat.ne_of_gt (Nat.lt_trans hplt hd2)) (by simp; omega) _ 0 _ [] rfl (Nat.zero_le _) ?_ ?_ ?_ ?_ ?_ ?_⟩
  · exact ⟨_, Heap.get?_push_size _ rfl, rfl, rfl⟩
  · exact ⟨_, hpl _ _ (k2 _ _ hg1), rfl, n, rfl⟩
  · intro j k v e
    obtain ⟨a, key, e1, ⟨o, e2, e3⟩, e4⟩ := hps j k v e
    have hlt := Heap.lt_size e2
    exact ⟨a, key, by simpa using e1, Nat.ne_of_lt hlt, Nat.ne_of_lt (Nat.lt_trans hlt hd2), ⟨o, hpl _ _ (k1 _ _ e2), e3⟩, e4⟩
  · obtain ⟨o, es, ep, ho, rest⟩ := hnew
    exact ⟨o, es, ep, hpl _ _ (k2 _ _ ho), rest⟩
  · simp; omega
  · intro h3 tk3 hd3 k3
    rw [List.drop_zero] at hd3
    have k4 : ∀ b o, s.heap.get? b = some o → h3.get? b = some o := fun b o e => k3 b o (Nat.ne_of_lt (Heap.lt_size e)) (Nat.ne_of_lt (Nat.lt_trans (Heap.lt_size e) hd2)) (hpl _ _ (k1 _ _ e))
    refine ⟨rfl, .ref s.heap.objs.size, _, I.laid (t' := tk3) k4 (Nat.le_refl _) (o := .dK (mergeK [] kvs)) ?_, rfl, q _ (I.hok.fresh (Nat.le_refl _))⟩
    have hm : (mergeK [] kvs).length ≤ kvs.length := by
      have := length_mergeK kvs []
      simpa using this
    exact dk_new (by omega) (beq_eq_false_iff_ne.mpr (Ne.symm (Nat.ne_of_lt I.big))) (KV.merge rel .nil) hd3
end
end L2
namespace L2
open PySem PySem.Spec PyProof.Rows
structure Bl2 (mg : Str → Option Value) : Prop extends Bl mg where
  max : mg "max" = none
  min : mg "min" = none
  sorted : mg "sorted" = none
def mxI (b z : Int) : Int := if z > b then z else b
def mxD (k : Int) : List Int → Int
  | [] => k
  | b :: r => r.foldl mxI b
section
variable {prog : Program} {w : World} {A : Around}
end
section
variable {X : Cx}
def rMaxD (K : PySem.W.Frag) : V → V → Hp → VK → Prop := fun x y H Q => ∃ (p : Addr) (ns : List Int) (k : Int), x = .ref p ∧ y = .int k ∧ SqL K H p (ns.map V.int) ∧ Q (.int (mxD k ns)) H
variable {e d : Expr} {te td : TE} {p kp pos : Pos}
def tMaxD (K : PySem.W.Frag) (te td : TE) : TE := fun σ H Q => te σ H fun x H1 => td σ H1 fun y H2 => rMaxD K x y H2 Q
end
end L2
namespace L2
open PySem PySem.Spec PyProof.Rows
mutual
def T.dep : T → Nat
  | .lst ts => T.deps ts + 1
  | .dic _ ts => T.deps ts + 1
  | .tup ts => T.deps ts + 1
  | .non => 0
  | .bl _ => 0
  | .int _ => 0
  | .str _ => 0
def T.deps : List T → Nat
  | [] => 0
  | t :: ts => max (T.dep t) (T.deps ts)
end
mutual
def T.pure : T → Prop
  | .tup _ => False
  | .lst ts => T.pures ts
  | .dic ks ts => ks.Nodup ∧ T.pures ts
  | .non => True
  | .bl _ => True
  | .int _ => True
  | .str _ => True
def T.pures : List T → Prop
  | [] => True
  | t :: ts => T.pure t ∧ T.pures ts
end
theorem T.deps_le {t : T} : ∀ {ts : List T}, t ∈ ts → T.dep t ≤ T.deps ts
  | [], h => nomatch h
  | u :: ts, h => by
    show T.dep t ≤ max (T.dep u) (T.deps ts)
    rcases List.mem_cons.mp h with e | e
    · subst e; exact Nat.le_max_left _ _
    · exact Nat.le_trans (T.deps_le e) (Nat.le_max_right _ _)
def EqM (P : Program) (w : World) (A : Around) (s : Shared) (u v : Value) : Prop := ∀ (E : Value → Shared → Prop) (Q : Bool → Shared → Prop), Q true s → wpAny (model P w) A (eqBool u v) Q E s
def RcM (P : Program) (w : World) (A : Around) (s : Shared) (u v : Value) : Prop := ∀ (E : Value → Shared → Prop) (Q : Value → Shared → Prop), Q (.bool true) s → wpAny (model P w) A (richCompare .Eq u v) Q E s
theorem EqM.of_at {P : Program} {w : World} {A : Around} {s : Shared} {u v : Value} (h : SeqAt.EqAt A s u v true) : EqM P w A s u v := fun E Q q => h P w E Q q
theorem EqM.refs {P : Program} {w : World} {A : Around} {s : Shared} {a b : Addr} (h : a ≠ b → RcM P w A s (.ref a) (.ref b)) : EqM P w A s (.ref a) (.ref b) := by
  by_cases e : a = b
  · subst e; exact .of_at (SeqAt.EqAt.same _)
  · intro E Q q
    unfold eqBool
    refine wpAny_holding (wpAny_ite_split (fun z => ?_) fun _ => wpAny_bind (h e E _ (wpAny_truthy_bool q)))
    have := eq_of_beq z
    injection this with this
    exact absurd this e
section
variable {P : Program} {w : World}
open AutoSeq1 (wpAny_loadPart')
open MeetsSeq MeetsSeq2 MeetsSeq3 SeqRoads2 SeqAt
theorem eqm_loop (l b : Addr) (xs ys : Array Value) (n m : Nat) (d1 d2 : Option Addr) (sl1 sl2 : Array (Option Value)) (hsz : xs.size = ys.size) (k : Nat) :
    ∀ i : Nat, xs.size - i = k → MeetsIn P w (Builtin.«list.__eq__.loop» ⟨[.ref l, .ref b, rawInt i, rawInt 2], []⟩)
      (fun A R s => s.heap.get? l = some { cls := .type "list", dict := d1, data := .seq xs n, slots := sl1 } ∧ s.heap.get? b = some { cls := .type "list", dict := d2, data := .seq ys m, slots := sl2 } ∧
        (∀ j (h1 : j < xs.size) (h2 : j < ys.size), EqM P w A.in1 s xs[j] ys[j]) ∧ R (.ok (.ret (.bool true))) s) := by
  induction k with
  | zero =>
    intro i hk A R s h
    obtain ⟨hp, g, d, tk, os⟩ := s
    obtain ⟨hl, hb, he, h⟩ := h
    wp_walk using wpAny_loadPart' hl, wpAny_loadPart' hb
    have z1 : xs[((i : Nat) : Int).toNat]? = none := by simp; omega
    have z2 : ys[((i : Nat) : Int).toNat]? = none := by simp; omega
    rw [z1, z2]
    wp_walk using wpAny_loadPart' hl, wpAny_loadPart' hb
    show R (.ok (.ret (.bool (xs.size == ys.size)))) _
    rw [hsz, beq_self_eq_true]; exact h
  | succ k ih =>
    intro i hk A R s h
    obtain ⟨hp, g, d, tk, os⟩ := s
    obtain ⟨hl, hb, he, h⟩ := h
    wp_walk using wpAny_loadPart' hl, wpAny_loadPart' hb
    have l1 : i < xs.size := by omega
    have l2 : i < ys.size := by omega
    have z1 : xs[((i : Nat) : Int).toNat]? = some xs[i] := by simp [l1]
    have z2 : ys[((i : Nat) : Int).toNat]? = some ys[i] := by simp [l2]
    rw [z1, z2]
    refine wpAny_bind (he i l1 l2 _ _ ?_)
    wp_walk
    rw [show ((i : Int) + 1) = ((i + 1 : Nat) : Int) by omega]
    refine ⟨plainId_quiet plain_eq_loop _, codeAny_builtin entry_eq_loop ?_⟩
    rw [Around.under_plainId plain_eq_loop _]
    exact ih (i + 1) (by omega) A R _ ⟨hl, hb, he, h⟩
theorem eqm_list (l b : Addr) (xs ys : Array Value) (n m : Nat) (d1 d2 : Option Addr) (sl1 sl2 : Array (Option Value)) (hsz : xs.size = ys.size) : MeetsIn P w (Builtin.«list.__eq__» ⟨[.ref l, .ref b], []⟩)
      (fun A R s => s.heap.get? l = some { cls := .type "list", dict := d1, data := .seq xs n, slots := sl1 } ∧ s.heap.get? b = some { cls := .type "list", dict := d2, data := .seq ys m, slots := sl2 } ∧
        (∀ j (h1 : j < xs.size) (h2 : j < ys.size), EqM P w A.in1 s xs[j] ys[j]) ∧ R (.ok (.ret (.bool true))) s) := by
  intro A R s h
  obtain ⟨hp, g, d, tk, os⟩ := s
  obtain ⟨hl, hb, he, h⟩ := h
  have f3 := AutoSeq1.sub_list_list
  have hne : ¬ (xs.size != ys.size) = true := by simp [hsz]
  wp_walk using wpAny_loadPart' hl, wpAny_loadPart' hb
  refine ⟨plainId_quiet plain_eq_loop _, codeAny_builtin entry_eq_loop ?_⟩
  rw [Around.under_plainId plain_eq_loop _]
  exact eqm_loop l b xs ys n m d1 d2 sl1 sl2 hsz _ 0 rfl A R _ ⟨hl, hb, he, h⟩
theorem RcM.lists {A : Around} {s : Shared} {l b : Addr} {xs ys : Array Value} (hl : s.heap.IsList l xs) (hb : s.heap.IsList b ys) (hsz : xs.size = ys.size) (hu : A.units < cLine)
    (he : ∀ j (h1 : j < xs.size) (h2 : j < ys.size), EqM P w A.in1 s xs[j] ys[j]) : RcM P w A s (.ref l) (.ref b) := fun E Q q => by
  obtain ⟨⟨c1, d1, dt1, sl1⟩, ho, hc, n, hd⟩ := id hl
  obtain ⟨⟨c2, d2, dt2, sl2⟩, ho2, hc2, n2, hd2⟩ := id hb
  simp only at hc hd hc2 hd2
  subst hc hd hc2 hd2
  refine wpAny_richCompare_same_room (op := .Eq) ⟨_, ho, rfl⟩ ⟨_, ho2, rfl⟩ F.slot_list_eq (call_meetsIn F.slot_list_eq ⟨_, ho, rfl⟩ F.entry_list_eq (F.args_list_eq_2 _ _) (eqm_list l b xs ys n n2 d1 d2 sl1 sl2 hsz) ⟨ho, ho2, he, ?_⟩) hu
  exact ⟨(fun x => nomatch x), q⟩
theorem eqm_pairs {κ : Type} [DecidableEq κ] {knd : KeyKind P w κ} {A : Around} {E : Value → Shared → Prop} {s : Shared} {nm : String} {a b : Addr} {pa pb : List (κ × Value)} {Q : Bool → Shared → Prop} (na : (a == sysModules) = false) (nb : (b == sysModules) = false)
    (Da : s.heap.DictOf knd a pa) (Db : s.heap.DictOf knd b pb) (hl : pa.length = pb.length) (hit : ∀ (i : Nat) k v, pa[i]? = some (k, v) → ∃ y, valueAt pb k = some y ∧ EqM P w A s v y) (q : Q true s) : wpAny (model P w) A (Builtin.Dict.samePairs nm a b) Q E s := by
  obtain ⟨o1, e1, n1, g1, _, d1, k1, p1, _⟩ := Da
  obtain ⟨o2, e2, n2, g2, _, d2, k2, p2, _⟩ := Db
  have s1 : pa.length = e1.size := by rw [← p1.length]; simp
  have s2 : pb.length = e2.size := by rw [← p2.length]; simp
  have look : ∀ k, findBy knd.is e2 k = valueAt pb k := fun k => by
    rw [← p2.find k]
    clear s2 p2 k2 d2 g2
    obtain ⟨l⟩ := e2
    simp [findBy]
  have en : e1.size = e2.size := by omega
  unfold Builtin.Dict.samePairs Builtin.Dict.showsAll
  rw [if_neg (show ¬ (a == sysModules) = true by rw [na]; exact Bool.false_ne_true), if_neg (show ¬ (b == sysModules) = true by rw [nb]; exact Bool.false_ne_true)]
  refine wpAny_bind (wpAny_pure (wpAny_bind (wpAny_pure (wpAny_bind (wpAny_dictEntries g1 d1 ?_)))))
  dsimp only
  refine wpAny_bind (wpAny_dictEntries g2 d2 ?_)
  rw [if_neg (by rw [en]; simp)]
  refine wpAny_bind (wpAny_dictEpoch g1 d1 (wpAny_bind ?_))
  rw [Std.Legacy.Range.forIn_eq_forIn_range']
  simp only [Std.Legacy.Range.size, Nat.sub_zero, Nat.add_sub_cancel, Nat.div_one]
  refine wpAny_forIn_list _ (fun rest z s' => s' = s ∧ z = (none, ()) ∧ ∃ i, rest = List.range' i (e1.size - i) ∧ i ≤ e1.size) _ ?_ ?_ _ _ ⟨rfl, rfl, 0, by simp, Nat.zero_le _⟩
  · rintro x rest z s' ⟨rfl, rfl, i, hr, hi⟩
    have lt : i < e1.size := by
      by_cases c : i < e1.size
      · exact c
      · rw [Nat.sub_eq_zero_of_le (by omega)] at hr; simp at hr
    obtain ⟨rfl, hr2⟩ : x = i ∧ rest = List.range' (i + 1) (e1.size - (i + 1)) := by
      rw [show e1.size - i = (e1.size - (i + 1)) + 1 by omega, List.range'_succ] at hr
      injection hr with c1 c2
      exact ⟨c1, c2⟩
    have ltp : x < pa.length := by omega
    obtain ⟨k, v, ekv⟩ : ∃ k v, pa[x]? = some (k, v) := ⟨_, _, by rw [List.getElem?_eq_getElem ltp]⟩
    obtain ⟨c1, c2⟩ := p1.get? (i := x) (e := e1[x]) (k := k) (v := v) (by rw [Array.getElem?_toList]; exact Array.getElem?_eq_getElem lt) ekv
    obtain ⟨k', c3, c4⟩ := k1 e1[x] (Array.getElem_mem lt)
    rw [knd.inj _ _ _ c3 c1] at c4
    obtain ⟨y, hy, he⟩ := hit x k v ekv
    refine wpAny_bind (wpAny_dictEntries g1 d1 ?_)
    rw [Array.getElem?_eq_getElem lt]
    show wpAny _ _ (holding [e1[x].key, e1[x].val] _ >>= _) _ _ _
    rw [c4]
    refine wpAny_bind (wpAny_holding (wpAny_bind (wpAny_dictFind_of c1 g2 d2 k2 ?_)))
    cases hj : e2.findIdx? fun e => knd.is k e.key with
    | none =>
      have c5 : valueAt pb k = none := by rw [← look k, findBy_of_findIdx?, hj]
      rw [c5] at hy; cases hy
    | some j =>
      obtain ⟨lj, _, _⟩ := Array.findIdx?_eq_some_iff_getElem.mp hj
      have c5 : valueAt pb k = some e2[j].val := by
        rw [← look k, findBy_of_findIdx?, hj]
        simp [Array.getElem?_eq_getElem lj]
      rw [c5] at hy
      have c6 : e2[j].val = y := Option.some.inj hy
      refine wpAny_bind (wpAny_dictEntries g2 d2 ?_)
      rw [Array.getElem?_eq_getElem lj]
      rw [← c6, ← c2] at he
      refine wpAny_holding (he _ _ ?_)
      show wpAny _ _ (if (!true) = true then _ else _) _ _ _
      rw [if_neg (by decide)]
      refine wpAny_bind (wpAny_dictEpoch g1 d1 ?_)
      rw [if_neg (by simp)]
      exact wpAny_pure ⟨rfl, rfl, x + 1, hr2, lt⟩
  · rintro z s' ⟨rfl, rfl, i, hr, hi⟩
    exact wpAny_pure q
theorem RcM.dicts {κ : Type} [DecidableEq κ] {knd : KeyKind P w κ} {A : Around} {s : Shared} {a b : Addr} {pa pb : List (κ × Value)} (na : (a == sysModules) = false) (nb : (b == sysModules) = false)
    (Da : s.heap.DictOf knd a pa) (Db : s.heap.DictOf knd b pb) (hl : pa.length = pb.length) (hu : A.units < cLine) (hit : ∀ (i : Nat) k v, pa[i]? = some (k, v) → ∃ y, valueAt pb k = some y ∧ EqM P w A.in1 s v y) : RcM P w A s (.ref a) (.ref b) := fun E Q q => by
  refine wpAny_richCompare_same_room (op := .Eq) Da.typeIs Db.typeIs F.slot_dict_eq (wpAny_call_entry F.slot_dict_eq Da.typeIs F.entry_dict_eq ?_ (F.args_dict_eq_2 _ _)) hu
  show wpAny _ _ (Builtin.Dict.dictSlotArgs "__eq__" ⟨[.ref a, .ref b], []⟩ >>= _) _ _ s
  refine wpAny_bind ?_
  unfold Builtin.Dict.dictSlotArgs
  refine wpAny_bind (wpAny_notOrdered_dict Da.typeIs ?_)
  show wpAny _ _ (pure (Value.ref a, Value.ref b)) _ _ s
  refine wpAny_pure (wpAny_bind (wpAny_isInstance (T := "dict") Db.typeIs F.sub_dict_dict ?_))
  simp only [Bool.not_true, Bool.false_eq_true, if_false]
  refine wpAny_bind (wpAny_pure (wpAny_bind (wpAny_pure (wpAny_bind (eqm_pairs na nb Da Db hl hit ?_)))))
  exact wpAny_pure ⟨_, rfl, (fun x => nomatch x), q⟩
end
theorem valueAt_ix {κ : Type} [DecidableEq κ] : ∀ {vs : List (κ × Value)} {i : Nat} {k : κ} {y : Value}, (vs.map (·.1)).Nodup → vs[i]? = some (k, y) → valueAt vs k = some y
  | [], i, k, y, _, h => by simp at h
  | p :: vs, 0, k, y, _, h => by
    simp only [List.getElem?_cons_zero, Option.some.injEq] at h
    subst h
    simp [valueAt]
  | p :: vs, i + 1, k, y, nd, h => by
    rw [List.map_cons, List.nodup_cons] at nd
    have h' : vs[i]? = some (k, y) := by simpa using h
    have ne : ¬ p.1 = k := fun e => nd.1 (List.mem_map.mpr ⟨(k, y), List.mem_of_getElem? h', e.symm⟩)
    have ih := valueAt_ix nd.2 h'
    unfold valueAt at ih ⊢
    rw [List.find?_cons, decide_eq_false ne]
    exact ih
section
variable {X : Cx} {pins : List (Addr × Obj)} {σ : St} {H : Hp} {s : Shared}
theorem nodup_nK {ks : List (List Nat)} (h : ks.Nodup) : (ks.map nK).Nodup := by
  induction ks with
  | nil => exact List.nodup_nil
  | cons k r ih =>
    rw [List.nodup_cons] at h
    rw [List.map_cons, List.nodup_cons]
    refine ⟨fun hm => ?_, ih h.2⟩
    obtain ⟨k', hk, e⟩ := List.mem_map.mp hm
    exact h.1 (nK_inj e ▸ hk)
mutual
theorem eqm_tree (I : Inv X pins σ H s) : ∀ (t : T) {x y : V} {u v : Value} {A : Around}, Rep H x t → Rep H y t → T.pure t → RelV x u → RelV y v → A.units + T.dep t < cLine → EqM X.prog X.w A s u v
  | .non, x, y, u, v, A, hx, hy, _, rx, ry, _ => by
    cases (show x = .non from hx); cases (show y = .non from hy)
    exact .of_at (eqAt_V rx ry rfl rfl)
  | .bl b, x, y, u, v, A, hx, hy, _, rx, ry, _ => by
    cases (show x = .bl b from hx); cases (show y = .bl b from hy)
    have z := eqAt_V (A := A) (s := s) rx ry rfl rfl
    rw [show eqV (.bl b) (.bl b) = true from beq_self_eq_true b] at z
    exact .of_at z
  | .int b, x, y, u, v, A, hx, hy, _, rx, ry, _ => by
    cases (show x = .int b from hx); cases (show y = .int b from hy)
    have z := eqAt_V (A := A) (s := s) rx ry rfl rfl
    rw [show eqV (.int b) (.int b) = true from beq_self_eq_true b] at z
    exact .of_at z
  | .str b, x, y, u, v, A, hx, hy, _, rx, ry, _ => by
    cases (show x = .str (tx b) from hx); cases (show y = .str (tx b) from hy)
    have z := eqAt_V (A := A) (s := s) rx ry rfl rfl
    rw [show eqV (.str (tx b)) (.str (tx b)) = true from beq_self_eq_true _] at z
    exact .of_at z
  | .lst ts, x, y, u, v, A, ⟨a, xs, e1, ha, hxs⟩, ⟨b, ys, e2, hb, hys⟩, hp, rx, ry, hd => by
    subst e1 e2
    cases rx; cases ry
    obtain ⟨us, r1, pl1, _⟩ := I.list (SqL.of ha)
    obtain ⟨vs, r2, pl2, _⟩ := I.list (SqL.of hb)
    have n1 := r1.length; have n2 := r2.length; have m1 := hxs.length; have m2 := hys.length
    have hd' : A.units + (T.deps ts + 1) < cLine := hd
    refine EqM.refs fun _ => RcM.lists pl1.isList pl2.isList (by simp; omega) (by omega) fun j h1 h2 => ?_
    have := eqm_trees I ts (A := A.in1) hxs hys hp r1 r2 (by show A.units + 1 + _ < _; omega) j (by simpa using h1) (by simpa using h2)
    simpa using this
  | .dic ks ts, x, y, u, v, A, ⟨a, ps, e1, ha, hk1, hxs⟩, ⟨b, qs, e2, hb, hk2, hys⟩, hp, rx, ry, hd => by
    subst e1 e2
    cases rx; cases ry
    obtain ⟨nd, hp⟩ := hp
    obtain ⟨_, na, us, r1, D1⟩ := dk_of I.hok ha
    obtain ⟨_, nb, vs, r2, D2⟩ := dk_of I.hok hb
    have n1 := r1.length; have n2 := r2.length; have m1 := hxs.length; have m2 := hys.length
    rw [List.length_map] at m1 m2
    have hd' : A.units + (T.deps ts + 1) < cLine := hd
    have k1 := r1.keys; have k2 := r2.keys
    refine EqM.refs fun _ => RcM.dicts na nb D1 D2 (by omega) (by omega) fun i k v hi => ?_
    have li : i < us.length := (List.getElem?_eq_some_iff.mp hi).1
    have li2 : i < vs.length := by omega
    obtain ⟨k', y, hi2⟩ : ∃ k' y, vs[i]? = some (k', y) := ⟨_, _, by rw [List.getElem?_eq_getElem li2]⟩
    have ek : k' = k := by
      have e : us.map (·.1) = vs.map (·.1) := by rw [← k1, ← k2, hk1, hk2]
      have e3 := congrArg (fun l => l[i]?) e
      simp only [List.getElem?_map, hi, hi2, Option.map_some, Option.some.injEq] at e3
      exact e3.symm
    subst ek
    refine ⟨y, valueAt_ix (by rw [← k2, hk2]; exact nodup_nK nd) hi2, ?_⟩
    have := eqm_trees I ts (A := A.in1) hxs hys hp (kv_vals r1) (kv_vals r2) (by show A.units + 1 + _ < _; omega) i (by simpa using li) (by simpa using li2)
    rw [List.getElem?_eq_getElem li] at hi
    rw [List.getElem?_eq_getElem li2] at hi2
    simp only [List.getElem_map, Option.some.inj hi, Option.some.inj hi2] at this
    exact this
  | .tup ts, x, y, u, v, A, _, _, hp, _, _, _ => hp.elim
theorem eqm_trees (I : Inv X pins σ H s) : ∀ (ts : List T) {xs ys : List V} {us vs : List Value} {A : Around}, Reps H xs ts → Reps H ys ts → T.pures ts → Vals xs us → Vals ys vs → A.units + T.deps ts < cLine →
    ∀ (j : Nat) (h1 : j < us.length) (h2 : j < vs.length), EqM X.prog X.w A s us[j] vs[j]
  | [], xs, ys, us, vs, A, hx, hy, _, rx, ry, _, j, h1, h2 => by
    cases (show xs = [] from hx)
    cases rx
    simp at h1
  | t :: ts, xs, ys, us, vs, A, ⟨x, xr, e1, hx, hxr⟩, ⟨y, yr, e2, hy, hyr⟩, hp, rx, ry, hd, j, h1, h2 => by
    subst e1 e2
    cases rx with
    | cons rx1 rx2 =>
      cases ry with
      | cons ry1 ry2 =>
        have hd' : A.units + max (T.dep t) (T.deps ts) < cLine := hd
        have q1 := Nat.le_max_left (T.dep t) (T.deps ts)
        have q2 := Nat.le_max_right (T.dep t) (T.deps ts)
        cases j with
        | zero => exact eqm_tree I t hx hy hp.1 rx1 ry1 (by omega)
        | succ j => exact eqm_trees I ts hxr hyr hp.2 rx2 ry2 (by omega) j (by simpa using h1) (by simpa using h2)
end
def rEq0 (K : PySem.W.Frag) (neg : Bool) : R2 := fun x y H Q => ∃ a b xs, x = .ref a ∧ y = .ref b ∧ SqL K H a xs ∧ SqL K H b [] ∧ Q (.bl (if neg then !xs.isEmpty else xs.isEmpty)) H
theorem op_eq_0 (hu : X.A.units < cLine) : OpR X (compareOp .Eq) (rEq0 X.K false) := by
  intro pins s σ H x y v u Q I rx ry h
  obtain ⟨a, b, xs, rfl, rfl, ha, hb, q⟩ := h
  cases rx; cases ry
  obtain ⟨us, r1, pl1, _⟩ := I.list ha
  obtain ⟨vs, r2, pl2, _⟩ := I.list hb
  cases r2
  cases xs with
  | nil =>
    cases r1
    exact SeqAt.eq_listAt (e := fun _ => true) pl1.isList pl2.isList rfl hu (fun j h1 => absurd h1 (by simp)) ⟨.bl true, H, I, rfl, q⟩
  | cons x xs =>
    have n1 := r1.length
    exact SeqAt.eq_list_lengthsAt pl1.isList pl2.isList (by simp [← n1]) hu ⟨.bl false, H, I, rfl, q⟩
theorem op_ne_0 (hu : X.A.units < cLine) : OpR X (compareOp .NotEq) (rEq0 X.K true) := by
  intro pins s σ H x y v u Q I rx ry h
  obtain ⟨a, b, xs, rfl, rfl, ha, hb, q⟩ := h
  cases rx; cases ry
  obtain ⟨us, r1, pl1, _⟩ := I.list ha
  obtain ⟨vs, r2, pl2, _⟩ := I.list hb
  cases r2
  cases xs with
  | nil =>
    cases r1
    exact SeqAt.RcNeAt.lists (e := fun _ => true) pl1.isList pl2.isList rfl hu (fun j h1 => absurd h1 (by simp)) X.prog X.w X.xe _ ⟨.bl false, H, I, rfl, q⟩
  | cons x xs =>
    have n1 := r1.length
    exact SeqAt.RcNeAt.lists_lengths pl1.isList pl2.isList (by simp [← n1]) hu X.prog X.w X.xe _ ⟨.bl true, H, I, rfl, q⟩
end
end L2
namespace L2
open PySem PySem.Spec PyProof.Rows
mutual
def T.sz : T → Nat
  | .lst ts => T.szs ts + 1
  | .dic _ ts => T.szs ts + 1
  | .tup ts => T.szs ts + 1
  | .non => 1
  | .bl _ => 1
  | .int _ => 1
  | .str _ => 1
def T.szs : List T → Nat
  | [] => 0
  | t :: ts => T.sz t + T.szs ts
end
mutual
def Occ (H : Hp) (d : Addr) : V → T → Prop
  | v, .lst ts => v = .ref d ∨ ∃ a vs, v = .ref a ∧ H a = some (.lst vs) ∧ Occs H d vs ts
  | v, .dic _ ts => v = .ref d ∨ ∃ a ps, v = .ref a ∧ H a = some (.dK ps) ∧ Occs H d (ps.map (·.2)) ts
  | v, .tup ts => v = .ref d ∨ ∃ a vs, v = .ref a ∧ H a = some (.tup vs) ∧ Occs H d vs ts
  | _, .non => False
  | _, .bl _ => False
  | _, .int _ => False
  | _, .str _ => False
def Occs (H : Hp) (d : Addr) : List V → List T → Prop
  | v :: vs, t :: ts => Occ H d v t ∨ Occs H d vs ts
  | _, _ => False
end
mutual
theorem Rep.away {H : Hp} {d : Addr} {o : HO} : ∀ (x : V) (t : T), Rep H x t → ¬ Occ H d x t → Rep (upd H d o) x t
  | _, .non, h, _ => h
  | _, .bl _, h, _ => h
  | _, .int _, h, _ => h
  | _, .str _, h, _ => h
  | x, .lst ts, ⟨a, vs, e, ha, hs⟩, n => by
    have ne : a ≠ d := fun z => n (.inl (by rw [e, z]))
    exact ⟨a, vs, e, by rw [upd_ne ne]; exact ha, Reps.away vs ts hs fun z => n (.inr ⟨a, vs, e, ha, z⟩)⟩
  | x, .dic ks ts, ⟨a, ps, e, ha, hk, hs⟩, n => by
    have ne : a ≠ d := fun z => n (.inl (by rw [e, z]))
    exact ⟨a, ps, e, by rw [upd_ne ne]; exact ha, hk, Reps.away _ ts hs fun z => n (.inr ⟨a, ps, e, ha, z⟩)⟩
  | x, .tup ts, ⟨a, vs, e, ha, hs⟩, n => by
    have ne : a ≠ d := fun z => n (.inl (by rw [e, z]))
    exact ⟨a, vs, e, by rw [upd_ne ne]; exact ha, Reps.away vs ts hs fun z => n (.inr ⟨a, vs, e, ha, z⟩)⟩
theorem Reps.away {H : Hp} {d : Addr} {o : HO} : ∀ (xs : List V) (ts : List T), Reps H xs ts → ¬ Occs H d xs ts → Reps (upd H d o) xs ts
  | _, [], h, _ => h
  | _, t :: ts, ⟨x, xr, e, h1, h2⟩, n => by
    subst e
    exact ⟨x, xr, rfl, Rep.away x t h1 fun z => n (.inl z), Reps.away xr ts h2 fun z => n (.inr z)⟩
end
mutual
theorem Occ.sub {H : Hp} {d : Addr} : ∀ (x : V) (t : T), Rep H x t → Occ H d x t → ∃ t', Rep H (.ref d) t' ∧ T.sz t' ≤ T.sz t
  | _, .non, _, h => h.elim
  | _, .bl _, _, h => h.elim
  | _, .int _, _, h => h.elim
  | _, .str _, _, h => h.elim
  | x, .lst ts, hr, h => by
    rcases h with e | ⟨a, vs, e, ha, h⟩
    · exact ⟨.lst ts, e ▸ hr, Nat.le_refl _⟩
    · obtain ⟨a', vs', e', ha', hs⟩ := hr
      rw [e] at e'; cases e'
      rw [ha] at ha'; cases ha'
      obtain ⟨t', q, l⟩ := Occs.sub vs ts hs h
      exact ⟨t', q, Nat.le_succ_of_le l⟩
  | x, .dic ks ts, hr, h => by
    rcases h with e | ⟨a, vs, e, ha, h⟩
    · exact ⟨.dic ks ts, e ▸ hr, Nat.le_refl _⟩
    · obtain ⟨a', vs', e', ha', _, hs⟩ := hr
      rw [e] at e'; cases e'
      rw [ha] at ha'; cases ha'
      obtain ⟨t', q, l⟩ := Occs.sub _ ts hs h
      exact ⟨t', q, Nat.le_succ_of_le l⟩
  | x, .tup ts, hr, h => by
    rcases h with e | ⟨a, vs, e, ha, h⟩
    · exact ⟨.tup ts, e ▸ hr, Nat.le_refl _⟩
    · obtain ⟨a', vs', e', ha', hs⟩ := hr
      rw [e] at e'; cases e'
      rw [ha] at ha'; cases ha'
      obtain ⟨t', q, l⟩ := Occs.sub vs ts hs h
      exact ⟨t', q, Nat.le_succ_of_le l⟩
theorem Occs.sub {H : Hp} {d : Addr} : ∀ (xs : List V) (ts : List T), Reps H xs ts → Occs H d xs ts → ∃ t', Rep H (.ref d) t' ∧ T.sz t' ≤ T.szs ts
  | xs, [], _, h => by cases xs <;> exact h.elim
  | _, t :: ts, ⟨x, xr, e, h1, h2⟩, h => by
    subst e
    rcases h with h | h
    · obtain ⟨t', q, l⟩ := Occ.sub x t h1 h
      exact ⟨t', q, Nat.le_trans l (Nat.le_add_right _ _)⟩
    · obtain ⟨t', q, l⟩ := Occs.sub xr ts h2 h
      exact ⟨t', q, Nat.le_trans l (Nat.le_add_left _ _)⟩
end
theorem nKs_inj : ∀ {a b : List (List Nat)}, a.map nK = b.map nK → a = b
  | [], [], _ => rfl
  | [], _ :: _, h => by simp at h
  | _ :: _, [], h => by simp at h
  | x :: a, y :: b, h => by
    rw [List.map_cons, List.map_cons] at h
    injection h with h1 h2
    rw [nK_inj h1, nKs_inj h2]
mutual
theorem Rep.one {H : Hp} : ∀ (t : T) (x : V) (t' : T), Rep H x t → Rep H x t' → t = t'
  | .non, x, t', h, h' => by
    cases (show x = .non from h)
    cases t' with
    | non => rfl
    | bl b => cases (show V.non = .bl b from h')
    | int b => cases (show V.non = .int b from h')
    | str b => cases (show V.non = .str (tx b) from h')
    | lst ts => obtain ⟨a, vs, e, _⟩ := h'; cases e
    | dic ks ts => obtain ⟨a, vs, e, _⟩ := h'; cases e
    | tup ts => obtain ⟨a, vs, e, _⟩ := h'; cases e
  | .bl c, x, t', h, h' => by
    cases (show x = .bl c from h)
    cases t' with
    | non => cases (show V.bl c = .non from h')
    | bl b => cases (show V.bl c = .bl b from h'); rfl
    | int b => cases (show V.bl c = .int b from h')
    | str b => cases (show V.bl c = .str (tx b) from h')
    | lst ts => obtain ⟨a, vs, e, _⟩ := h'; cases e
    | dic ks ts => obtain ⟨a, vs, e, _⟩ := h'; cases e
    | tup ts => obtain ⟨a, vs, e, _⟩ := h'; cases e
  | .int c, x, t', h, h' => by
    cases (show x = .int c from h)
    cases t' with
    | non => cases (show V.int c = .non from h')
    | bl b => cases (show V.int c = .bl b from h')
    | int b => cases (show V.int c = .int b from h'); rfl
    | str b => cases (show V.int c = .str (tx b) from h')
    | lst ts => obtain ⟨a, vs, e, _⟩ := h'; cases e
    | dic ks ts => obtain ⟨a, vs, e, _⟩ := h'; cases e
    | tup ts => obtain ⟨a, vs, e, _⟩ := h'; cases e
  | .str c, x, t', h, h' => by
    cases (show x = .str (tx c) from h)
    cases t' with
    | non => cases (show V.str (tx c) = .non from h')
    | bl b => cases (show V.str (tx c) = .bl b from h')
    | int b => cases (show V.str (tx c) = .int b from h')
    | str b =>
      have e : V.str (tx c) = .str (tx b) := h'
      injection e with e
      have e2 : ts (tx c) = ts (tx b) := by rw [e]
      rw [ts_tx, ts_tx] at e2
      rw [e2]
    | lst ts => obtain ⟨a, vs, e, _⟩ := h'; cases e
    | dic ks ts => obtain ⟨a, vs, e, _⟩ := h'; cases e
    | tup ts => obtain ⟨a, vs, e, _⟩ := h'; cases e
  | .lst us, x, t', ⟨a, vs, e, ha, hs⟩, h' => by
    subst e
    cases t' with
    | non => cases (show V.ref a = .non from h')
    | bl b => cases (show V.ref a = .bl b from h')
    | int b => cases (show V.ref a = .int b from h')
    | str b => cases (show V.ref a = .str (tx b) from h')
    | lst ts =>
      obtain ⟨a', vs', e', ha', hs'⟩ := h'
      cases e'
      rw [ha] at ha'; cases ha'
      rw [Reps.one us vs ts hs hs']
    | dic ks ts => obtain ⟨a', vs', e', ha', _⟩ := h'; cases e'; rw [ha] at ha'; cases ha'
    | tup ts => obtain ⟨a', vs', e', ha', _⟩ := h'; cases e'; rw [ha] at ha'; cases ha'
  | .dic js us, x, t', ⟨a, vs, e, ha, hk, hs⟩, h' => by
    subst e
    cases t' with
    | non => cases (show V.ref a = .non from h')
    | bl b => cases (show V.ref a = .bl b from h')
    | int b => cases (show V.ref a = .int b from h')
    | str b => cases (show V.ref a = .str (tx b) from h')
    | lst ts => obtain ⟨a', vs', e', ha', _⟩ := h'; cases e'; rw [ha] at ha'; cases ha'
    | dic ks ts =>
      obtain ⟨a', vs', e', ha', hk', hs'⟩ := h'
      cases e'
      rw [ha] at ha'; cases ha'
      rw [Reps.one us _ ts hs hs', nKs_inj (hk.symm.trans hk')]
    | tup ts => obtain ⟨a', vs', e', ha', _⟩ := h'; cases e'; rw [ha] at ha'; cases ha'
  | .tup us, x, t', ⟨a, vs, e, ha, hs⟩, h' => by
    subst e
    cases t' with
    | non => cases (show V.ref a = .non from h')
    | bl b => cases (show V.ref a = .bl b from h')
    | int b => cases (show V.ref a = .int b from h')
    | str b => cases (show V.ref a = .str (tx b) from h')
    | lst ts => obtain ⟨a', vs', e', ha', _⟩ := h'; cases e'; rw [ha] at ha'; cases ha'
    | dic ks ts => obtain ⟨a', vs', e', ha', _⟩ := h'; cases e'; rw [ha] at ha'; cases ha'
    | tup ts =>
      obtain ⟨a', vs', e', ha', hs'⟩ := h'
      cases e'
      rw [ha] at ha'; cases ha'
      rw [Reps.one us vs ts hs hs']
theorem Reps.one {H : Hp} : ∀ (us : List T) (xs : List V) (ts : List T), Reps H xs us → Reps H xs ts → us = ts
  | [], xs, ts, h, h' => by
    cases (show xs = [] from h)
    cases ts with
    | nil => rfl
    | cons t ts => obtain ⟨x, r, e, _⟩ := h'; cases e
  | u :: us, xs, ts, ⟨x, r, e, h1, h2⟩, h' => by
    subst e
    cases ts with
    | nil => cases (show x :: r = [] from h')
    | cons t ts =>
      obtain ⟨x', r', e', h1', h2'⟩ := h'
      cases e'
      rw [Rep.one u x t h1 h1', Reps.one us r ts h2 h2']
end
theorem Reps.dic_away {H : Hp} {d : Addr} {o : HO} {ps : List (Key × V)} {ks : List (List Nat)} {ts : List T} (hd : H d = some (.dK ps)) (hk : ps.map (·.1) = ks.map nK) (h : Reps H (ps.map (·.2)) ts) : Reps (upd H d o) (ps.map (·.2)) ts := by
  refine Reps.away _ ts h fun z => ?_
  obtain ⟨t', q, l⟩ := Occs.sub _ ts h z
  have e := Rep.one (.dic ks ts) (.ref d) t' ⟨d, ps, rfl, hd, hk, h⟩ q
  rw [← e] at l
  exact absurd l (Nat.not_le_of_lt (Nat.lt_succ_self _))
theorem valV_ix : ∀ {vs : List (Key × V)} {i : Nat} {k : Key} {y : V}, (vs.map (·.1)).Nodup → vs[i]? = some (k, y) → valV vs k = some y
  | [], i, k, y, _, h => by simp at h
  | p :: vs, 0, k, y, _, h => by
    simp only [List.getElem?_cons_zero, Option.some.injEq] at h
    subst h
    exact valV_pos rfl
  | p :: vs, i + 1, k, y, nd, h => by
    rw [List.map_cons, List.nodup_cons] at nd
    have h' : vs[i]? = some (k, y) := by simpa using h
    have ne : ¬ p.1 = k := fun e => nd.1 (List.mem_map.mpr ⟨(k, y), List.mem_of_getElem? h', e.symm⟩)
    rw [valV_neg ne]
    exact valV_ix nd.2 h'
theorem mergeK_nodup : ∀ (more kvs : List (Key × V)), ((kvs ++ more).map (·.1)).Nodup → mergeK kvs more = kvs ++ more
  | [], kvs, _ => by show kvs = _; rw [List.append_nil]
  | p :: r, kvs, h => by
    show mergeK (putK kvs p.1 p.2) r = _
    have hn : valV kvs p.1 = none := by
      cases e : valV kvs p.1 with
      | none => rfl
      | some v =>
        have hm := valV_in e
        rw [List.map_append, List.nodup_append] at h
        exact absurd rfl (h.2.2 p.1 hm p.1 (by simp))
    rw [putK_new _ hn, mergeK_nodup r (kvs ++ [(p.1, p.2)]) (by rw [List.append_assoc]; exact h), List.append_assoc]
    rfl
theorem tyS_tup {H : Hp} {a : Addr} {xs : List V} (h : H a = some (.tup xs)) : tyS H (.ref a) = some "tuple" := by
  show (match H a with | some (.lst _) => some "list" | some (.tup _) => some "tuple" | some (.dK _) => some "dict" | _ => none) = _; rw [h]
theorem tyS_lst {H : Hp} {a : Addr} {xs : List V} (h : H a = some (.lst xs)) : tyS H (.ref a) = some "list" := by
  show (match H a with | some (.lst _) => some "list" | some (.tup _) => some "tuple" | some (.dK _) => some "dict" | _ => none) = _; rw [h]
theorem tyS_dK {H : Hp} {a : Addr} {xs : List (Key × V)} (h : H a = some (.dK xs)) : tyS H (.ref a) = some "dict" := by
  show (match H a with | some (.lst _) => some "list" | some (.tup _) => some "tuple" | some (.dK _) => some "dict" | _ => none) = _; rw [h]
theorem tyS_same {H H' : Hp} (g : Same H H') {v : V} {t : String} (h : tyS H v = some t) : tyS H' v = some t := by
  cases v with
  | ref a =>
    have h' : (match H a with | some (.lst _) => some "list" | some (.tup _) => some "tuple" | some (.dK _) => some "dict" | _ => none) = some t := h
    cases e : H a with
    | none => rw [e] at h'; cases h'
    | some o =>
      rw [e] at h'
      cases o with
      | lst xs => cases h'; exact tyS_lst (g _ _ e)
      | tup xs => cases h'; exact tyS_tup (g _ _ e)
      | dK kvs => cases h'; exact tyS_dK (g _ _ e)
      | _ => cases h'
  | _ => exact h
theorem Same.put {H H' : Hp} {p : Addr} (g : Same H H') (h : H p = none) (o : HO) : Same H (upd H' p o) := fun b u e => by
  rw [upd_ne (ne_of_none e h)]; exact g b u e
theorem T.pures_mem {t : T} : ∀ {ts : List T}, T.pures ts → t ∈ ts → T.pure t
  | [], _, h => nomatch h
  | u :: ts, h, hm => (List.mem_cons.mp hm).elim (fun e => e ▸ h.1) (T.pures_mem h.2)
theorem take_succ_of {α : Type} {l : List α} {i : Nat} {a : α} (h : l[i]? = some a) : l.take (i + 1) = l.take i ++ [a] := by rw [List.take_add_one, h]; rfl
theorem T.sz_pos : ∀ t : T, 1 ≤ T.sz t
  | .non => Nat.le_refl _
  | .bl _ => Nat.le_refl _
  | .int _ => Nat.le_refl _
  | .str _ => Nat.le_refl _
  | .lst _ => Nat.le_add_left _ _
  | .dic _ _ => Nat.le_add_left _ _
  | .tup _ => Nat.le_add_left _ _
theorem T.szs_len : ∀ ts : List T, ts.length ≤ T.szs ts
  | [] => Nat.le_refl _
  | t :: ts => by
    have a := T.sz_pos t
    have b := T.szs_len ts
    show ts.length + 1 ≤ T.sz t + T.szs ts
    omega
theorem T.szs_le {t : T} : ∀ {ts : List T}, t ∈ ts → T.sz t ≤ T.szs ts
  | [], h => nomatch h
  | u :: ts, h => by
    show T.sz t ≤ T.sz u + T.szs ts
    rcases List.mem_cons.mp h with e | e
    · subst e; exact Nat.le_add_right _ _
    · exact Nat.le_trans (T.szs_le e) (Nat.le_add_left _ _)
theorem hold_cases : ∀ (t : T), T.pure t → ((isSub (tyT t) "list" || isSub (tyT t) "dict") = false ∧ T.dep t = 0 ∧ T.sz t = 1) ∨
    ∃ us, (t = .lst us ∨ ∃ ks, t = .dic ks us) ∧ T.pures us ∧ T.dep t = T.deps us + 1 ∧ T.sz t = T.szs us + 1 ∧ (isSub (tyT t) "list" || isSub (tyT t) "dict") = true
  | .non, _ => .inl ⟨rfl, rfl, rfl⟩
  | .bl _, _ => .inl ⟨rfl, rfl, rfl⟩
  | .int _, _ => .inl ⟨rfl, rfl, rfl⟩
  | .str _, _ => .inl ⟨rfl, rfl, rfl⟩
  | .lst us, h => .inr ⟨us, .inl rfl, h, rfl, rfl, rfl⟩
  | .dic ks us, h => .inr ⟨us, .inr ⟨ks, rfl⟩, h.2, rfl, rfl, rfl⟩
  | .tup _, h => h.elim
mutual
theorem Rep.plain {H H' : Hp} (g : ∀ a u, (∀ o v, u ≠ HO.frz o v) → H a = some u → H' a = some u) : ∀ (x : V) (t : T), Rep H x t → Rep H' x t
  | _, .non, h => h
  | _, .bl _, h => h
  | _, .int _, h => h
  | _, .str _, h => h
  | _, .lst ts, ⟨a, vs, h1, h2, h3⟩ => ⟨a, vs, h1, g _ _ (by intro o v z; cases z) h2, Reps.plain g vs ts h3⟩
  | _, .dic ks ts, ⟨a, ps, h1, h2, h3, h4⟩ => ⟨a, ps, h1, g _ _ (by intro o v z; cases z) h2, h3, Reps.plain g _ ts h4⟩
  | _, .tup ts, ⟨a, vs, h1, h2, h3⟩ => ⟨a, vs, h1, g _ _ (by intro o v z; cases z) h2, Reps.plain g vs ts h3⟩
theorem Reps.plain {H H' : Hp} (g : ∀ a u, (∀ o v, u ≠ HO.frz o v) → H a = some u → H' a = some u) : ∀ (vs : List V) (ts : List T), Reps H vs ts → Reps H' vs ts
  | _, [], h => h
  | _, t :: ts, ⟨v, r, h1, h2, h3⟩ => ⟨v, r, h1, Rep.plain g v t h2, Reps.plain g r ts h3⟩
end
theorem Reps.thaw {H H' : Hp} {vs : List V} {ts : List T} (h : Reps H' vs ts) : Reps (L2.thaw H H') vs ts := Reps.plain (fun _ _ n e => thaw_of e n) vs ts h
theorem thaw_walk {H H' : Hp} {d : Addr} {o : Obj} {ps : List (Key × V)} (hd : H d = some (.dK ps)) (g : Same (upd H d (.frz o (.dK ps))) H') : Same H (L2.thaw H H') := thaw_same fun b u e => by
  by_cases hb : b = d
  · subst hb
    rw [hd] at e; cases e
    exact .inr ⟨⟨o, g _ _ upd_same⟩, by intro o v z; cases z⟩
  · exact .inl (g _ _ (by rw [upd_ne hb]; exact e))
def T.kids : T → List T
  | .lst us => us
  | .dic _ us => us
  | _ => []
def T.next (ts : List T) : List T := (ts.map T.kids).flatten
theorem Reps.append {H : Hp} {ys : List V} {vs : List T} (h' : Reps H ys vs) : ∀ {xs : List V} {us : List T}, Reps H xs us → Reps H (xs ++ ys) (us ++ vs)
  | xs, [], h => by
    cases (show xs = [] from h)
    exact h'
  | _, u :: us, ⟨x, r, e, h1, h2⟩ => by
    subst e
    exact ⟨x, r ++ ys, rfl, h1, Reps.append h' h2⟩
def T.holds (t : T) : Bool := isSub (tyT t) "list" || isSub (tyT t) "dict"
def tMid (t : TS) : TS := fun D σ H => ∃ M : St → Hp → Prop, t { D with nx := M } σ H ∧ ∀ σ' H', M σ' H' → D.nx σ' H'
theorem ps_mid {X : Cx} {st : Stmt} {t : TS} (h : PS X st t) : PS X st (tMid t) := by
  intro pins s σ H D I ⟨M, q, m⟩
  refine thn (h pins s σ H _ I q) fun f s1 z => ?_
  cases f with
  | next => obtain ⟨σ', H', J, q⟩ := z; exact ⟨σ', H', J, m _ _ q⟩
  | brk => exact z
  | cont => exact z
  | ret u => exact z
end L2
namespace L2
open PySem PySem.Spec PyProof.Rows
section
variable {X : Cx}
theorem strs_of {P : Program} {w : World} : ∀ {vs : List (Key × Value)} {ks : List Str} {us : List Value}, vs.map (·.1) = ks.map Sum.inr → us.length = vs.length → (∀ (j : Nat) (v : Value), us[j]? = some v → ∃ k x, vs[j]? = some (k, x) ∧ (mixKind P w).is k v = true) → StrsAre us ks
  | [], [], [], _, _, _ => .nil
  | p :: vs, k :: ks, u :: us, e, hl, h => by
    rw [List.map_cons, List.map_cons] at e
    injection e with e1 e2
    obtain ⟨k', x, e3, hk⟩ := h 0 u rfl
    simp only [List.getElem?_cons_zero, Option.some.injEq] at e3
    rw [e3] at e1
    have e4 : k' = Sum.inr k := e1
    rw [e4] at hk
    obtain ⟨t, et⟩ := (show ∃ t, u = Value.str k t from rel_key hk)
    subst et
    exact .cons k t (strs_of e2 (by simpa using hl) fun j v hv => by simpa using h (j + 1) v (by simpa using hv))
  | [], _ :: _, _, e, _, _ => by simp at e
  | _ :: _, [], _, e, _, _ => by simp at e
  | [], [], _ :: _, _, hl, _ => by simp at hl
  | _ :: _, _ :: _, [], _, hl, _ => by simp at hl
theorem strVals : ∀ {us : List Value} {ss : List Str}, StrsAre us ss → Vals (ss.map V.str) us
  | _, _, .nil => .nil
  | _, _, .cons x t r => .cons ⟨t, rfl⟩ (strVals r)
theorem call_sorted_d (hc : X.calm = true) : CallR X (.builtin "sorted") (fun xs H Q => ∃ (p : Addr) (kvs : List (Key × V)) (ks : List Str), xs = [.ref p] ∧ Rd H p (.dK kvs) ∧ kvs.map (·.1) = ks.map Sum.inr ∧ ks.length < 64 ∧
    ∀ l ss, H l = none → ss.Perm ks → sortedS ss = true → Q (.ref l) (upd H l (.lst (ss.map V.str)))) := by
  intro pins s σ H xs us Q I r h
  obtain ⟨p, kvs, ks, rfl, hq, hk, h64, q⟩ := h
  obtain ⟨u, rfl, rx⟩ := vals1 r
  cases rx
  obtain ⟨z, hd, vs, rel, dd⟩ := dk_rd I.hok hq
  obtain ⟨ep, hat⟩ := dd.dictAt
  have hl := rel.length
  refine PySem.Calls.call_function_entry kind_sorted plain_sorted entry_sorted (args_sorted1 _) ?_
  unfold Builtin.«sorted»
  refine wpAny_bind (m := checkCount "sorted" 1 1 _) (wpAny_pure ?_)
  refine wpAny_bind (PySem.W.kdu_collect (A := X.A.in1) (PySem.W.kdl_dict (knd := mixKind X.prog X.w) (kvs := vs) (ep := ep) hd) (show X.A.in1.handled = none from I.ok.hd hc) hat (by omega) fun h' tk acc hkp hacc => ?_)
  have hlen : acc.toList.length = vs.length := by rw [Array.length_toList]; exact hacc.1
  have hS : StrsAre acc.toList ks := strs_of (P := X.prog) (w := X.w) (by rw [← rel.keys]; exact hk) hlen fun j v e => hacc.2 j v (by rw [← Array.getElem?_toList]; exact e)
  have hkl : ks.length = vs.length := by
    have := congrArg List.length hk
    simp only [List.length_map] at this
    omega
  refine wpAny_bind (wpAny_newList ?_ (by rw [hlen]; omega))
  have hoL : (h'.push (seqObj "list" acc.toList.toArray 0)).get? h'.objs.size = some (seqObj "list" acc.toList.toArray 0) := Heap.get?_push_size _ rfl
  refine wpAny_bind (wpAny_holding (wpAny_call_entry slot_list_sort ⟨_, hoL, rfl⟩ entry_list_sort (list_sort_treeK strKind_oneLt hoL hS.keysOf (fun v₁ v₂ rest e => keyKind_strs (by rw [← e]; exact hS)) (by omega) fun st' a1 a2 => ⟨_, rfl, ?_⟩) (args_list_sort _)))
  refine wpAny_pure ⟨_, rfl, ?_⟩
  obtain ⟨ss', h1, h2, h3⟩ := sorted_out_str hS a1 a2
  have I' : Inv X pins σ H { s with heap := h', toks := tk } := I.kept (t' := tk) hkp
  have hL : h'.objs.size < (h'.push (seqObj "list" acc.toList.toArray 0)).objs.size := Heap.lt_size hoL
  obtain ⟨e, he⟩ := sortedHeap_at (out := (arrOf st').map (·.2)) hoL
  have rS : Vals (ss'.map V.str) ((arrOf st').map (·.2)).toList := strVals h1
  have hp := h2.length_eq
  refine ⟨.ref h'.objs.size, _, I'.laid (a := h'.objs.size) (t' := tk) (h' := sortedHeap (h'.push (seqObj "list" acc.toList.toArray 0)) h'.objs.size acc.toList ((arrOf st').map (·.2))) (fun b u eb => ?_) (Nat.le_refl _) (o := .lst (ss'.map V.str)) ?_, rfl, q _ ss' (I'.hok.fresh (Nat.le_refl _)) h2 h3⟩
  · have lt : b < h'.objs.size := Heap.lt_size eb
    exact (sortedHeap_old (Nat.ne_of_lt lt) (Nat.lt_trans lt hL)).trans (Heap.get?_push_of_some _ eb)
  · exact ⟨by rw [List.length_map]; omega, _, e, rS, by rw [Array.toArray_toList]; exact he⟩
end
end L2
namespace L2
open PySem PySem.Spec PyProof.Rows
section
variable {X : Cx}
def rIndex (K : PySem.W.Frag) : V → List V → Hp → VK → Prop := fun x vs H Q => ∃ (p : Addr) (ss : List Str) (k : Str) (j : Nat), x = .ref p ∧ vs = [.str k] ∧ SqL K H p (ss.map V.str) ∧ ss[j]? = some k ∧ (∀ i, i < j → ss[i]? ≠ some k) ∧ j < 1000000 ∧ Q (.int j) H
theorem strOf_ix {ss : List Str} {us : List Value} (r : Vals (ss.map V.str) us) {j : Nat} (h : j < us.length) : ∃ z t, ss[j]? = some z ∧ us[j] = Value.str z t := by
  have hl := r.length
  rw [List.length_map] at hl
  obtain ⟨u, hu, t, ht⟩ := r.get (i := j) (x := .str ss[j]) (by simp [hl, h])
  rw [List.getElem?_eq_getElem h] at hu
  exact ⟨ss[j], t, by simp [hl, h], (Option.some.inj hu).trans ht⟩
def isStrK (k : Str) : Value → Bool
  | .str z _ => z == k
  | _ => false
theorem mt_index : MtR X "list.index" (rIndex X.K) := by
  intro pins s σ H x vs v us Q I rx rv h
  obtain ⟨p, ss, k, j, rfl, rfl, hq, hj, hno, hsm, q⟩ := h
  cases rx
  obtain ⟨u, rfl, t, rfl⟩ := rv.one
  obtain ⟨its, r, pl, _⟩ := I.list hq
  have hl := r.length
  rw [List.length_map] at hl
  have hjl : j < ss.length := (List.getElem?_eq_some_iff.mp hj).1
  obtain ⟨⟨cls, dd, data, sl⟩, ho, hc, n, hd⟩ := id pl.isList
  simp only at hc hd
  subst hc hd
  refine call_meets PySem.F.slot_list_index ⟨_, ho, rfl⟩ PySem.F.entry_list_index (PySem.F.args_list_index_2 _ _) (SeqAt.list_indexAt p its.toArray n dd sl (.str k t) (isStrK k) j (by simp; omega) (by omega) ?_ ?_) ⟨ho, fun y hy => ?_, ⟨.int j, H, I.tok _, ⟨_, rfl⟩, q⟩⟩
  · obtain ⟨z, t', e1, e2⟩ := strOf_ix r (j := j) (by omega)
    rw [hj] at e1; cases e1
    show isStrK k its[j] = true
    rw [e2]; exact beq_self_eq_true k
  · intro m hm hlt
    obtain ⟨z, t', e1, e2⟩ := strOf_ix r (j := m) (by simpa using hm)
    show isStrK k its[m] = false
    rw [e2]
    have ne : z ≠ k := fun e => hno m hlt (by rw [e1, e])
    exact beq_eq_false_iff_ne.mpr ne
  · obtain ⟨m, hm, e⟩ := Array.mem_iff_getElem.mp hy
    obtain ⟨z, t', e1, e2⟩ := strOf_ix r (j := m) (by simpa using hm)
    have e3 : y = Value.str z t' := by rw [← e]; simpa using e2
    subst e3
    exact SeqAt.EqAt.str_str z t' k t
def gtV : V → V → Option Bool
  | .int a, .int b => some (decide (b < a))
  | .bl a, .bl b => some (a && !b)
  | .str a, .str b => some (decide (ts b < ts a))
  | _, _ => none
def rGtA : R2 := fun x y H Q => ∃ b, gtV x y = some b ∧ Q (.bl b) H
def rLtA : R2 := fun x y H Q => ∃ b, gtV y x = some b ∧ Q (.bl b) H
theorem op_gt_A : OpR X (compareOp .Gt) rGtA := by
  intro pins s σ H x y v u Q I rx ry h
  obtain ⟨b, hb, q⟩ := h
  cases x <;> cases y <;> first | (cases hb; done) | skip
  · rename_i a c
    cases hb
    cases (show v = Value.bool a from rx); cases (show u = Value.bool c from ry)
    refine gt_bool (fin_bl I q ?_)
    cases a <;> cases c <;> rfl
  · rename_i a c
    cases hb
    obtain ⟨t, rfl⟩ := rx
    obtain ⟨t', rfl⟩ := ry
    exact PyProof.Rows.gt_int (fin_bl I q rfl)
  · rename_i a c
    cases hb
    obtain ⟨t, rfl⟩ := rx
    obtain ⟨t', rfl⟩ := ry
    exact PySem.P.gt_str (fin_bl I q rfl)
theorem op_lt_A : OpR X (compareOp .Lt) rLtA := by
  intro pins s σ H x y v u Q I rx ry h
  obtain ⟨b, hb, q⟩ := h
  cases x <;> cases y <;> first | (cases hb; done) | skip
  · rename_i a c
    cases hb
    cases (show v = Value.bool a from rx); cases (show u = Value.bool c from ry)
    refine lt_bool (fin_bl I q ?_)
    cases a <;> cases c <;> rfl
  · rename_i a c
    cases hb
    obtain ⟨t, rfl⟩ := rx
    obtain ⟨t', rfl⟩ := ry
    exact PyProof.Rows.lt_int (fin_bl I q rfl)
  · rename_i a c
    cases hb
    obtain ⟨t, rfl⟩ := rx
    obtain ⟨t', rfl⟩ := ry
    exact PyProof.Rows.lt_str (fin_bl I q rfl)
end
end L2
namespace L2
open PySem PySem.Spec PyProof.Rows
def leK (a b : List Nat) : Bool := !decide (b < a)
theorem leK_trans (a b c : List Nat) (h1 : leK a b = true) (h2 : leK b c = true) : leK a c = true := by
  have x1 : a ≤ b := by simpa [leK] using h1
  have x2 : b ≤ c := by simpa [leK] using h2
  have := List.le_trans x1 x2
  simpa [leK] using this
theorem leK_total (a b : List Nat) : (leK a b || leK b a) = true := by
  rcases List.le_total a b with h | h
  · have : leK a b = true := by simpa [leK] using h
    rw [this]; rfl
  · have : leK b a = true := by simpa [leK] using h
    rw [this, Bool.or_true]
theorem leK_anti {a b : List Nat} (h1 : leK a b = true) (h2 : leK b a = true) : a = b := by
  have x1 : a ≤ b := by simpa [leK] using h1
  have x2 : b ≤ a := by simpa [leK] using h2
  exact List.le_antisymm x1 x2
def sortK (ks : List (List Nat)) : List (List Nat) := ks.mergeSort leK
theorem sortK_perm (ks : List (List Nat)) : (sortK ks).Perm ks := List.mergeSort_perm ks leK
theorem sortK_sorted (ks : List (List Nat)) : (sortK ks).Pairwise (fun a b => leK a b = true) := List.pairwise_mergeSort leK_trans leK_total ks
theorem sorted_one : ∀ {a b : List (List Nat)}, a.Perm b → a.Pairwise (fun a b => leK a b = true) → b.Pairwise (fun a b => leK a b = true) → a = b
  | [], b, p, _, _ => (List.nil_perm.mp p).symm
  | x :: a, [], p, _, _ => absurd p.length_eq (by simp)
  | x :: a, y :: b, p, h1, h2 => by
    rw [List.pairwise_cons] at h1 h2
    have hx : x ∈ y :: b := p.mem_iff.mp List.mem_cons_self
    have hy : y ∈ x :: a := p.mem_iff.mpr List.mem_cons_self
    have e : x = y := by
      rcases List.mem_cons.mp hx with z | z
      · exact z
      · rcases List.mem_cons.mp hy with z' | z'
        · exact z'.symm
        · exact leK_anti (h1.1 y z') (h2.1 x z)
    subst e
    rw [sorted_one p.cons_inv h1.2 h2.2]
theorem rising_pair : ∀ (p : Str) (l : List Str), risingS p l = true → ((p :: l).map ts).Pairwise (fun a b => leK a b = true)
  | p, [], _ => List.pairwise_singleton _ _
  | p, x :: r, h => by
    have h' : (!ltCps x.cps.toList p.cps.toList && risingS x r) = true := h
    rw [Bool.and_eq_true] at h'
    have ih := rising_pair x r h'.2
    have hpx : leK (ts p) (ts x) = true := by
      have := h'.1
      rw [ltCps_eq] at this
      exact this
    rw [List.map_cons, List.pairwise_cons]
    refine ⟨fun y hy => ?_, ih⟩
    rw [List.map_cons] at hy ih
    rw [List.pairwise_cons] at ih
    rcases List.mem_cons.mp hy with z | z
    · rw [z]; exact hpx
    · exact leK_trans _ _ _ hpx (ih.1 y z)
theorem sortedS_pair {l : List Str} (h : sortedS l = true) : (l.map ts).Pairwise (fun a b => leK a b = true) := by
  cases l with
  | nil => exact List.Pairwise.nil
  | cons p r => exact rising_pair p r h
theorem sorted_names {ss : List Str} {ks : List (List Nat)} (hp : ss.Perm (ks.map tx)) (hs : sortedS ss = true) : ss = (sortK ks).map tx := by
  have e : ss.map ts = sortK ks := by
    refine sorted_one ?_ (sortedS_pair hs) (sortK_sorted ks)
    have z := hp.map ts
    rw [List.map_map] at z
    have e2 : ks.map (ts ∘ tx) = ks := by
      conv => rhs; rw [← List.map_id ks]
      exact List.map_congr_left fun k _ => ts_tx k
    rw [e2] at z
    exact z.trans (sortK_perm ks).symm
  have e3 : (ss.map ts).map tx = ss := by
    rw [List.map_map]
    conv => rhs; rw [← List.map_id ss]
    exact List.map_congr_left fun k _ => tx_ts k
  rw [← e3, e]
inductive C where
  | non | bl (b : Bool) | int (i : Int) | str (x : List Nat) | row (xs : List C) | rcd (xs : List C) | odd
def C.ord : C → Nat
  | .non => 0
  | .bl _ => 1
  | .int _ => 2
  | .str _ => 3
  | .row _ => 4
  | .rcd _ => 5
  | .odd => 6
def lookC (k : List Nat) : List (List Nat) → List C → C
  | k' :: ks, c :: cs => if k' = k then c else lookC k ks cs
  | _, _ => .odd
def lookT (k : List Nat) : List (List Nat) → List T → T
  | k' :: ks, c :: cs => if k' = k then c else lookT k ks cs
  | _, _ => .tup []
mutual
def canon : T → C
  | .non => .non
  | .bl b => .bl b
  | .int i => .int i
  | .str x => .str x
  | .lst ts => .row (canons ts)
  | .dic ks ts => .rcd ((sortK ks).map fun k => .row [.str k, lookC k ks (canons ts)])
  | .tup _ => .odd
def canons : List T → List C
  | [] => []
  | t :: ts => canon t :: canons ts
end
theorem canons_map : ∀ (ts : List T), canons ts = ts.map canon
  | [] => rfl
  | t :: ts => by rw [List.map_cons, ← canons_map ts]; rfl
theorem look_canon (k : List Nat) : ∀ (ks : List (List Nat)) (ts : List T), canon (lookT k ks ts) = lookC k ks (canons ts)
  | [], _ => rfl
  | _ :: _, [] => rfl
  | k' :: ks, t :: ts => by
    show canon (if k' = k then t else lookT k ks ts) = if k' = k then canon t else lookC k ks (canons ts)
    split
    · rfl
    · exact look_canon k ks ts
def sgI (a b : Int) : Int := (if b < a then 1 else 0) - (if a < b then 1 else 0)
def cmpS (a b : List Nat) : Int := (if b < a then 1 else 0) - (if a < b then 1 else 0)
mutual
def cmpC : C → C → Int
  | .non, .non => 0
  | .bl a, .bl b => sgI (if a then 1 else 0) (if b then 1 else 0)
  | .int a, .int b => sgI a b
  | .str a, .str b => cmpS a b
  | .row a, .row b => cmpCs a b
  | .rcd a, .rcd b => cmpCs a b
  | a, b => sgI a.ord b.ord
def cmpCs : List C → List C → Int
  | [], [] => 0
  | [], _ :: _ => -1
  | _ :: _, [] => 1
  | x :: xs, y :: ys => if cmpC x y = 0 then cmpCs xs ys else cmpC x y
end
mutual
def T.wt : T → Nat
  | .lst ts => T.wts ts + 1
  | .dic _ ts => T.wts ts + 2
  | .tup ts => T.wts ts + 1
  | .non => 0
  | .bl _ => 0
  | .int _ => 0
  | .str _ => 0
def T.wts : List T → Nat
  | [] => 0
  | t :: ts => max (T.wt t) (T.wts ts)
end
theorem T.wts_le {t : T} : ∀ {ts : List T}, t ∈ ts → T.wt t ≤ T.wts ts
  | [], h => nomatch h
  | u :: ts, h => by
    show T.wt t ≤ max (T.wt u) (T.wts ts)
    rcases List.mem_cons.mp h with e | e
    · subst e; exact Nat.le_max_left _ _
    · exact Nat.le_trans (T.wts_le e) (Nat.le_max_right _ _)
mutual
def T.few : T → Prop
  | .dic ks ts => ks.Nodup ∧ ks.length < 64 ∧ ks.length = ts.length ∧ T.fews ts
  | .lst ts => ts.length ≤ 100000 ∧ T.fews ts
  | .tup _ => False
  | .non => True
  | .bl _ => True
  | .int _ => True
  | .str _ => True
def T.fews : List T → Prop
  | [] => True
  | t :: ts => T.few t ∧ T.fews ts
end
theorem T.fews_mem {t : T} : ∀ {ts : List T}, T.fews ts → t ∈ ts → T.few t
  | [], _, h => nomatch h
  | u :: ts, h, hm => (List.mem_cons.mp hm).elim (fun e => e ▸ h.1) (T.fews_mem h.2)
theorem lookT_ix {k : List Nat} : ∀ {ks : List (List Nat)} {ts : List T} {i : Nat} {t : T}, ks.Nodup → ks[i]? = some k → ts[i]? = some t → lookT k ks ts = t
  | [], _, i, _, _, h, _ => by simp at h
  | k' :: ks, [], i, _, _, _, h => by simp at h
  | k' :: ks, u :: ts, 0, t, nd, h1, h2 => by
    simp only [List.getElem?_cons_zero, Option.some.injEq] at h1 h2
    subst h1 h2
    exact if_pos rfl
  | k' :: ks, u :: ts, i + 1, t, nd, h1, h2 => by
    rw [List.nodup_cons] at nd
    have h1' : ks[i]? = some k := by simpa using h1
    have ne : ¬ k' = k := fun e => nd.1 (e ▸ List.mem_of_getElem? h1')
    show (if k' = k then u else lookT k ks ts) = t
    rw [if_neg ne]
    exact lookT_ix nd.2 h1' (by simpa using h2)
theorem lookT_mem {k : List Nat} : ∀ {ks : List (List Nat)} {ts : List T}, k ∈ ks → ks.length = ts.length → lookT k ks ts ∈ ts
  | [], _, h, _ => nomatch h
  | k' :: ks, [], _, h => by simp at h
  | k' :: ks, u :: ts, h, hl => by
    show (if k' = k then u else lookT k ks ts) ∈ u :: ts
    split
    · exact List.mem_cons_self
    · rename_i ne
      rcases List.mem_cons.mp h with e | e
      · exact absurd e.symm ne
      · exact List.mem_cons_of_mem _ (lookT_mem e (by simpa using hl))
theorem cmpC_ord : ∀ (a b : C), a.ord ≠ b.ord → cmpC a b = sgI a.ord b.ord := by
  intro a b h
  cases a <;> cases b <;> first | exact absurd rfl h | (unfold cmpC; rfl)
theorem cmpCs_cons (x y : C) (xs ys : List C) : cmpCs (x :: xs) (y :: ys) = if cmpC x y = 0 then cmpCs xs ys else cmpC x y := by
  rw [cmpCs]
theorem cmpCs_drop {xs ys : List C} {i : Nat} {x y : C} (hx : xs[i]? = some x) (hy : ys[i]? = some y) : cmpCs (xs.drop i) (ys.drop i) = if cmpC x y = 0 then cmpCs (xs.drop (i + 1)) (ys.drop (i + 1)) else cmpC x y := by
  obtain ⟨h1, e1⟩ := List.getElem?_eq_some_iff.mp hx
  obtain ⟨h2, e2⟩ := List.getElem?_eq_some_iff.mp hy
  rw [List.drop_eq_getElem_cons h1, List.drop_eq_getElem_cons h2, e1, e2, cmpCs_cons]
theorem cmpCs_end {xs ys : List C} {m : Nat} (h : m = min xs.length ys.length) : cmpCs (xs.drop m) (ys.drop m) = sgI xs.length ys.length := by
  unfold sgI
  rcases Nat.lt_trichotomy xs.length ys.length with g | g | g
  · have e : m = xs.length := by omega
    rw [List.drop_of_length_le (Nat.le_of_eq e.symm), List.drop_eq_getElem_cons (show m < ys.length by omega), cmpCs, if_neg (by omega), if_pos (by omega)]
    rfl
  · have e : m = xs.length := by omega
    rw [List.drop_of_length_le (Nat.le_of_eq e.symm), List.drop_of_length_le (show ys.length ≤ m by omega), cmpCs, if_neg (by omega), if_neg (by omega)]
    rfl
  · have e : m = ys.length := by omega
    rw [List.drop_of_length_le (show ys.length ≤ m by omega), List.drop_eq_getElem_cons (show m < xs.length by omega), cmpCs, if_pos (by omega), if_neg (by omega)]
    rfl
def rowsT (ks : List (List Nat)) (ts : List T) : List T := (sortK ks).map fun k => .lst [.str k, lookT k ks ts]
theorem rows_canon (ks : List (List Nat)) (ts : List T) : canons (rowsT ks ts) = (sortK ks).map fun k => C.row [.str k, lookC k ks (canons ts)] := by
  rw [canons_map, rowsT, List.map_map]
  refine List.map_congr_left fun k _ => ?_
  show C.row [.str k, canon (lookT k ks ts)] = _
  rw [look_canon]
theorem mem_sortK {k : List Nat} {ks : List (List Nat)} : k ∈ sortK ks ↔ k ∈ ks := (sortK_perm ks).mem_iff
theorem fews_of {ts : List T} (h : ∀ t ∈ ts, T.few t) : T.fews ts := by
  induction ts with
  | nil => exact True.intro
  | cons t ts ih => exact ⟨h t List.mem_cons_self, ih fun u hu => h u (List.mem_cons_of_mem _ hu)⟩
theorem wts_of {n : Nat} {ts : List T} (h : ∀ t ∈ ts, T.wt t ≤ n) : T.wts ts ≤ n := by
  induction ts with
  | nil => exact Nat.zero_le _
  | cons t ts ih => exact Nat.max_le.mpr ⟨h t List.mem_cons_self, ih fun u hu => h u (List.mem_cons_of_mem _ hu)⟩
theorem rows_few {ks : List (List Nat)} {ts : List T} (hl : ks.length = ts.length) (h : T.fews ts) : T.fews (rowsT ks ts) := by
  refine fews_of fun t ht => ?_
  obtain ⟨k, hk, rfl⟩ := List.mem_map.mp ht
  exact ⟨by simp, True.intro, T.fews_mem h (lookT_mem (mem_sortK.mp hk) hl), True.intro⟩
theorem rows_wt {ks : List (List Nat)} {ts : List T} (hl : ks.length = ts.length) : T.wts (rowsT ks ts) ≤ T.wts ts + 1 := by
  refine wts_of fun t ht => ?_
  obtain ⟨k, hk, rfl⟩ := List.mem_map.mp ht
  have := T.wts_le (lookT_mem (mem_sortK.mp hk) hl)
  show max 0 (max (T.wt (lookT k ks ts)) 0) + 1 ≤ _
  omega
theorem rows_len (ks : List (List Nat)) (ts : List T) : (rowsT ks ts).length = ks.length := by
  rw [rowsT, List.length_map]
  exact (sortK_perm ks).length_eq
theorem canons_len (ts : List T) : (canons ts).length = ts.length := by rw [canons_map, List.length_map]
theorem canons_get {ts : List T} {i : Nat} {t : T} (h : ts[i]? = some t) : (canons ts)[i]? = some (canon t) := by rw [canons_map, List.getElem?_map, h]; rfl
theorem Rep.at_name {H : Hp} {ps : List (Key × V)} {ks : List (List Nat)} {us : List T} (nk : ks.Nodup) (hk : ps.map (·.1) = ks.map fun k => (Sum.inr (tx k) : Key)) (hs : Reps H (ps.map (·.2)) us) {k : List Nat} (hm : k ∈ ks) :
    ∃ v, valV ps (Sum.inr (tx k)) = some v ∧ Rep H v (lookT k ks us) := by
  obtain ⟨j, hj⟩ := List.mem_iff_getElem?.mp hm
  have hp : (ps.map (·.1))[j]? = some (Sum.inr (tx k) : Key) := by rw [hk, List.getElem?_map, hj]; rfl
  rw [List.getElem?_map] at hp
  cases hpj : ps[j]? with
  | none => rw [hpj] at hp; cases hp
  | some kv =>
    rw [hpj] at hp
    have ek : kv.1 = (Sum.inr (tx k) : Key) := Option.some.inj hp
    have hpj' : ps[j]? = some ((Sum.inr (tx k) : Key), kv.2) := by rw [hpj, ← ek]
    obtain ⟨t, ht, hr⟩ := hs.get (i := j) (v := kv.2) (by rw [List.getElem?_map, hpj]; rfl)
    refine ⟨kv.2, valV_ix (by rw [hk]; exact nodup_nK nk) hpj', ?_⟩
    rw [lookT_ix nk hj ht]
    exact hr
end L2
namespace L2
open PySem PySem.Spec PyProof.Rows
def LtM (P : Program) (w : World) (A : Around) (s : Shared) (u v : Value) (b : Bool) : Prop := ∀ (E : Value → Shared → Prop) (Q : Value → Shared → Prop), Q (.bool b) s → wpAny (model P w) A (richCompare .Lt u v) Q E s
def EqB (P : Program) (w : World) (A : Around) (s : Shared) (u v : Value) (b : Bool) : Prop := ∀ (E : Value → Shared → Prop) (Q : Bool → Shared → Prop), Q b s → wpAny (model P w) A (eqBool u v) Q E s
def RqM (P : Program) (w : World) (A : Around) (s : Shared) (u v : Value) (b : Bool) : Prop := ∀ (E : Value → Shared → Prop) (Q : Value → Shared → Prop), Q (.bool b) s → wpAny (model P w) A (richCompare .Eq u v) Q E s
inductive Zc (P : Program) (w : World) (A : Around) (s : Shared) : List Value → List Value → Int → Prop
  | nil : Zc P w A s [] [] 0
  | less {y : Value} {ys : List Value} : Zc P w A s [] (y :: ys) (-1)
  | more {x : Value} {xs : List Value} : Zc P w A s (x :: xs) [] 1
  | eq {x y : Value} {xs ys : List Value} {c : Int} : EqB P w A s x y true → Zc P w A s xs ys c → Zc P w A s (x :: xs) (y :: ys) c
  | ne {x y : Value} {xs ys : List Value} {c : Int} : EqB P w A s x y false → LtM P w A s x y (decide (c < 0)) → c ≠ 0 → Zc P w A s (x :: xs) (y :: ys) c
section
variable {P : Program} {w : World} {A : Around} {s : Shared} {E : Value → Shared → Prop}
theorem tup_lt {a b : Addr} {xs ys : Array Value} {c : Int} {R : Fin → Shared → Prop} (hx : IsTup s.heap a xs) (hy : IsTup s.heap b ys) (hz : Zc P w A s xs.toList ys.toList c) (h : R (.done (.ret (.bool (decide (c < 0))))) s) :
    wpAny (model P w) A (Builtin.«tuple.__lt__» ⟨[.ref a, .ref b], []⟩) R E s := by
  have hTb := hy.typeIs
  obtain ⟨oa, hoa, _, na, hda⟩ := hx
  obtain ⟨ob, hob, _, nb, hdb⟩ := hy
  show wpAny _ _ (isInstance (.ref b) (.type "tuple") >>= _) _ _ s
  refine wpAny_bind (wpAny_isInstance hTb isSubtype_tuple_tuple ?_)
  simp only [Bool.not_true, Bool.false_eq_true, if_false]
  refine wpAny_bind (wpAny_tupleItemsOf hoa hda ?_)
  refine wpAny_bind (wpAny_tupleItemsOf hob hdb ?_)
  refine wpAny_bind ?_
  refine wpAny_forIn_list _
    (fun rest r s' => r.1 = none ∧ s' = s ∧ ∃ xs' ys', rest = List.zip xs' ys' ∧ Zc P w A s xs' ys' c ∧ xs'.length + ys.size = ys'.length + xs.size)
    _ ?_ ?_ _ _ ⟨rfl, rfl, xs.toList, ys.toList, rfl, hz, by simp; omega⟩
  · rintro ⟨u, v⟩ rest r s' ⟨hr, rfl, xs', ys', hz', hc, hlen⟩
    cases hc with
    | nil => simp at hz'
    | less => simp at hz'
    | more => simp at hz'
    | eq he hc' =>
      simp only [List.zip_cons_cons, List.cons.injEq, Prod.mk.injEq] at hz'
      obtain ⟨⟨rfl, rfl⟩, rfl⟩ := hz'
      refine wpAny_bind (he _ _ ?_)
      simp only [Bool.not_true, Bool.false_eq_true, if_false]
      exact wpAny_pure ⟨rfl, rfl, _, _, rfl, hc', by simp only [List.length_cons] at hlen; omega⟩
    | ne he hl _ =>
      simp only [List.zip_cons_cons, List.cons.injEq, Prod.mk.injEq] at hz'
      obtain ⟨⟨rfl, rfl⟩, rfl⟩ := hz'
      refine wpAny_bind (he _ _ ?_)
      simp only [Bool.not_false, if_true]
      refine wpAny_bind (wpAny_rule (wpAny_bind (hl _ _ ?_)))
      exact wpAny_bind (wpAny_pure (wpAny_pure (wpAny_pure h)))
  · rintro ⟨r1, r2⟩ s' ⟨hr, rfl, xs', ys', hz', hc, hlen⟩
    simp only at hr
    subst hr
    refine wpAny_pure ?_
    have hfin : (decide (xs.size < ys.size)) = decide (c < 0) := by
      cases hc with
      | nil => simp only [List.length_nil] at hlen; exact decide_eq_decide.mpr ⟨fun h => by omega, fun h => by omega⟩
      | less => simp only [List.length_nil, List.length_cons] at hlen; exact decide_eq_decide.mpr ⟨fun h => by omega, fun h => by omega⟩
      | more => simp only [List.length_nil, List.length_cons] at hlen; exact decide_eq_decide.mpr ⟨fun h => by omega, fun h => by omega⟩
      | eq => simp at hz'
      | ne => simp at hz'
    show R (.done (.ret (.bool (decide (xs.size < ys.size))))) s'
    rw [hfin]; exact h
theorem tup_eq {a b : Addr} {xs ys : Array Value} {c : Int} {R : Fin → Shared → Prop} (hx : IsTup s.heap a xs) (hy : IsTup s.heap b ys) (hz : Zc P w A s xs.toList ys.toList c) (h : R (.done (.ret (.bool (decide (c = 0))))) s) :
    wpAny (model P w) A (Builtin.«tuple.__eq__» ⟨[.ref a, .ref b], []⟩) R E s := by
  have hTb := hy.typeIs
  obtain ⟨oa, hoa, _, na, hda⟩ := hx
  obtain ⟨ob, hob, _, nb, hdb⟩ := hy
  show wpAny _ _ (isInstance (.ref b) (.type "tuple") >>= _) _ _ s
  refine wpAny_bind (wpAny_isInstance hTb isSubtype_tuple_tuple ?_)
  simp only [Bool.not_true, Bool.false_eq_true, if_false]
  refine wpAny_bind (wpAny_tupleItemsOf hoa hda ?_)
  refine wpAny_bind (wpAny_tupleItemsOf hob hdb ?_)
  refine wpAny_bind ?_
  refine wpAny_forIn_list _
    (fun rest r s' => r.1 = none ∧ s' = s ∧ ∃ xs' ys', rest = List.zip xs' ys' ∧ Zc P w A s xs' ys' c ∧ xs'.length + ys.size = ys'.length + xs.size)
    _ ?_ ?_ _ _ ⟨rfl, rfl, xs.toList, ys.toList, rfl, hz, by simp; omega⟩
  · rintro ⟨u, v⟩ rest r s' ⟨hr, rfl, xs', ys', hz', hc, hlen⟩
    cases hc with
    | nil => simp at hz'
    | less => simp at hz'
    | more => simp at hz'
    | eq he hc' =>
      simp only [List.zip_cons_cons, List.cons.injEq, Prod.mk.injEq] at hz'
      obtain ⟨⟨rfl, rfl⟩, rfl⟩ := hz'
      refine wpAny_bind (he _ _ ?_)
      simp only [Bool.not_true, Bool.false_eq_true, if_false]
      exact wpAny_pure ⟨rfl, rfl, _, _, rfl, hc', by simp only [List.length_cons] at hlen; omega⟩
    | ne he hl hn =>
      simp only [List.zip_cons_cons, List.cons.injEq, Prod.mk.injEq] at hz'
      obtain ⟨⟨rfl, rfl⟩, rfl⟩ := hz'
      refine wpAny_bind (he _ _ ?_)
      simp only [Bool.not_false, if_true]
      rw [decide_eq_false hn] at h
      exact wpAny_bind (wpAny_pure (wpAny_pure (wpAny_pure h)))
  · rintro ⟨r1, r2⟩ s' ⟨hr, rfl, xs', ys', hz', hc, hlen⟩
    simp only at hr
    subst hr
    refine wpAny_pure ?_
    have hfin : (xs.size == ys.size) = decide (c = 0) := by
      rw [show (xs.size == ys.size) = decide (xs.size = ys.size) from rfl]
      cases hc with
      | nil => simp only [List.length_nil] at hlen; exact decide_eq_decide.mpr ⟨fun h => rfl, fun h => by omega⟩
      | less => simp only [List.length_nil, List.length_cons] at hlen; exact decide_eq_decide.mpr ⟨fun h => by omega, fun h => by omega⟩
      | more => simp only [List.length_nil, List.length_cons] at hlen; exact decide_eq_decide.mpr ⟨fun h => by omega, fun h => by omega⟩
      | eq => simp at hz'
      | ne => simp at hz'
    show R (.done (.ret (.bool (xs.size == ys.size)))) s'
    rw [hfin]; exact h
theorem LtM.tups {a b : Addr} {xs ys : Array Value} {c : Int} (hx : IsTup s.heap a xs) (hy : IsTup s.heap b ys) (hu : A.units < cLine) (hz : Zc P w A.in1 s xs.toList ys.toList c) : LtM P w A s (.ref a) (.ref b) (decide (c < 0)) := fun E Q q =>
  wpAny_richCompare_same_room (op := .Lt) hx.typeIs hy.typeIs F.slot_tuple_lt (wpAny_call_entry F.slot_tuple_lt hx.typeIs F.entry_tuple_lt (tup_lt hx hy hz ⟨_, rfl, (fun e => nomatch e), q⟩) (F.args_tuple_lt_2 _ _)) hu
theorem RqM.tups {a b : Addr} {xs ys : Array Value} {c : Int} (hx : IsTup s.heap a xs) (hy : IsTup s.heap b ys) (hu : A.units < cLine) (hz : Zc P w A.in1 s xs.toList ys.toList c) : RqM P w A s (.ref a) (.ref b) (decide (c = 0)) := fun E Q q =>
  wpAny_richCompare_same_room (op := .Eq) hx.typeIs hy.typeIs F.slot_tuple_eq (wpAny_call_entry F.slot_tuple_eq hx.typeIs F.entry_tuple_eq (tup_eq hx hy hz ⟨_, rfl, (fun e => nomatch e), q⟩) (F.args_tuple_eq_2 _ _)) hu
theorem EqB.refs {a b : Addr} {k : Bool} (he : a = b → k = true) (h : a ≠ b → RqM P w A s (.ref a) (.ref b) k) : EqB P w A s (.ref a) (.ref b) k := by
  by_cases e : a = b
  · rw [he e]; subst e; exact fun E Q q => SeqAt.EqAt.same _ _ _ E Q q
  · intro E Q q
    unfold eqBool
    refine wpAny_holding (wpAny_ite_split (fun z => ?_) fun _ => wpAny_bind (h e E _ (wpAny_truthy_bool q)))
    have := eq_of_beq z
    injection this with this
    exact absurd this e
end
mutual
def tcmp : T → T → Option Int
  | .bl a, .bl b => some (sgI (if a then 1 else 0) (if b then 1 else 0))
  | .int a, .int b => some (sgI a b)
  | .str a, .str b => some (cmpS a b)
  | .tup a, .tup b => tcmps a b
  | _, _ => none
def tcmps : List T → List T → Option Int
  | [], [] => some 0
  | [], _ :: _ => some (-1)
  | _ :: _, [] => some 1
  | x :: xs, y :: ys => match tcmp x y with
    | some c => if c = 0 then tcmps xs ys else some c
    | none => none
end
theorem sgI_self (a : Int) : sgI a a = 0 := by simp [sgI]
theorem sgI_0 {a b : Int} : sgI a b = 0 ↔ a = b := by unfold sgI; split <;> split <;> omega
theorem sgI_lt {a b : Int} : sgI a b < 0 ↔ a < b := by unfold sgI; split <;> split <;> omega
theorem cmpS_self (a : List Nat) : cmpS a a = 0 := by simp [cmpS]
theorem cmpS_lt {a b : List Nat} : cmpS a b < 0 ↔ a < b := by
  unfold cmpS
  by_cases h : a < b
  · have h' : ¬ b < a := fun z => List.lt_asymm h z
    simp [h, h']
  · simp only [h, if_false]
    split <;> simp
theorem cmpS_0 {a b : List Nat} : cmpS a b = 0 ↔ a = b := by
  constructor
  · intro e
    unfold cmpS at e
    by_cases h : a < b
    · have h' : ¬ b < a := fun z => List.lt_asymm h z
      simp [h, h'] at e
    · by_cases h' : b < a
      · simp [h, h'] at e
      · exact List.le_antisymm h' h
  · intro e; subst e; exact cmpS_self a
mutual
theorem rep_tcmp {H : Hp} : ∀ {t t' : T} {v : V} {c : Int}, Rep H v t → Rep H v t' → tcmp t t' = some c → c = 0
  | .bl a, .bl b, v, c, h1, h2, e => by
    have e1 : V.bl a = V.bl b := (show v = .bl a from h1) ▸ h2
    injection e1 with e1; subst e1
    have e' : some (sgI (if a then 1 else 0) (if a then 1 else 0)) = some c := by rw [tcmp] at e; exact e
    rw [sgI_self] at e'; exact (Option.some.inj e').symm
  | .int a, .int b, v, c, h1, h2, e => by
    have e1 : V.int a = V.int b := (show v = .int a from h1) ▸ h2
    injection e1 with e1; subst e1
    rw [tcmp, sgI_self] at e; exact (Option.some.inj e).symm
  | .str a, .str b, v, c, h1, h2, e => by
    have e1 : V.str (tx a) = V.str (tx b) := (show v = .str (tx a) from h1) ▸ h2
    injection e1 with e1
    have e2 : a = b := by rw [← ts_tx a, e1, ts_tx]
    subst e2
    rw [tcmp, cmpS_self] at e; exact (Option.some.inj e).symm
  | .tup ts, .tup ts', v, c, ⟨a, vs, e1, h1, h2⟩, ⟨b, ws, e3, h3, h4⟩, e => by
    subst e1
    injection e3 with e3; subst e3
    rw [h1] at h3
    injection h3 with h3; injection h3 with h3; subst h3
    rw [tcmp] at e
    exact reps_tcmp h2 h4 e
  | .non, t', _, _, _, _, e => by cases t' <;> (rw [tcmp] at e <;> first | cases e | (intros; nofun))
  | .lst _, t', _, _, _, _, e => by cases t' <;> (rw [tcmp] at e <;> first | cases e | (intros; nofun))
  | .dic _ _, t', _, _, _, _, e => by cases t' <;> (rw [tcmp] at e <;> first | cases e | (intros; nofun))
  | .bl _, .non, _, _, _, _, e => by simp [tcmp] at e
  | .bl _, .int _, _, _, _, _, e => by simp [tcmp] at e
  | .bl _, .str _, _, _, _, _, e => by simp [tcmp] at e
  | .bl _, .lst _, _, _, _, _, e => by simp [tcmp] at e
  | .bl _, .dic _ _, _, _, _, _, e => by simp [tcmp] at e
  | .bl _, .tup _, _, _, _, _, e => by simp [tcmp] at e
  | .int _, .non, _, _, _, _, e => by simp [tcmp] at e
  | .int _, .bl _, _, _, _, _, e => by simp [tcmp] at e
  | .int _, .str _, _, _, _, _, e => by simp [tcmp] at e
  | .int _, .lst _, _, _, _, _, e => by simp [tcmp] at e
  | .int _, .dic _ _, _, _, _, _, e => by simp [tcmp] at e
  | .int _, .tup _, _, _, _, _, e => by simp [tcmp] at e
  | .str _, .non, _, _, _, _, e => by simp [tcmp] at e
  | .str _, .bl _, _, _, _, _, e => by simp [tcmp] at e
  | .str _, .int _, _, _, _, _, e => by simp [tcmp] at e
  | .str _, .lst _, _, _, _, _, e => by simp [tcmp] at e
  | .str _, .dic _ _, _, _, _, _, e => by simp [tcmp] at e
  | .str _, .tup _, _, _, _, _, e => by simp [tcmp] at e
  | .tup _, .non, _, _, _, _, e => by simp [tcmp] at e
  | .tup _, .bl _, _, _, _, _, e => by simp [tcmp] at e
  | .tup _, .int _, _, _, _, _, e => by simp [tcmp] at e
  | .tup _, .str _, _, _, _, _, e => by simp [tcmp] at e
  | .tup _, .lst _, _, _, _, _, e => by simp [tcmp] at e
  | .tup _, .dic _ _, _, _, _, _, e => by simp [tcmp] at e
theorem reps_tcmp {H : Hp} : ∀ {ts ts' : List T} {vs : List V} {c : Int}, Reps H vs ts → Reps H vs ts' → tcmps ts ts' = some c → c = 0
  | [], [], vs, c, _, _, e => by rw [tcmps] at e; exact (Option.some.inj e).symm
  | [], _ :: _, vs, c, h1, ⟨x, r, e1, _⟩, e => by
    cases (show vs = [] from h1)
    cases e1
  | _ :: _, [], vs, c, ⟨x, r, e1, _⟩, h2, e => by
    cases (show vs = [] from h2)
    cases e1
  | t :: ts, t' :: ts', vs, c, ⟨x, r, e1, h1, h2⟩, ⟨x', r', e2, h3, h4⟩, e => by
    subst e1
    injection e2 with e2 e3
    subst e2 e3
    rw [tcmps] at e
    cases hc : tcmp t t' with
    | none => rw [hc] at e; cases e
    | some d =>
      rw [hc] at e
      have hd := rep_tcmp h1 h3 hc
      subst hd
      exact reps_tcmp h2 h4 (by simpa using e)
end
section
variable {X : Cx} {pins : List (Addr × Obj)} {σ : St} {H : Hp} {s : Shared}
mutual
theorem tup_at (I : Inv X pins σ H s) : ∀ (t t' : T) {x y : V} {u v : Value} {A : Around} {c : Int}, Rep H x t → Rep H y t' → RelV x u → RelV y v → tcmp t t' = some c → A.units + T.dep t < cLine →
    EqB X.prog X.w A s u v (decide (c = 0)) ∧ LtM X.prog X.w A s u v (decide (c < 0)) ∧ RqM X.prog X.w A s u v (decide (c = 0))
  | .bl a, t', x, y, u, v, A, c, hx, hy, rx, ry, e, _ => by
    cases t' with
    | bl b =>
      cases (show x = .bl a from hx); cases (show y = .bl b from hy)
      cases (show u = Value.bool a from rx); cases (show v = Value.bool b from ry)
      rw [tcmp] at e
      have ec := (Option.some.inj e).symm
      have e1 : decide (c = 0) = (a == b) := by rw [ec]; cases a <;> cases b <;> rfl
      have e2 : decide (c < 0) = decide (b2i a < b2i b) := by rw [ec]; cases a <;> cases b <;> rfl
      rw [e1, e2]
      exact ⟨fun E Q q => SeqAt.EqAt.bool_bool a b _ _ E Q q, fun E Q q => PyProof.Rows.lt_bool q, fun E Q q => SeqAt.RcAt.bool_bool a b _ _ E Q q⟩
    | _ => simp [tcmp] at e
  | .int a, t', x, y, u, v, A, c, hx, hy, rx, ry, e, _ => by
    cases t' with
    | int b =>
      cases (show x = .int a from hx); cases (show y = .int b from hy)
      obtain ⟨t1, rfl⟩ := rx
      obtain ⟨t2, rfl⟩ := ry
      rw [tcmp] at e
      have ec := (Option.some.inj e).symm
      have e1 : decide (c = 0) = (a == b) := by rw [ec]; exact decide_eq_decide.mpr sgI_0
      have e2 : decide (c < 0) = decide (a < b) := by rw [ec]; exact decide_eq_decide.mpr sgI_lt
      rw [e1, e2]
      exact ⟨fun E Q q => SeqAt.EqAt.int_int a t1 b t2 _ _ E Q q, fun E Q q => PyProof.Rows.lt_int q, fun E Q q => SeqAt.RcAt.int_int a t1 b t2 _ _ E Q q⟩
    | _ => simp [tcmp] at e
  | .str a, t', x, y, u, v, A, c, hx, hy, rx, ry, e, _ => by
    cases t' with
    | str b =>
      cases (show x = .str (tx a) from hx); cases (show y = .str (tx b) from hy)
      obtain ⟨t1, rfl⟩ := rx
      obtain ⟨t2, rfl⟩ := ry
      rw [tcmp] at e
      have ec := (Option.some.inj e).symm
      have e1 : decide (c = 0) = (tx a == tx b) := by
        rw [ec]
        by_cases h : a = b
        · subst h; rw [cmpS_self, beq_self_eq_true]; rfl
        · have h1 : ¬ cmpS a b = 0 := fun z => h (cmpS_0.mp z)
          have h2 : tx a ≠ tx b := fun z => h (by rw [← ts_tx a, z, ts_tx])
          rw [decide_eq_false h1, beq_eq_false_iff_ne.mpr h2]
      have e2 : decide (c < 0) = decide (a < b) := by rw [ec]; exact decide_eq_decide.mpr cmpS_lt
      rw [e1, e2]
      exact ⟨fun E Q q => SeqAt.EqAt.str_str (tx a) t1 (tx b) t2 _ _ E Q q, fun E Q q => PyProof.Rows.lt_str q, fun E Q q => SeqAt.RcAt.str_str (tx a) t1 (tx b) t2 _ _ E Q q⟩
    | _ => simp [tcmp] at e
  | .tup ts, t', x, y, u, v, A, c, hx, hy, rx, ry, e, hd => by
    cases t' with
    | tup ts' =>
      have hc0 := fun (h : Rep H x (.tup ts')) => rep_tcmp hx h e
      obtain ⟨a, xs, e1, ha, hxs⟩ := hx
      obtain ⟨b, ys, e2, hb, hys⟩ := hy
      subst e1 e2
      cases rx; cases ry
      obtain ⟨us, r1, p1, _⟩ := I.tuple (SqT.of ha)
      obtain ⟨vs, r2, p2, _⟩ := I.tuple (SqT.of hb)
      rw [tcmp] at e
      have hd' : A.units + (T.deps ts + 1) < cLine := hd
      have z := tups_at I ts ts' (A := A.in1) hxs hys r1 r2 e (by show A.units + 1 + _ < _; omega)
      have hu : A.units < cLine := by omega
      have zz : RqM X.prog X.w A s (.ref a) (.ref b) (decide (c = 0)) := RqM.tups p1 p2 hu (by simpa using z)
      refine ⟨EqB.refs (fun e3 => ?_) (fun _ => zz), LtM.tups p1 p2 hu (by simpa using z), zz⟩
      subst e3
      rw [hc0 ⟨a, ys, rfl, hb, hys⟩]
      rfl
    | _ => simp [tcmp] at e
  | .non, t', _, _, _, _, _, _, _, _, _, _, e, _ => by cases t' <;> simp [tcmp] at e
  | .lst _, t', _, _, _, _, _, _, _, _, _, _, e, _ => by cases t' <;> simp [tcmp] at e
  | .dic _ _, t', _, _, _, _, _, _, _, _, _, _, e, _ => by cases t' <;> simp [tcmp] at e
theorem tups_at (I : Inv X pins σ H s) : ∀ (ts ts' : List T) {xs ys : List V} {us vs : List Value} {A : Around} {c : Int}, Reps H xs ts → Reps H ys ts' → Vals xs us → Vals ys vs → tcmps ts ts' = some c → A.units + T.deps ts < cLine →
    Zc X.prog X.w A s us vs c
  | [], [], xs, ys, us, vs, A, c, hx, hy, rx, ry, e, _ => by
    cases (show xs = [] from hx); cases (show ys = [] from hy)
    cases rx; cases ry
    rw [tcmps] at e
    rw [← Option.some.inj e]
    exact .nil
  | [], _ :: _, xs, ys, us, vs, A, c, hx, ⟨y, yr, e2, _⟩, rx, ry, e, _ => by
    cases (show xs = [] from hx); subst e2
    cases rx
    cases ry
    rw [tcmps] at e
    rw [← Option.some.inj e]
    exact .less
  | _ :: _, [], xs, ys, us, vs, A, c, ⟨x, xr, e1, _⟩, hy, rx, ry, e, _ => by
    cases (show ys = [] from hy); subst e1
    cases rx
    cases ry
    rw [tcmps] at e
    rw [← Option.some.inj e]
    exact .more
  | t :: ts, t' :: ts', xs, ys, us, vs, A, c, ⟨x, xr, e1, hx, hxr⟩, ⟨y, yr, e2, hy, hyr⟩, rx, ry, e, hd => by
    subst e1 e2
    cases rx with
    | cons rx1 rx2 =>
      cases ry with
      | cons ry1 ry2 =>
        have hd' : A.units + max (T.dep t) (T.deps ts) < cLine := hd
        have q1 := Nat.le_max_left (T.dep t) (T.deps ts)
        have q2 := Nat.le_max_right (T.dep t) (T.deps ts)
        rw [tcmps] at e
        cases hc : tcmp t t' with
        | none => rw [hc] at e; cases e
        | some d =>
          rw [hc] at e
          have z := tup_at I t t' (A := A) hx hy rx1 ry1 hc (by omega)
          by_cases hd0 : d = 0
          · rw [decide_eq_true hd0] at z
            exact .eq z.1 (tups_at I ts ts' hxr hyr rx2 ry2 (by simpa [hd0] using e) (by omega))
          · rw [decide_eq_false hd0] at z
            have ed : d = c := by simpa [hd0] using e
            subst ed
            exact .ne z.1 z.2.1 hd0
end
end
end L2
namespace L2
open PySem PySem.Spec PyProof.Rows
def rawC : C → T
  | .str x => .str x
  | _ => .non
mutual
def rk : C → T
  | .non => .tup [.int 0]
  | .bl b => .tup [.int 1, .bl b]
  | .int i => .tup [.int 2, .int i]
  | .str x => .tup [.int 3, .str x]
  | .row cs => .tup [.int 4, .tup (rks cs)]
  | .rcd cs => .tup [.int 5, .tup (rkps cs)]
  | .odd => .non
def rks : List C → List T
  | [] => []
  | c :: cs => rk c :: rks cs
def rkps : List C → List T
  | [] => []
  | c :: cs => rkq c :: rkps cs
def rkq : C → T
  | .row cs => .tup (rkl cs)
  | .non => .non
  | .bl _ => .non
  | .int _ => .non
  | .str _ => .non
  | .rcd _ => .non
  | .odd => .non
def rkl : List C → List T
  | [] => []
  | c :: cs => rawC c :: rks cs
end
mutual
def C.ok : C → Prop
  | .odd => False
  | .row cs => C.oks cs
  | .rcd cs => C.okps cs
  | .non => True
  | .bl _ => True
  | .int _ => True
  | .str _ => True
def C.oks : List C → Prop
  | [] => True
  | c :: cs => C.ok c ∧ C.oks cs
def C.okps : List C → Prop
  | [] => True
  | c :: cs => C.okq c ∧ C.okps cs
def C.okq : C → Prop
  | .row cs => C.okl cs
  | .non => False
  | .bl _ => False
  | .int _ => False
  | .str _ => False
  | .rcd _ => False
  | .odd => False
def C.okl : List C → Prop
  | [] => False
  | c :: cs => (∃ k, c = .str k) ∧ cs.length = 1 ∧ C.oks cs
end
theorem tc_int (i j : Int) : tcmp (.int i) (.int j) = some (sgI i j) := by rw [tcmp]
theorem tc_one {x y : T} {c : Int} (i : Int) (h : tcmp x y = some c) : tcmp (.tup [.int i, x]) (.tup [.int i, y]) = some c := by
  rw [tcmp, tcmps, tc_int, sgI_self]
  show (if (0 : Int) = 0 then tcmps [x] [y] else some 0) = _
  rw [if_pos rfl, tcmps, h]
  show (if c = 0 then tcmps [] [] else some c) = _
  by_cases hc : c = 0
  · rw [if_pos hc, tcmps, hc]
  · rw [if_neg hc]
theorem tc_ne {i j : Int} {xs ys : List T} (h : i ≠ j) : tcmp (.tup (.int i :: xs)) (.tup (.int j :: ys)) = some (sgI i j) := by
  rw [tcmp, tcmps, tc_int]
  show (if sgI i j = 0 then _ else _) = _
  rw [if_neg fun z => h (sgI_0.mp z)]
theorem rk_head : ∀ (a : C), a.ok → ∃ r, rk a = .tup (.int a.ord :: r)
  | .non, _ => ⟨[], by rw [rk]; rfl⟩
  | .bl b, _ => ⟨[.bl b], by rw [rk]; rfl⟩
  | .int b, _ => ⟨[.int b], by rw [rk]; rfl⟩
  | .str b, _ => ⟨[.str b], by rw [rk]; rfl⟩
  | .row b, _ => ⟨[.tup (rks b)], by rw [rk]; rfl⟩
  | .rcd b, _ => ⟨[.tup (rkps b)], by rw [rk]; rfl⟩
  | .odd, h => by rw [C.ok] at h; exact h.elim
theorem rk_apart {a b : C} (ha : a.ok) (hb : b.ok) (h : a.ord ≠ b.ord) : tcmp (rk a) (rk b) = some (cmpC a b) := by
  obtain ⟨r, e⟩ := rk_head a ha
  obtain ⟨r', e'⟩ := rk_head b hb
  rw [e, e', cmpC_ord _ _ h, tc_ne (by omega)]
mutual
theorem rk_cmp : ∀ (a b : C), a.ok → b.ok → tcmp (rk a) (rk b) = some (cmpC a b)
  | .non, b, ha, hb => by
    cases b with
    | non => rw [rk, cmpC, tcmp, tcmps, tc_int, sgI_self]; show (if (0 : Int) = 0 then tcmps [] [] else _) = _; rw [if_pos rfl, tcmps]
    | _ => exact rk_apart ha hb (by simp [C.ord])
  | .bl x, b, ha, hb => by
    cases b with
    | bl y => rw [rk, rk, cmpC]; exact tc_one 1 (by rw [tcmp])
    | _ => exact rk_apart ha hb (by simp [C.ord])
  | .int x, b, ha, hb => by
    cases b with
    | int y => rw [rk, rk, cmpC]; exact tc_one 2 (by rw [tcmp])
    | _ => exact rk_apart ha hb (by simp [C.ord])
  | .str x, b, ha, hb => by
    cases b with
    | str y => rw [rk, rk, cmpC]; exact tc_one 3 (by rw [tcmp])
    | _ => exact rk_apart ha hb (by simp [C.ord])
  | .row x, b, ha, hb => by
    cases b with
    | row y => rw [C.ok] at ha hb; rw [rk, rk, cmpC]; exact tc_one 4 (by rw [tcmp]; exact rks_cmp x y ha hb)
    | _ => exact rk_apart ha hb (by simp [C.ord])
  | .rcd x, b, ha, hb => by
    cases b with
    | rcd y => rw [C.ok] at ha hb; rw [rk, rk, cmpC]; exact tc_one 5 (by rw [tcmp]; exact rkps_cmp x y ha hb)
    | _ => exact rk_apart ha hb (by simp [C.ord])
  | .odd, b, ha, hb => by rw [C.ok] at ha; exact ha.elim
theorem rks_cmp : ∀ (a b : List C), C.oks a → C.oks b → tcmps (rks a) (rks b) = some (cmpCs a b)
  | [], [], _, _ => by rw [rks, tcmps, cmpCs]
  | [], _ :: _, _, _ => by rw [rks, rks, tcmps, cmpCs]
  | _ :: _, [], _, _ => by rw [rks, rks, tcmps, cmpCs]
  | x :: a, y :: b, ha, hb => by
    rw [C.oks] at ha hb
    rw [rks, rks, tcmps, rk_cmp x y ha.1 hb.1, cmpCs]
    show (if cmpC x y = 0 then tcmps (rks a) (rks b) else some (cmpC x y)) = _
    rw [rks_cmp a b ha.2 hb.2]
    split <;> rfl
theorem rkps_cmp : ∀ (a b : List C), C.okps a → C.okps b → tcmps (rkps a) (rkps b) = some (cmpCs a b)
  | [], [], _, _ => by rw [rkps, tcmps, cmpCs]
  | [], _ :: _, _, _ => by rw [rkps, rkps, tcmps, cmpCs]
  | _ :: _, [], _, _ => by rw [rkps, rkps, tcmps, cmpCs]
  | x :: a, y :: b, ha, hb => by
    rw [C.okps] at ha hb
    rw [rkps, rkps, tcmps, rkq_cmp x y ha.1 hb.1, cmpCs]
    show (if cmpC x y = 0 then tcmps (rkps a) (rkps b) else some (cmpC x y)) = _
    rw [rkps_cmp a b ha.2 hb.2]
    split <;> rfl
theorem rkq_cmp : ∀ (a b : C), C.okq a → C.okq b → tcmp (rkq a) (rkq b) = some (cmpC a b)
  | .row x, b, ha, hb => by
    cases b with
    | row y => rw [C.okq] at ha hb; rw [rkq, rkq, cmpC, tcmp]; exact rkl_cmp x y ha hb
    | _ => rw [C.okq] at hb; exact hb.elim
  | .non, b, ha, hb => by rw [C.okq] at ha; exact ha.elim
  | .bl _, b, ha, hb => by rw [C.okq] at ha; exact ha.elim
  | .int _, b, ha, hb => by rw [C.okq] at ha; exact ha.elim
  | .str _, b, ha, hb => by rw [C.okq] at ha; exact ha.elim
  | .rcd _, b, ha, hb => by rw [C.okq] at ha; exact ha.elim
  | .odd, b, ha, hb => by rw [C.okq] at ha; exact ha.elim
theorem rkl_cmp : ∀ (a b : List C), C.okl a → C.okl b → tcmps (rkl a) (rkl b) = some (cmpCs a b)
  | [], b, ha, hb => by rw [C.okl] at ha; exact ha.elim
  | _ :: _, [], ha, hb => by rw [C.okl] at hb; exact hb.elim
  | x :: a, y :: b, ha, hb => by
    rw [C.okl] at ha hb
    obtain ⟨⟨k, rfl⟩, _, h1⟩ := ha
    obtain ⟨⟨k', rfl⟩, _, h2⟩ := hb
    rw [rkl, rkl, tcmps, rawC, rawC, tcmp, cmpCs, cmpC]
    show (if cmpS k k' = 0 then tcmps (rks a) (rks b) else some (cmpS k k')) = _
    rw [rks_cmp a b h1 h2]
    split <;> rfl
end
theorem oks_of {cs : List C} (h : ∀ c ∈ cs, C.ok c) : C.oks cs := by
  induction cs with
  | nil => rw [C.oks]; exact True.intro
  | cons c cs ih => rw [C.oks]; exact ⟨h c List.mem_cons_self, ih fun u hu => h u (List.mem_cons_of_mem _ hu)⟩
theorem oks_mem {cs : List C} (h : C.oks cs) {c : C} (hc : c ∈ cs) : C.ok c := by
  induction cs with
  | nil => cases hc
  | cons d cs ih =>
    rw [C.oks] at h
    rcases List.mem_cons.mp hc with e | e
    · subst e; exact h.1
    · exact ih h.2 e
theorem okps_of {cs : List C} (h : ∀ c ∈ cs, C.okq c) : C.okps cs := by
  induction cs with
  | nil => rw [C.okps]; exact True.intro
  | cons c cs ih => rw [C.okps]; exact ⟨h c List.mem_cons_self, ih fun u hu => h u (List.mem_cons_of_mem _ hu)⟩
mutual
theorem canon_ok : ∀ (t : T), T.few t → (canon t).ok
  | .non, _ => by rw [canon, C.ok]; exact True.intro
  | .bl _, _ => by rw [canon, C.ok]; exact True.intro
  | .int _, _ => by rw [canon, C.ok]; exact True.intro
  | .str _, _ => by rw [canon, C.ok]; exact True.intro
  | .lst ts, h => by rw [canon, C.ok]; exact canons_ok ts h.2
  | .dic ks ts, h => by
    obtain ⟨_, _, hl, hf⟩ := h
    have z := canons_ok ts hf
    rw [canon, C.ok]
    refine okps_of fun c hc => ?_
    obtain ⟨k, hk, rfl⟩ := List.mem_map.mp hc
    rw [C.okq, C.okl]
    refine ⟨⟨k, rfl⟩, rfl, oks_of fun d hd => ?_⟩
    rw [List.mem_singleton] at hd
    subst hd
    rw [← look_canon]
    have hm := lookT_mem (mem_sortK.mp hk) hl
    refine oks_mem z ?_
    rw [canons_map]
    exact List.mem_map.mpr ⟨_, hm, rfl⟩
  | .tup _, h => h.elim
theorem canons_ok : ∀ (ts : List T), T.fews ts → C.oks (canons ts)
  | [], _ => by rw [canons, C.oks]; exact True.intro
  | t :: ts, h => by rw [canons, C.oks]; exact ⟨canon_ok t h.1, canons_ok ts h.2⟩
end
theorem rks_map : ∀ (cs : List C), rks cs = cs.map rk
  | [] => by rw [rks]; rfl
  | c :: cs => by rw [rks, rks_map cs]; rfl
theorem rkps_map : ∀ (cs : List C), rkps cs = cs.map rkq
  | [] => by rw [rkps]; rfl
  | c :: cs => by rw [rkps, rkps_map cs]; rfl
theorem rk_dic (ks : List (List Nat)) (ts : List T) : rk (canon (.dic ks ts)) = .tup [.int 5, .tup ((sortK ks).map fun k => .tup [.str k, rk (canon (lookT k ks ts))])] := by
  rw [canon, rk, rkps_map, List.map_map]
  congr 3
  refine congrArg T.tup (List.map_congr_left fun k _ => ?_)
  show rkq (.row [.str k, lookC k ks (canons ts)]) = _
  rw [rkq, rkl, rks, rks, look_canon]
  rfl
theorem rk_lst (ts : List T) : rk (canon (.lst ts)) = .tup [.int 4, .tup (ts.map fun t => rk (canon t))] := by
  rw [canon, rk, rks_map, canons_map, List.map_map]
  rfl
theorem T.deps_of {n : Nat} {ts : List T} (h : ∀ t ∈ ts, T.dep t ≤ n) : T.deps ts ≤ n := by
  induction ts with
  | nil => exact Nat.zero_le _
  | cons t ts ih => exact Nat.max_le.mpr ⟨h t List.mem_cons_self, ih fun u hu => h u (List.mem_cons_of_mem _ hu)⟩
theorem dep_pair (x y : T) : T.dep (.tup [x, y]) = max (T.dep x) (T.dep y) + 1 := by
  show max (T.dep x) (max (T.dep y) 0) + 1 = _
  rw [Nat.max_zero]
theorem rk_dep : ∀ (n : Nat) (t : T), T.few t → T.dep t ≤ n → T.dep (rk (canon t)) ≤ 3 * n + 1 := by
  intro n
  induction n with
  | zero =>
    intro t hf h
    cases t with
    | lst ts => exact absurd h (Nat.not_succ_le_zero _)
    | dic ks ts => exact absurd h (Nat.not_succ_le_zero _)
    | tup ts => exact hf.elim
    | _ => rw [canon, rk]; exact Nat.le_refl _
  | succ n ih =>
    intro t hf h
    cases t with
    | lst ts =>
      have h' : T.deps ts + 1 ≤ n + 1 := h
      rw [rk_lst, dep_pair]
      have z : T.deps (ts.map fun t => rk (canon t)) ≤ 3 * n + 1 := T.deps_of fun u hu => by
        obtain ⟨t, ht, rfl⟩ := List.mem_map.mp hu
        have := T.deps_le ht
        exact ih t (T.fews_mem hf.2 ht) (by omega)
      show max 0 (T.deps (ts.map fun t => rk (canon t)) + 1) + 1 ≤ _
      omega
    | dic ks ts =>
      have h' : T.deps ts + 1 ≤ n + 1 := h
      obtain ⟨_, _, hl, hf⟩ := hf
      rw [rk_dic, dep_pair]
      have z : T.deps ((sortK ks).map fun k => T.tup [.str k, rk (canon (lookT k ks ts))]) ≤ 3 * n + 2 := T.deps_of fun u hu => by
        obtain ⟨k, hk, rfl⟩ := List.mem_map.mp hu
        have hm := lookT_mem (mem_sortK.mp hk) hl
        have := T.deps_le hm
        have := ih _ (T.fews_mem hf hm) (by omega)
        rw [dep_pair]
        show max 0 _ + 1 ≤ _
        omega
      show max 0 (T.deps ((sortK ks).map fun k => T.tup [.str k, rk (canon (lookT k ks ts))]) + 1) + 1 ≤ _
      omega
    | tup ts => exact hf.elim
    | non => rw [canon, rk]; show max 0 0 + 1 ≤ _; omega
    | bl b => rw [canon, rk]; show max 0 (max 0 0) + 1 ≤ _; omega
    | int b => rw [canon, rk]; show max 0 (max 0 0) + 1 ≤ _; omega
    | str b => rw [canon, rk]; show max 0 (max 0 0) + 1 ≤ _; omega
theorem tup_index {P : Program} {w : World} {A : Around} {s : Shared} {E : Value → Shared → Prop} {R : Fin → Shared → Prop} {a : Addr} {xs : Array Value} {x : Value} (e : Value → Bool) (j : Nat) (hj : j < xs.size)
    (hit : e xs[j] = true) (hno : ∀ m (hm : m < xs.size), m < j → e xs[m] = false) (hx : IsTup s.heap a xs) (he : ∀ y, y ∈ xs → SeqAt.EqAt A s y x (e y)) (h : R (.done (.ret (.int j s.toks))) { s with toks := s.toks + 1 }) :
    wpAny (model P w) A (Builtin.«tuple.index» ⟨[.ref a, x], []⟩) R E s := by
  obtain ⟨oa, hoa, _, na, hda⟩ := hx
  unfold Builtin.«tuple.index»
  refine wpAny_bind (m := selfAndSome _ _ _ _ _) (wpAny_pure ?_)
  refine wpAny_bind (wpAny_tupleItemsOf hoa hda ?_)
  refine wpAny_bind (wpAny_pure ?_)
  refine wpAny_bind (wpAny_pure ?_)
  refine wpAny_bind ?_
  rw [Std.Legacy.Range.forIn_eq_forIn_range']
  simp only [Std.Legacy.Range.size, Nat.sub_zero, Nat.add_sub_cancel, Nat.div_one, Nat.min_self]
  refine wpAny_forIn_list _ (fun rest z s' => s' = s ∧ z = (none, ()) ∧ ∃ i, rest = List.range' i (xs.size - i) ∧ i ≤ j) _ ?_ ?_ _ _ ⟨rfl, rfl, 0, by simp, Nat.zero_le _⟩
  · rintro y rest z s' ⟨rfl, rfl, i, hr, hi⟩
    have lt : i < xs.size := by omega
    have hr' : List.range' i (xs.size - i) = i :: List.range' (i + 1) (xs.size - (i + 1)) := by
      rw [show xs.size - i = (xs.size - (i + 1)) + 1 by omega, List.range'_succ]
    rw [hr'] at hr
    injection hr with h1 h2
    subst h1
    rw [show xs[y]? = some xs[y] from by simp [lt]]
    refine wpAny_bind (he _ (by simp) _ _ _ _ ?_)
    by_cases hy : y = j
    · subst hy
      rw [hit]
      simp only [if_true]
      exact wpAny_bind (m := retInt _) (wpAny_bind (m := mkInt _) (wpAny_mkInt (wpAny_pure (wpAny_pure (wpAny_pure h)))))
    · rw [hno y lt (by omega)]
      simp only [Bool.false_eq_true, if_false]
      exact wpAny_pure ⟨rfl, rfl, y + 1, h2, by omega⟩
  · rintro ⟨r1, r2⟩ s' ⟨rfl, hr, i, hz, hi⟩
    have : xs.size - i = 0 := by
      have := congrArg List.length hz
      simpa using this.symm
    omega
section
variable {X : Cx}
def rIndexT (K : PySem.W.Frag) : V → List V → Hp → VK → Prop := fun x vs H Q => ∃ (p : Addr) (ss : List Str) (k : Str) (j : Nat), x = .ref p ∧ vs = [.str k] ∧ SqT K H p (ss.map V.str) ∧ ss[j]? = some k ∧ (∀ i, i < j → ss[i]? ≠ some k) ∧ Q (.int j) H
theorem mt_index_t : MtR X "tuple.index" (rIndexT X.K) := by
  intro pins s σ H x vs v us Q I rx rv h
  obtain ⟨p, ss, k, j, rfl, rfl, hq, hj, hno, q⟩ := h
  cases rx
  obtain ⟨u, rfl, t, rfl⟩ := rv.one
  obtain ⟨its, r, pl, _⟩ := I.tuple hq
  have hl := r.length
  rw [List.length_map] at hl
  have hjl : j < ss.length := (List.getElem?_eq_some_iff.mp hj).1
  refine wpAny_call_entry PySem.F.slot_tuple_index pl.typeIs PySem.F.entry_tuple_index (tup_index (isStrK k) j (by simp; omega) ?_ ?_ pl (fun y hy => ?_) ⟨_, rfl, ⟨.int j, H, I.tok _, ⟨_, rfl⟩, q⟩⟩) (PySem.F.args_tuple_index_2 _ _)
  · obtain ⟨z, t', e1, e2⟩ := strOf_ix r (j := j) (by omega)
    rw [hj] at e1; cases e1
    show isStrK k its[j] = true
    rw [e2]; exact beq_self_eq_true k
  · intro m hm hlt
    obtain ⟨z, t', e1, e2⟩ := strOf_ix r (j := m) (by simpa using hm)
    show isStrK k its[m] = false
    rw [e2]
    have ne : z ≠ k := fun e => hno m hlt (by rw [e1, e])
    exact beq_eq_false_iff_ne.mpr ne
  · obtain ⟨m, hm, e⟩ := Array.mem_iff_getElem.mp hy
    obtain ⟨z, t', e1, e2⟩ := strOf_ix r (j := m) (by simpa using hm)
    have e3 : y = Value.str z t' := by rw [← e]; simpa using e2
    subst e3
    exact SeqAt.EqAt.str_str z t' k t
def TupG (K : PySem.W.Frag) (mg : Str → Option Value) (x : Str) (ss : List Str) (a : Addr) : Prop := mg x = some (.ref a) ∧ ∃ (o : Obj) (its : Array Value) (n : Nat), K.lookup a = some o ∧ o.cls = .type "tuple" ∧ o.dict = none ∧ o.data = .seq its n ∧ its.size ≤ sizeLine ∧ Vals (ss.map V.str) its.toList
theorem TupG.sq {K : PySem.W.Frag} {mg : Str → Option Value} {x : Str} {ss : List Str} {a : Addr} {H : Hp} (h : TupG K mg x ss a) : SqT K H a (ss.map V.str) := by
  obtain ⟨_, o, its, n, h1, h2, _, h4, h5, h6⟩ := h
  exact .inr ⟨o, its, n, h1, h2, h4, h5, h6⟩
theorem TupG.ty {K : PySem.W.Frag} {mg : Str → Option Value} {x : Str} {ss : List Str} {a : Addr} {H : Hp} (h : TupG K mg x ss a) : tyV K "tuple" (.ref a) H := by
  obtain ⟨_, o, its, n, h1, h2, h3, _⟩ := h
  exact .inr (.inl ⟨rfl, o, h1, h2, h3⟩)
theorem pe_gt {x : Str} {a : Addr} {pos : Pos} (hg : Gl X x) (h : X.mg x = some (.ref a)) (hd : (x == ("__debug__" : Str)) = false := by decide) : PE X (.Name x pos) (tC (.ref a)) := pe_glob hg h rfl hd
end
end L2
namespace L2
open PySem PySem.Spec PyProof.Rows
theorem range_get {α : Type} : ∀ (l : List α), (List.range l.length).filterMap (l[·]?) = l
  | [] => rfl
  | a :: l => by
    rw [List.length_cons, List.range_succ_eq_map, List.filterMap_cons]
    show a :: List.filterMap _ _ = _
    rw [List.filterMap_map]
    congr 1
    exact range_get l
theorem range_rev (n : Nat) : sliceRange ((n : Int) - 1) (-1) (-1) = (List.range n).reverse := by
  unfold sliceRange
  apply List.ext_getElem
  · by_cases h : n = 0
    · simp [h]
    · simp
      omega
  · intro i h1 h2
    simp at h2
    simp
    omega
theorem arr_rev {α : Type} (xs : Array α) : (List.range xs.size).reverse.filterMap (xs[·]?) = xs.toList.reverse := by
  rw [List.filterMap_reverse]
  congr 1
  have z := range_get xs.toList
  rw [Array.length_toList] at z
  simpa using z
theorem pick_rev (items : Array Value) : slicePick items none none (some (-1)) = items.toList.reverse.toArray := by
  unfold slicePick
  have hb : sliceBounds none none (some (-1)) items.size = ((items.size : Int) - 1, -1, -1) := by first | rfl | simp [sliceBounds]
  rw [hb]
  show ((sliceRange ((items.size : Int) - 1) (-1) (-1)).filterMap (items[·]?)).toArray = _
  rw [range_rev, arr_rev]
section
variable {X : Cx} {e k : Expr} {te : TE} {tk : TO} {pos p2 : Pos}
def RvR (X : Cx) (r : V → Hp → VK → Prop) : Prop :=
  ∀ (pins : List (Addr × Obj)) (s : Shared) (σ : St) (H : Hp) (x : V) (v vk : Value) (sl : Addr) (Q : VK), Inv X pins σ H s → RelV x v → s.heap.IsSliceOf sl .none .none vk → IsPart vk (some (-1)) → r x H Q →
    ∃ T id, typeLookup (.type T) "__getitem__" = pure (some (.builtin id)) ∧ s.TypeIs v T ∧ wpAny (model X.prog X.w) X.A (getItem v (.ref sl)) (EP X pins σ Q) X.xe s
def tRev (r : V → Hp → VK → Prop) (te : TE) (tk : TO) : TE := fun σ H Q => te σ H fun x H1 => tk σ H1 fun st H2 => st = some (-1) ∧ r x H2 Q
theorem pe_rev {r : V → Hp → VK → Prop} (hr : RvR X r) (he : PE X e te) (hk : PO X (some k) tk) : PE X (.Subscript e (.Slice none none (some k) p2) pos) (tRev r te tk) := by
  intro pins s σ H Q I h
  refine Subscript_ (thn (he pins s σ H _ I h) fun v s1 ⟨x, H1, I1, r1, q1⟩ => ?_)
  refine wpAny_Slice ?_
  rw [evalPart_none]
  refine wpAny_pure ?_
  refine wpAny_pure ?_
  refine thn (hk pins s1 σ H1 _ I1 q1) fun vk s3 ⟨u, H3, I3, pu, q3⟩ => ?_
  obtain ⟨rfl, q3⟩ := q3
  have I4 : Inv X pins σ H3 { s3 with heap := s3.heap.push { cls := .type "slice", data := .fields #[.none, .none, vk] } } := I3.kept (t' := s3.toks) fun b ob q => Heap.get?_push_of_some _ q
  obtain ⟨T, id, hT, ht, hg⟩ := hr pins { s3 with heap := s3.heap.push { cls := .type "slice", data := .fields #[.none, .none, vk] } } σ H3 x v vk s3.heap.objs.size Q I4 r1 (Heap.IsSliceOf.new ..) pu q3
  show wpAny (model X.prog X.w) X.A (subscriptTail e (.Slice none none (some k) p2) v (.ref s3.heap.objs.size)) (EP X pins σ Q) X.xe { s3 with heap := s3.heap.push { cls := .type "slice", data := .fields #[.none, .none, vk] } }
  exact tail_any (ops := [v, .ref s3.heap.objs.size]) ht hT hg (by with_unfolding_all rfl)
def rRvL (K : PySem.W.Frag) : V → Hp → VK → Prop := fun x H Q => ∃ a xs, x = .ref a ∧ SqL K H a xs ∧ ∀ l, H l = none → Q (.ref l) (upd H l (.lst xs.reverse))
theorem rv_list : RvR X (rRvL X.K) := by
  intro pins s σ H x v vk sl Q I rx hs pk h
  obtain ⟨a, xs, rfl, hx, q⟩ := h
  cases rx
  obtain ⟨its, r, ht, hz⟩ := I.list hx
  have hlen := r.length
  refine ⟨"list", _, slot_list_getitem.lookup, ht.isList.typeIs, ?_⟩
  refine wpAny_getItem_list_slice ht.isList hs .none .none pk (by simp) ?_ (by rw [List.size_toArray] <;> omega)
  rw [pick_rev]
  refine ⟨.ref s.heap.objs.size, _, I.laid (t' := s.toks) (o := .lst xs.reverse) (fun b ob q => Heap.get?_push_of_some _ q) (Nat.le_refl _) ?_, rfl, q _ (I.hok.fresh (Nat.le_refl _))⟩
  exact ⟨by rw [List.length_reverse]; exact hz, _, 0, r.reverse, Heap.get?_push_size _ rfl⟩
theorem signs_rev (n : Nat) : Builtin.Str.strSliceIndices none none (-1) n = (List.range n).reverse := by
  rw [← range_rev]
  unfold Builtin.Str.strSliceIndices
  first | rfl | simp
def rRvS : V → Hp → VK → Prop := fun x H Q => ∃ z, x = .str z ∧ z.length ≤ sizeLine ∧ Q (.str (tx (ts z).reverse)) H
theorem rv_str : RvR X rRvS := by
  intro pins s σ H x v vk sl Q I rx hs pk h
  obtain ⟨z, rfl, hz, q⟩ := h
  obtain ⟨t, rfl⟩ := rx
  refine ⟨"str", _, F.slot_str_getitem.lookup, typeIs_str _ _ _, ?_⟩
  cases pk with
  | int i u =>
    obtain ⟨o, ho, hc, hd⟩ := hs
    refine wpAny_getItem_str_slice (l := none) (u := none) (st := some (-1, u)) ⟨o, ho, hc, hd⟩ rfl ?_
    have e : sliceMade z t none none (some (-1, u)) = .str (tx (ts z).reverse) := by
      unfold sliceMade
      rw [if_neg (by simp)]
      congr 1
      show (⟨((Builtin.Str.strSliceIndices none none (-1) z.length).filterMap (z.cps[·]?)).toArray⟩ : Str) = _
      rw [signs_rev]
      show (⟨((List.range z.cps.size).reverse.filterMap (z.cps[·]?)).toArray⟩ : Str) = _
      rw [arr_rev]
    rw [e]
    exact ⟨by rw [tx_len, List.length_reverse, ← ts_len]; exact hz, ⟨.str (tx (ts z).reverse), H, I.tok _, ⟨_, rfl⟩, q⟩⟩
end
end L2
namespace L2
open PySem PySem.Spec PyProof.Rows
mutual
def T.calm : T → Prop
  | .int i => -(10 ^ 12) ≤ i ∧ i ≤ 10 ^ 12
  | .str x => x.length ≤ 100
  | .lst ts => T.calms ts
  | .dic _ ts => T.calms ts
  | .tup ts => T.calms ts
  | .non => True
  | .bl _ => True
def T.calms : List T → Prop
  | [] => True
  | t :: ts => T.calm t ∧ T.calms ts
end
structure Fit (d z : Nat) (t : T) : Prop where
  few : T.few t
  calm : T.calm t
  dep : T.dep t ≤ d
  sz : T.sz t ≤ z
theorem pick_any {K : PySem.W.Frag} {H : Hp} {p : Addr} {xs : List V} {i : Int} {Q : VK} (h : H p = some (.lst xs)) (h0 : 0 ≤ i) (h1 : i < xs.length) (q : ∀ x ∈ xs, Q x H) : rIxL K (.ref p) (.int i) H Q := by
  obtain ⟨x, hx, hm⟩ := atI_of h0 h1
  exact rIxL_i (SqL.of h) hx (q x hm)
theorem few_pure : ∀ (n : Nat) (t : T), T.dep t ≤ n → T.few t → T.pure t := by
  intro n
  induction n with
  | zero =>
    intro t hd hf
    cases t with
    | lst ts => exact absurd hd (Nat.not_succ_le_zero _)
    | dic ks ts => exact absurd hd (Nat.not_succ_le_zero _)
    | tup ts => exact hf.elim
    | _ => exact True.intro
  | succ n ih =>
    have all : ∀ ts : List T, T.deps ts ≤ n → T.fews ts → T.pures ts := by
      intro ts
      induction ts with
      | nil => intros; exact True.intro
      | cons t ts ih2 =>
        intro hd hf
        have hd' : max (T.dep t) (T.deps ts) ≤ n := hd
        exact ⟨ih t (by omega) hf.1, ih2 (by omega) hf.2⟩
    intro t hd hf
    cases t with
    | lst ts => exact all ts (Nat.le_of_succ_le_succ hd) hf.2
    | dic ks ts => exact ⟨hf.1, all ts (Nat.le_of_succ_le_succ hd) hf.2.2.2⟩
    | tup ts => exact hf.elim
    | _ => exact True.intro
end L2
namespace L2
open PySem PySem.Spec PyProof.Rows
section
variable {P : Program} {w : World}
theorem pairs_0 {κ : Type} [DecidableEq κ] {knd : KeyKind P w κ} {A : Around} {E : Value → Shared → Prop} {s : Shared} {nm : String} {a b : Addr} {pa : List (κ × Value)} {Q : Bool → Shared → Prop} (na : (a == sysModules) = false) (nb : (b == sysModules) = false)
    (Da : s.heap.DictOf knd a pa) (Db : s.heap.DictOf knd b ([] : List (κ × Value))) (h0 : pa ≠ []) (q : Q false s) : wpAny (model P w) A (Builtin.Dict.samePairs nm a b) Q E s := by
  obtain ⟨o1, e1, n1, g1, _, d1, k1, p1, _⟩ := Da
  obtain ⟨o2, e2, n2, g2, _, d2, k2, p2, _⟩ := Db
  have s1 : pa.length = e1.size := by rw [← p1.length]; simp
  have s2 : (0 : Nat) = e2.size := by have := p2.length; simpa using this.symm
  have hpos : 0 < pa.length := List.length_pos_iff.mpr h0
  unfold Builtin.Dict.samePairs Builtin.Dict.showsAll
  rw [if_neg (show ¬ (a == sysModules) = true by rw [na]; exact Bool.false_ne_true), if_neg (show ¬ (b == sysModules) = true by rw [nb]; exact Bool.false_ne_true)]
  refine wpAny_bind (wpAny_pure (wpAny_bind (wpAny_pure (wpAny_bind (wpAny_dictEntries g1 d1 ?_)))))
  dsimp only
  refine wpAny_bind (wpAny_dictEntries g2 d2 ?_)
  rw [if_pos (by rw [← s1, ← s2]; simp; omega)]
  exact wpAny_bind (wpAny_rule (wpAny_pure q))
end
section
variable {X : Cx}
def rNeD : R2 := fun x y H Q => ∃ a b ps, x = .ref a ∧ y = .ref b ∧ H a = some (.dK ps) ∧ H b = some (.dK []) ∧ Q (.bl (!ps.isEmpty)) H
theorem op_ne_D (hu : X.A.units < cLine) : OpR X (compareOp .NotEq) rNeD := by
  intro pins s σ H x y v u Q I rx ry h
  obtain ⟨a, b, ps, rfl, rfl, ha, hb, q⟩ := h
  cases rx; cases ry
  obtain ⟨_, na, us, r1, Da⟩ := dk_of I.hok ha
  obtain ⟨_, nb, vs, r2, Db⟩ := dk_of I.hok hb
  have n1 := r1.length
  have n2 := r2.length
  have ev : vs = [] := List.length_eq_zero_iff.mp n2.symm
  subst ev
  refine wpAny_richCompare_same_room (op := .NotEq) Da.typeIs Db.typeIs PySem.F.slot_dict_ne (wpAny_call_entry PySem.F.slot_dict_ne Da.typeIs PySem.F.entry_dict_ne ?_ (PySem.F.args_dict_ne_2 _ _)) hu
  show wpAny _ _ (Builtin.Dict.dictSlotArgs "__ne__" ⟨[.ref a, .ref b], []⟩ >>= _) _ _ s
  refine wpAny_bind ?_
  unfold Builtin.Dict.dictSlotArgs
  refine wpAny_bind (wpAny_notOrdered_dict Da.typeIs ?_)
  show wpAny _ _ (pure (Value.ref a, Value.ref b)) _ _ s
  refine wpAny_pure (wpAny_bind (wpAny_isInstance (T := "dict") Db.typeIs F.sub_dict_dict ?_))
  simp only [Bool.not_true, Bool.false_eq_true, if_false]
  refine wpAny_bind (wpAny_pure (wpAny_bind (wpAny_pure ?_)))
  cases ps with
  | nil =>
    have eu : us = [] := List.length_eq_zero_iff.mp n1.symm
    subst eu
    exact wpAny_bind (eqm_pairs na nb Da Db rfl (fun i k v hi => by simp at hi) (wpAny_pure ⟨_, rfl, (fun x => nomatch x), ⟨.bl false, H, I, rfl, q⟩⟩))
  | cons p ps =>
    refine wpAny_bind (pairs_0 na nb Da Db (fun z => by rw [z] at n1; simp at n1) (wpAny_pure ⟨_, rfl, (fun x => nomatch x), ⟨.bl true, H, I, rfl, q⟩⟩))
end
theorem repl_away {k : Key} {v : V} : ∀ {ps : List (Key × V)}, k ∉ ps.map (·.1) → (ps.map fun kv => if kv.1 = k then (kv.1, v) else kv) = ps
  | [], _ => rfl
  | p :: ps, h => by
    rw [List.map_cons] at h ⊢
    have h1 : ¬ p.1 = k := fun e => h (by rw [← e]; exact List.mem_cons_self)
    rw [if_neg h1, repl_away fun z => h (List.mem_cons_of_mem _ z)]
theorem Reps.repl_sz {H : Hp} {k : Key} {v : V} {t : T} (hv : Rep H v t) : ∀ {ps : List (Key × V)} {ts : List T}, (ps.map (·.1)).Nodup → Reps H (ps.map (·.2)) ts →
    ∃ ts', Reps H ((ps.map fun kv => if kv.1 = k then (kv.1, v) else kv).map (·.2)) ts' ∧ (∀ u ∈ ts', u ∈ ts ∨ u = t) ∧ T.szs ts' ≤ T.szs ts + T.sz t
  | [], ts, _, h => ⟨ts, h, fun u hu => .inl hu, Nat.le_add_right _ _⟩
  | p :: ps, [], _, h => by
    have h' : (p :: ps).map (·.2) = [] := h
    cases h'
  | p :: ps, u :: ts, nd, ⟨v', r, e, h1, h2⟩ => by
    have e' : p.2 :: ps.map (·.2) = v' :: r := e
    injection e' with e1 e2
    subst e1 e2
    rw [List.map_cons, List.nodup_cons] at nd
    by_cases hk : p.1 = k
    · refine ⟨t :: ts, ⟨v, ps.map (·.2), ?_, hv, h2⟩, fun z hz => ?_, ?_⟩
      · rw [List.map_cons, if_pos hk, repl_away (by rw [← hk]; exact nd.1), List.map_cons]
      · rcases List.mem_cons.mp hz with q | q
        · exact .inr q
        · exact .inl (List.mem_cons_of_mem _ q)
      · show T.sz t + T.szs ts ≤ T.sz u + T.szs ts + T.sz t
        omega
    · obtain ⟨ts', r', m', z'⟩ := Reps.repl_sz hv nd.2 h2
      refine ⟨u :: ts', ⟨p.2, _, ?_, h1, r'⟩, fun z hz => ?_, ?_⟩
      · rw [List.map_cons, if_neg hk, List.map_cons]
      · rcases List.mem_cons.mp hz with q | q
        · exact .inl (by rw [q]; exact List.mem_cons_self)
        · exact (m' z q).imp (List.mem_cons_of_mem _) id
      · show T.sz u + T.szs ts' ≤ T.sz u + T.szs ts + T.sz t
        omega
theorem szs_snoc (t : T) : ∀ (ts : List T), T.szs (ts ++ [t]) = T.szs ts + T.sz t
  | [] => by show T.sz t + 0 = 0 + T.sz t; omega
  | u :: ts => by
    show T.sz u + T.szs (ts ++ [t]) = T.sz u + T.szs ts + T.sz t
    rw [szs_snoc t ts]; omega
theorem put_sz {H : Hp} {ps : List (Key × V)} {ks : List (List Nat)} {ts : List T} {n : List Nat} {v : V} {t : T} (hk : ps.map (·.1) = ks.map nK) (hR : Reps H (ps.map (·.2)) ts) (nd : ks.Nodup) (hv : Rep H v t) :
    ∃ (ks' : List (List Nat)) (ts' : List T), (putK ps (nK n) v).map (·.1) = ks'.map nK ∧ Reps H ((putK ps (nK n) v).map (·.2)) ts' ∧ ks'.Nodup ∧ (∀ u ∈ ts', u ∈ ts ∨ u = t) ∧ ks'.length ≤ ks.length + 1 ∧ T.szs ts' ≤ T.szs ts + T.sz t := by
  unfold putK
  by_cases h : (ps.any fun kv => decide (kv.1 = nK n)) = true
  · rw [if_pos h]
    obtain ⟨ts', r', m', z'⟩ := Reps.repl_sz (k := nK n) hv (by rw [hk]; exact nodup_nK nd) hR
    refine ⟨ks, ts', ?_, r', nd, m', Nat.le_succ _, z'⟩
    rw [← hk, List.map_map]
    apply List.map_congr_left
    intro p _
    show (if p.1 = nK n then (p.1, v) else p).1 = p.1
    split <;> rfl
  · rw [if_neg h]
    refine ⟨ks ++ [n], ts ++ [t], by rw [List.map_append, hk, List.map_append]; rfl, by rw [List.map_append]; exact Reps.snoc hv hR, ?_, fun u hu => ?_, by simp, by rw [szs_snoc]; exact Nat.le_refl _⟩
    · refine nd_snoc nd fun hm => h (List.any_eq_true.mpr ?_)
      have hm' : nK n ∈ ps.map (·.1) := by rw [hk]; exact List.mem_map.mpr ⟨n, hm, rfl⟩
      obtain ⟨p, hp, e⟩ := List.mem_map.mp hm'
      exact ⟨p, hp, decide_eq_true e⟩
    · rcases List.mem_append.mp hu with q | q
      · exact .inl q
      · exact .inr (List.mem_singleton.mp q)
end L2
namespace L2
open PySem PySem.Spec PyProof.Rows
theorem cut_to (xs : List V) (i : Nat) : cutV xs none (some (i : Int)) = xs.take i := by
  unfold cutV
  rw [HT.sIx_nat]
  show (xs.drop 0).take (min i xs.length - 0) = _
  rw [List.drop_zero, Nat.sub_zero]
  by_cases h : i ≤ xs.length
  · rw [Nat.min_eq_left h]
  · rw [Nat.min_eq_right (by omega), List.take_length, List.take_of_length_le (by omega)]
theorem cut_from (xs : List V) (i : Nat) : cutV xs (some (i : Int)) none = xs.drop i := by
  unfold cutV
  rw [HT.sIx_nat]
  show (xs.drop (min i xs.length)).take (xs.length - min i xs.length) = _
  by_cases h : i ≤ xs.length
  · rw [Nat.min_eq_left h, List.take_of_length_le (by rw [List.length_drop]; omega)]
  · rw [Nat.min_eq_right (by omega), List.drop_length, List.drop_of_length_le (by omega), List.take_nil]
theorem cut_last (xs : List V) : cutV xs none (some (-1)) = xs.take (xs.length - 1) := by
  unfold cutV
  show (xs.drop 0).take ((-1 + (xs.length : Int)).toNat - 0) = _
  rw [List.drop_zero, Nat.sub_zero]
  congr 1
  omega
theorem Reps.take {H : Hp} : ∀ {xs : List V} {us : List T} (i : Nat), Reps H xs us → Reps H (xs.take i) (us.take i)
  | xs, us, 0, _ => by rw [List.take_zero, List.take_zero]; exact rfl
  | xs, [], i + 1, h => by cases (show xs = [] from h); exact rfl
  | xs, u :: us, i + 1, ⟨x, r, e, h1, h2⟩ => by
    subst e
    rw [List.take_succ_cons, List.take_succ_cons]
    exact ⟨x, _, rfl, h1, Reps.take i h2⟩
theorem Reps.drop {H : Hp} : ∀ {xs : List V} {us : List T} (i : Nat), Reps H xs us → Reps H (xs.drop i) (us.drop i)
  | xs, us, 0, h => by rw [List.drop_zero, List.drop_zero]; exact h
  | xs, [], i + 1, h => by cases (show xs = [] from h); exact rfl
  | xs, u :: us, i + 1, ⟨x, r, e, h1, h2⟩ => by
    subst e
    rw [List.drop_succ_cons, List.drop_succ_cons]
    exact Reps.drop i h2
theorem Reps.reverse {H : Hp} : ∀ {xs : List V} {us : List T}, Reps H xs us → Reps H xs.reverse us.reverse
  | xs, [], h => by cases (show xs = [] from h); exact rfl
  | xs, u :: us, ⟨x, r, e, h1, h2⟩ => by
    subst e
    rw [List.reverse_cons, List.reverse_cons]
    exact Reps.snoc h1 (Reps.reverse h2)
theorem szs_append : ∀ (a b : List T), T.szs (a ++ b) = T.szs a + T.szs b
  | [], b => by show T.szs b = 0 + T.szs b; omega
  | u :: a, b => by
    show T.sz u + T.szs (a ++ b) = T.sz u + T.szs a + T.szs b
    rw [szs_append a b]; omega
theorem sz_pos : ∀ (t : T), 1 ≤ T.sz t
  | .lst ts => Nat.succ_le_succ (Nat.zero_le _)
  | .dic _ ts => Nat.succ_le_succ (Nat.zero_le _)
  | .tup ts => Nat.succ_le_succ (Nat.zero_le _)
  | .non => Nat.le_refl _
  | .bl _ => Nat.le_refl _
  | .int _ => Nat.le_refl _
  | .str _ => Nat.le_refl _
theorem len_szs : ∀ (ts : List T), ts.length ≤ T.szs ts
  | [] => Nat.le_refl _
  | t :: ts => by
    have := len_szs ts
    have := sz_pos t
    show ts.length + 1 ≤ T.sz t + T.szs ts
    omega
theorem szs_split {us : List T} {i : Nat} {t : T} (h : us[i]? = some t) : T.szs us = T.szs (us.take i) + T.sz t + T.szs (us.drop (i + 1)) := by
  obtain ⟨hl, e⟩ := List.getElem?_eq_some_iff.mp h
  conv => lhs; rw [← List.take_append_drop i us, szs_append, List.drop_eq_getElem_cons hl, e]
  show _ + (T.sz t + _) = _
  omega
end L2
namespace L2
open PySem PySem.Spec PyProof.Rows
section
variable {X : Cx} {pins : List (Addr × Obj)} {σ σ' : St} {H H' : Hp} {s s' : Shared}
theorem Inv.freezeL {d : Addr} {xs : List V} {o : Obj} (I : Inv X pins σ H s) (h : H d = some (.lst xs)) (hg : s.heap.get? d = some o) : Inv X pins σ (upd H d (.frz o (.lst xs))) s := by
  have ne : ∀ b u, H b = u → u ≠ some (.lst xs) → b ≠ d := fun b u e n z => by subst z; exact n (e.symm.trans h)
  refine I.sim (fun b e => by rw [upd_ne (ne b _ e (by intro z; cases z))]; exact e) (fun b a e => by rw [upd_ne (ne b _ e (by intro z; cases z))]; exact e) (fun b a e => by rw [upd_ne (ne b _ e (by intro z; cases z))]; exact e)
    (fun b a e => by rw [upd_ne (ne b _ e (by intro z; cases z))]; exact e) (fun b o' u e => ?_) fun b u e => ?_
  · have e' := I.base.frzs b o' u e
    rw [upd_ne (ne b _ e' (by intro z; cases z))]; exact e'
  · by_cases hb : b = d
    · subst hb
      rw [upd_same] at e; cases e
      exact .inr (.inr ⟨o, _, rfl, h, hg⟩)
    · rw [upd_ne hb] at e; exact .inl e
def tHide (d : Addr) (t : TE) : TE := fun σ H Q => (∃ kvs, H d = some (.dK kvs) ∧ ∀ o, t σ (upd H d (.frz o (.dK kvs))) fun v H' => Q v (thaw H H')) ∨ ∃ xs, H d = some (.lst xs) ∧ ∀ o, t σ (upd H d (.frz o (.lst xs))) fun v H' => Q v (thaw H H')
def tHides (t : TE) : TE := fun σ H Q => ∃ d, tHide d t σ H Q
theorem pe_hide {e : Expr} {t : TE} (h : PE X e t) : PE X e (tHides t) := by
  intro pins s σ H Q I q
  obtain ⟨d, ⟨kvs, hd, q⟩ | ⟨xs, hd, q⟩⟩ := q
  · obtain ⟨_, _, us, _, D⟩ := dk_of I.hok hd
    obtain ⟨o, ho, _⟩ := D.typeIs
    exact thn (h pins s σ _ _ (I.freeze hd ho) (q o)) fun u s1 ⟨v, H1, I1, r, q1⟩ => ⟨v, _, I.thaw I1, r, q1⟩
  · obtain ⟨us, r1, pl, _⟩ := I.list (SqL.of hd)
    obtain ⟨o, n, ho, _⟩ := pl
    exact thn (h pins s σ _ _ (I.freezeL hd ho) (q o)) fun u s1 ⟨v, H1, I1, r, q1⟩ => ⟨v, _, I.thaw I1, r, q1⟩
end
def hide (H : Hp) (d : Addr) : Hp := fun b => if b = d then none else H b
theorem hide_ne {H : Hp} {d b : Addr} (h : b ≠ d) : hide H d b = H b := if_neg h
theorem hide_at {H : Hp} {d : Addr} : hide H d d = none := if_pos rfl
theorem hide_upd {H : Hp} {d : Addr} {u : HO} : hide (upd H d u) d = hide H d := by
  funext b
  by_cases h : b = d
  · subst h; rw [hide_at, hide_at]
  · rw [hide_ne h, hide_ne h, upd_ne h]
theorem hide_sub {H : Hp} {d : Addr} {u : HO} : Same (hide H d) (upd H d u) := fun b v e => by
  by_cases h : b = d
  · subst h; rw [hide_at] at e; cases e
  · rw [hide_ne h] at e; rw [upd_ne h]; exact e
theorem hide_self {H : Hp} {d : Addr} : Same (hide H d) H := fun b v e => by
  by_cases h : b = d
  · subst h; rw [hide_at] at e; cases e
  · rw [hide_ne h] at e; exact e
theorem hide_new {H : Hp} {d : Addr} (h : H d = none) : hide H d = H := by
  funext b
  by_cases e : b = d
  · subst e; rw [hide_at, h]
  · rw [hide_ne e]
theorem hide_mono {H H' : Hp} {d : Addr} (h : Same H H') : Same (hide H d) (hide H' d) := fun b v e => by
  by_cases hb : b = d
  · subst hb; rw [hide_at] at e; cases e
  · rw [hide_ne hb] at e ⊢; exact h b v e
theorem Rep.off {H H' : Hp} {d : Addr} {o : Obj} {u : HO} (hd : H' d = some (.frz o u)) {v : V} {t : T} (h : Rep H' v t) : Rep (hide (L2.thaw H H') d) v t :=
  Rep.plain (fun b w n e => by
    have hb : b ≠ d := fun z => by subst z; rw [hd] at e; cases e; exact n _ _ rfl
    rw [hide_ne hb]
    exact thaw_of e n) v t h
theorem hide_thaw {H H' : Hp} {d : Addr} {o : Obj} {u : HO} (g : Same (upd H d (.frz o u)) H') : Same (hide H d) (hide (L2.thaw H H') d) := fun b w e => by
  by_cases hb : b = d
  · subst hb; rw [hide_at] at e; cases e
  · rw [hide_ne hb] at e ⊢
    have e' : H' b = some w := g b w (by rw [upd_ne hb]; exact e)
    cases w with
    | frz o' w' => rw [thaw_frz e]; exact e'
    | _ => exact thaw_of e' (by intro o v z; cases z)
theorem hide_back {H H' : Hp} {d : Addr} {o : Obj} {u : HO} (hd : H d = some u) (hu : ∀ o v, u ≠ .frz o v) (g : Same (upd H d (.frz o u)) H') : L2.thaw H H' d = some u :=
  thaw_at (g d _ upd_same) fun o v z => hu o v (Option.some.inj (hd.symm.trans z))
end L2
namespace L2
open PySem PySem.Spec PyProof.Rows
def sizeN : Nat → Nat
  | 0 => 1
  | d + 1 => 4 * sizeN d + 1
theorem sizeN_pos : ∀ d, 1 ≤ sizeN d
  | 0 => Nat.le_refl _
  | d + 1 => Nat.succ_le_succ (Nat.zero_le _)
theorem sizeN_le : ∀ d, d ≤ 4 → sizeN d ≤ 341 := by
  intro d h
  have : d = 0 ∨ d = 1 ∨ d = 2 ∨ d = 3 ∨ d = 4 := by omega
  rcases this with rfl | rfl | rfl | rfl | rfl <;> decide
theorem szs_bound {n : Nat} : ∀ {ts : List T}, (∀ t ∈ ts, T.sz t ≤ n) → T.szs ts ≤ ts.length * n
  | [], _ => Nat.zero_le _
  | t :: ts, h => by
    have h1 := h t List.mem_cons_self
    have h2 := szs_bound (ts := ts) fun u hu => h u (List.mem_cons_of_mem _ hu)
    show T.sz t + T.szs ts ≤ (ts.length + 1) * n
    rw [Nat.add_mul]; omega
def kA : Key := Sum.inr (Str.ofString "a")
def kB : Key := Sum.inr (Str.ofString "b")
theorem two_merge (v u : V) : mergeK [] [(kA, v), (kB, u)] = [(kA, v), (kB, u)] := mergeK_nodup _ [] (by show [kA, kB].Nodup; decide +kernel)
theorem two_rep {H : Hp} {p : Addr} {v u : V} {t t' : T} (h : H p = some (.dK [(kA, v), (kB, u)])) (hv : Rep H v t) (hu : Rep H u t') : Rep H (.ref p) (.dic [ts (Str.ofString "a"), ts (Str.ofString "b")] [t, t']) :=
  ⟨p, _, rfl, h, by simp only [List.map_cons, List.map_nil, tx_ts, kA, kB], _, _, rfl, hv, _, _, rfl, hu, rfl⟩
theorem ints_reps {H : Hp} : ∀ (is : List Int), Reps H (is.map V.int) (is.map T.int)
  | [] => rfl
  | i :: is => ⟨_, _, rfl, rfl, ints_reps is⟩
theorem ints_szs : ∀ (is : List Int), T.szs (is.map T.int) = is.length
  | [] => rfl
  | i :: is => by
    show 1 + T.szs (is.map T.int) = is.length + 1
    rw [ints_szs is]; omega
theorem merge_reps {H : Hp} : ∀ (kvs : List (Key × V)) (ns : List (List Nat)) (ts : List T) (qs : List (Key × V)) (ks : List (List Nat)) (us : List T), kvs.map (·.1) = ns.map nK → Reps H (kvs.map (·.2)) ts → qs.map (·.1) = ks.map nK → Reps H (qs.map (·.2)) us → ks.Nodup →
    ∃ (ks2 : List (List Nat)) (us2 : List T), (mergeK qs kvs).map (·.1) = ks2.map nK ∧ Reps H ((mergeK qs kvs).map (·.2)) us2 ∧ ks2.Nodup ∧ ks2.length ≤ ks.length + kvs.length ∧ (∀ u ∈ us2, u ∈ us ∨ u ∈ ts) ∧ T.szs us2 ≤ T.szs us + T.szs ts
  | [], ns, ts, qs, ks, us, _, _, h3, h4, h5 => ⟨ks, us, h3, h4, h5, Nat.le_refl _, fun u hu => .inl hu, Nat.le_add_right _ _⟩
  | (k, v) :: kvs, [], ts, qs, ks, us, h1, _, _, _, _ => by simp at h1
  | (k, v) :: kvs, n :: ns, [], qs, ks, us, _, h2, _, _, _ => by
    have h2' : ((k, v) :: kvs).map (·.2) = [] := h2
    cases h2'
  | (k, v) :: kvs, n :: ns, t :: ts, qs, ks, us, h1, ⟨x, r, e, hx, hr⟩, h3, h4, h5 => by
    rw [List.map_cons, List.map_cons] at h1
    injection h1 with e1 e2
    have e' : v :: kvs.map (·.2) = x :: r := e
    injection e' with e3 e4
    subst e3 e4
    have ek : k = nK n := e1
    subst ek
    obtain ⟨ks1, us1, a1, a2, a3, a4, a5, a6⟩ := put_sz (n := n) h3 h4 h5 hx
    obtain ⟨ks2, us2, b1, b2, b3, b4, b5, b6⟩ := merge_reps kvs ns ts (putK qs (nK n) v) ks1 us1 e2 hr a1 a2 a3
    refine ⟨ks2, us2, b1, b2, b3, ?_, fun u hu => ?_, ?_⟩
    · rw [List.length_cons]; omega
    · rcases b5 u hu with z | z
      · rcases a4 u z with z | z
        · exact .inl z
        · exact .inr (by rw [z]; exact List.mem_cons_self)
      · exact .inr (List.mem_cons_of_mem _ z)
    · show T.szs us2 ≤ T.szs us + (T.sz t + T.szs ts)
      omega
end L2
namespace L2
open PySem PySem.Spec PyProof.Rows PySem.Builtin PySem.Builtin.Str
section
variable {prog : Program} {w : World} {A : Around} {E : Value → Shared → Prop} {s : Shared} {x y : Str} {t u : Tok} {Q : Value → Shared → Prop}
end
section
variable {X : Cx}
end
structure Bl3 (mg : Str → Option Value) : Prop extends Bl2 mg where
  abs : mg "abs" = none
end L2
namespace L2
open PySem PySem.Spec PyProof.Rows
def cellF (ns : List Int) (k : Int) : Int :=
  let m := if ns = [] then k * 7919 else (k * 7919 + k / ns.length * 104729 + ns.getD (k % ns.length).toNat 0 * 48271) % 1000003
  (m * m / 11 + 13 * m) % 1000003
theorem cellF_lo (ns : List Int) (k : Int) : 0 ≤ cellF ns k := Int.emod_nonneg _ (by decide)
theorem cellF_hi (ns : List Int) (k : Int) : cellF ns k < 1000003 := Int.emod_lt_of_pos _ (by decide)
end L2
namespace L2
open PySem PySem.Spec PyProof.Rows PySem.Builtin PySem.Builtin.Str
theorem okName_len {k : List Nat} (h : okName k = true) : k.length ≤ 12 := by
  unfold okName at h
  simp only [Bool.and_eq_true, decide_eq_true_eq] at h
  omega
theorem app_len (x y : Str) : (x ++ y).length = x.length + y.length := by
  rw [← tx_ts x, ← tx_ts y, app_tx, tx_len, tx_len, tx_len, List.length_append]
end L2
namespace L2
open PySem PySem.Spec PyProof.Rows
section
variable {X : Cx}
end
end L2
namespace L2
open PySem PySem.Spec PyProof.Rows
end L2
namespace L2
open PySem PySem.Spec PyProof.Rows
section
variable {X : Cx} {pins : List (Addr × Obj)} {σ : St} {H : Hp} {s : Shared} {h' : Heap}
theorem Inv.turnedNew {fp : List Addr} {a : Addr} {o : HO} {t' : Nat} (I : Inv X pins σ H s) (hf : ∀ b ∈ fp, FpOk X pins H b) (k : ∀ b ob, b ∉ fp → s.heap.get? b = some ob → h'.get? b = some ob) (hp : s.heap.objs.size ≤ a)
    (new : ObjOk X.prog X.w (upd H a o) h' a o) : Inv X pins σ (upd H a o) { s with heap := h', toks := t' } := by
  have hn : H a = none := I.hok.fresh hp
  have nfp : ∀ b u, H b = some u → b ∉ fp := fun b u e z => by rw [(hf b z).1] at e; cases e
  have nea : ∀ b ob, s.heap.get? b = some ob → b ≠ a := fun b ob e => Nat.ne_of_lt (Nat.lt_of_lt_of_le (Heap.lt_size e) hp)
  refine I.step (g' := s.gens) (d' := s.drawn) (ch := fp) (fun b hb => ?_) (fun b ob _ _ hc e _ => k b ob hc e) (fun b ob _ _ hc e _ => ⟨ob.slots, k b ob hc e⟩) (fun b ob _ e n => by rw [upd_ne (nea b ob e)]; exact n)
    (fun b ob hc e => ⟨ob, k b ob hc e⟩) (fun b xs e => by rw [upd_ne (ne_of_none e hn)]; exact e) (fun b ob u e => by rw [upd_ne (ne_of_none e hn)]; exact e) (fun b ps e => ⟨#[], by rw [upd_ne (ne_of_none e hn), e]; simp⟩) (fun m hm => ?_) (fun b u e => ?_) I.bare
  · obtain ⟨_, f1, _, f3, f4, f5⟩ := hf b hb
    exact ⟨f3, f1, f4, f5⟩
  · obtain ⟨ob, es, ep, ho, r⟩ := hm
    exact ⟨ob, es, ep, k _ ob (fun z => (hf _ z).2.1 rfl) ho, r⟩
  · by_cases hb : b = a
    · subst hb; rw [upd_same] at e; cases e; exact new
    · rw [upd_ne hb] at e
      refine (I.hok b u e).stay (fun c v hc q => k c v ?_ q) (fun c q => by rw [upd_ne (ne_of_none q hn)]; exact q) fun c xs q => by rw [upd_ne (ne_of_none q hn)]; exact q
      rcases hc with z | z
      · rw [z]; exact nfp b u e
      · exact nfp c _ z
end
def Iti (d : Addr) (o : Obj) (kvs : List (Key × V)) : It :=
  ⟨fun i H => i < kvs.length ∧ H d = some (.frz o (.dK kvs)), fun i H y H' => ∃ p kv, H p = none ∧ kvs[i]? = some kv ∧ y = .ref p ∧ H' = upd H p (.tup [kV kv.1, kv.2]), fun i H => kvs.length ≤ i ∧ H d = some (.frz o (.dK kvs))⟩
theorem it_entry : entryFor table "dict_itemiterator.__iter__" = some Builtin.«dict_keyiterator.__iter__» :=
  entryFor_alias (by kernel_rfl) rfl (by decide +kernel) (by kernel_rfl) (id' := "dict_keyiterator.__iter__")
theorem turn_items {P : Program} {w : World} {K : PySem.W.Frag} {elts : List Expr} {x1 : Nat} {pos : Pos} (d it : Addr) (o : Obj) (kvs : List (Key × V)) :
    Turn P w K (.Tuple elts x1 pos) (Iti d o kvs) [it] it (fun i h => ∃ es ep ok ov, o.data = .dict es ep ∧ IsItemIter h it d i kvs.length ep ok ov) where
  mem := by simp
  obj := fun i h st b hb => by
    obtain ⟨es, ep, ok, ov, _, e⟩ := st
    have e' : b = it := by simpa using hb
    subst e'
    exact ⟨_, e, fun v z => by cases z⟩
  keep := fun i h h' st k => by
    obtain ⟨es, ep, ok, ov, a, st⟩ := st
    exact ⟨es, ep, ok, ov, a, k it (by simp) _ st⟩
  item := by
    intro X hP hw hK hc i pins s σ H E I hf st hg
    subst hP hw hK
    obtain ⟨es, ep, ok, ov, hes, st⟩ := st
    obtain ⟨hi, hg⟩ := hg
    obtain ⟨vs, rel, hm, _, _⟩ := dictAt_of I.hok hg hes
    have hl := rel.length
    obtain ⟨kv, hkv⟩ : ∃ kv, kvs[i]? = some kv := ⟨kvs[i], by simp [hi]⟩
    obtain ⟨q, hq, hq1, hq2⟩ := KV.get rel hkv
    rw [hl] at st
    have hlt : it < s.heap.objs.size := Heap.lt_size st
    refine wpAny_pyNext_items_item (k := q.1) (v := q.2) st hm hq fun key h1 hk so ht hz keep => ⟨_, rfl, ?_⟩
    refine wpAny_letOwnedTupleGo_items so fun h2 st2 sb => ?_
    have sb : Heap.SameBut it h1 h2 := sb
    have ht2 : h2.get? s.heap.objs.size = some { cls := .type "tuple", data := .seq #[key, q.2] } := (sb.2 _ (Nat.ne_of_gt hlt)).trans ht
    have hnew : H s.heap.objs.size = none := I.hok.fresh (Nat.le_refl _)
    refine ⟨.ref s.heap.objs.size, upd H s.heap.objs.size (.tup [kV kv.1, kv.2]), I.turnedNew (t' := s.toks) hf (fun b ob hb e => ?_) (Nat.le_refl _) ?_, rfl, ⟨_, kv, hnew, hkv, rfl, rfl⟩, ⟨es, ep, key, q.2, hes, by rw [hl]; exact st2⟩, fun b hb => ?_⟩
    · have hne : b ≠ it := by simpa using hb
      exact (sb.2 b hne).trans (keep b ob hne e)
    · refine ⟨by rw [sizeLine_eq]; simp, [key, q.2], .cons (by rw [hq1]; exact rel_key hk) (.cons hq2 .nil), ⟨_, ht2, rfl, _, rfl⟩⟩
    · have e : b = it := by simpa using hb
      subst e
      rw [upd_ne (Nat.ne_of_lt hlt)]
      exact (hf _ (by simp)).1
  done := by
    intro X hP hw hK hc i pins s σ H E I hf st hg
    subst hP hw hK
    obtain ⟨es, ep, ok, ov, hes, st⟩ := st
    obtain ⟨hi, hg⟩ := hg
    obtain ⟨vs, rel, hm, _, _⟩ := dictAt_of I.hok hg hes
    obtain ⟨f0, f1, f2, f3, f4, f5⟩ := hf it (by simp)
    have hl := rel.length
    rw [hl] at st
    exact wpAny_pyNext_items_end (I.ok.hd hc) st hm (by simp; omega) fun h' eb => ⟨rfl, I.turned (t' := s.toks) (fun b o hb e => eb b o hb e) f0 f1 f3 f4 f5⟩
  self := fun A i s Q E st h => by
    obtain ⟨es, ep, ok, ov, _, st⟩ := st
    have hT : s.TypeIs (.ref it) "dict_itemiterator" := ⟨_, st, rfl⟩
    refine wpAny_pyIter_slot hT F.slot_dict_itemiterator_iter (wpAny_call_entry F.slot_dict_itemiterator_iter hT it_entry ?_ (F.args_dict_itemiterator_iter_1 _))
    show wpAny _ _ (ret (.ref it)) _ _ s
    exact wpAny_pure ⟨_, rfl, "dict_itemiterator", _, hT, F.slot_dict_itemiterator_next.lookup, h⟩
def itmO (p d : Addr) : HO := .ext fun h => h.IsItemsView p d
def rItems : V → List V → Hp → VK → Prop := fun x vs H Q => ∃ d kvs, x = .ref d ∧ vs = [] ∧ Rd H d (.dK kvs) ∧ ∀ p, H p = none → Q (.ref p) (upd H p (itmO p d))
def iItems (tl : TE) : TI := fun σ H R => tl σ H fun x H1 => ∃ p d kvs, x = .ref p ∧ H1 p = some (itmO p d) ∧ ((H1 d = some (.dK kvs) ∧ ∀ o, R (Iti d o kvs) (upd H1 d (.frz o (.dK kvs)))) ∨ ∃ o, H1 d = some (.frz o (.dK kvs)) ∧ R (Iti d o kvs) H1)
section
variable {X : Cx}
theorem mt_items : MtR X "dict.items" rItems := by
  intro pins s σ H x vs v us Q I rx rv h
  obtain ⟨d, kvs, rfl, rfl, hq, q⟩ := h
  cases rx
  cases rv
  obtain ⟨z, hd, ws, rel, dd⟩ := dk_rd I.hok hq
  refine call_meetsIn PySem.F.slot_dict_items dd.typeIs PySem.F.entry_dict_items (PySem.F.args_dict_items_1 _) (meets_dict_items (mixKind X.prog X.w) d hd) ⟨⟨ws, dd⟩, ?_⟩
  refine ⟨.ref s.heap.objs.size, _, I.laid (t' := s.toks) (fun b o e => Heap.get?_push_of_some _ e) (Nat.le_refl _) (o := itmO s.heap.objs.size d) ?_, rfl, q _ (I.hok.fresh (Nat.le_refl _))⟩
  exact ⟨⟨_, Heap.get?_push_size _ rfl, rfl, rfl⟩, ⟨_, Heap.get?_push_size _ rfl⟩, fun h1 h2 ⟨o, e, r⟩ k => ⟨o, k o e, r⟩⟩
theorem pi_items {elts : List Expr} {x1 : Nat} {pos : Pos} {l : Expr} {tl : TE} (hl : PE X l tl) : PI X (.Tuple elts x1 pos) l (iItems tl) := by
  intro pins s σ H R I h
  refine thn (hl pins s σ H _ I h) fun v s1 ⟨x, H1, I1, r1, q1⟩ => ?_
  obtain ⟨p, d, kvs, rfl, hp, q⟩ := q1
  cases r1
  obtain ⟨hv, _⟩ := (show ObjOk X.prog X.w H1 s1.heap p (itmO p d) from I1.hok p _ hp)
  have fin : ∀ o H2, Inv X pins σ H2 s1 → H2 d = some (.frz o (.dK kvs)) → R (Iti d o kvs) H2 → wpAny (model X.prog X.w) X.A (pyIter (.ref p)) (PIE X pins σ (.Tuple elts x1 pos) R) X.xe s1 := fun o H2 I2 e q => by
    obtain ⟨g, z, hd, vs, rel, o', es, ep, ho, c, hdat, r⟩ := (show ObjOk X.prog X.w H2 s1.heap d (.frz o (.dK kvs)) from I2.hok d _ e)
    rw [g] at ho; cases ho
    have hm : s1.heap.DictAt (mixKind X.prog X.w) d vs ep := ⟨o, es, g, c, hdat, r⟩
    refine wpAny_pyIter_items hv hm ?_
    refine ⟨s1.heap.objs.size, [s1.heap.objs.size], _, _, H2, rfl, I2.kept (t' := s1.toks) fun b o e => Heap.get?_push_of_some _ e, turn_items d _ o kvs, ⟨es, ep, .none, .none, hdat, ?_⟩, fun b hb => ?_, q⟩
    · rw [rel.length]; exact Heap.get?_push_size _ rfl
    · have e : b = s1.heap.objs.size := by simpa using hb
      subst e
      exact I2.fpOk (Nat.le_refl _) (I2.hok.fresh (Nat.le_refl _))
  rcases q with ⟨e, q⟩ | ⟨o, e, q⟩
  · obtain ⟨z, hd, vs, rel, o, es, ep, ho, _⟩ := (show ObjOk X.prog X.w H1 s1.heap d (.dK kvs) from I1.hok d _ e)
    exact fin o _ (I1.freeze e ho) upd_same (q o)
  · exact fin o _ I1 e q
end
abbrev g2 (K : PySem.W.Frag) : TG := gTup K 2 (gCons (gName 0) (gCons (gName 1) gNil))
theorem weak_two {F : List (Option V)} {x y : V} : Weak (some x :: some y :: F) (none :: none :: F) := ⟨rfl, fun i v e => by
  match i, e with
  | 0, e => cases e
  | 1, e => cases e
  | i + 2, e => exact e⟩
theorem comp_by2 {K : PySem.W.Frag} {x y : Str} {F : List (Str × Nat)} {J : It} {n : Nat} {te : TE} {σ : St} {Q : VK} {H1 : Hp} (Pv : Nat → List V → Hp → Prop) (hn : n ≤ sizeLine) (h0 : Pv 0 [] H1) (hgo : ∀ i ys H, i < n → Pv i ys H → J.go i H)
    (hst : ∀ ys H, Pv n ys H → J.stop n H)
    (hs : ∀ i ys H z H2, i < n → ys.length ≤ i → Pv i ys H → J.yld i H z H2 → ∃ a u v, z = .ref a ∧ SqT K H2 a [u, v] ∧ te (some u :: some v :: F.map (fun p => (σ[p.2]?).join)) H2 fun r H4 => Pv (i + 1) (ys ++ [r]) H4)
    (hd : ∀ ys H, ys.length ≤ n → Pv n ys H → ∀ p, H p = none → Q (.ref p) (upd H p (.lst ys))) : CompBody [x, y] F (g2 K) tTrue te σ Q J H1 := by
  refine ⟨fun i m ys H => m = n - i ∧ i ≤ n ∧ Pv i ys H, ⟨n, by simp, Nat.zero_le _, h0⟩, ?_⟩
  rintro i m ys H ⟨rfl, hi, p⟩ hl
  by_cases hlt : i < n
  · refine .inr ⟨hgo i ys H hlt p, by omega, Pv (i + 1), fun ys' H'' q => ⟨n - (i + 1), by omega, rfl, hlt, q⟩, fun z H2 hz => ?_⟩
    obtain ⟨a, u, v, rfl, hq, ht⟩ := hs i ys H z H2 hlt hl p hz
    refine ⟨a, [u, v], rfl, hq, rfl, u, [v], rfl, v, [], rfl, rfl, ?_⟩
    exact ⟨weak_two, ht⟩
  · have e : i = n := by omega
    subst e
    exact .inl ⟨hst ys H p, hn, hd ys H hl p⟩
theorem comp_items {K : PySem.W.Frag} {x y : Str} {F : List (Str × Nat)} {d : Addr} {o : Obj} {kvs : List (Key × V)} {te : TE} {σ : St} {Q : VK} {H1 : Hp} (Pv : Nat → List V → Hp → Prop) (hn : kvs.length ≤ sizeLine) (h0 : Pv 0 [] H1) (hz : ∀ i ys H, Pv i ys H → H d = some (.frz o (.dK kvs)))
    (hs : ∀ i kv ys H p, kvs[i]? = some kv → ys.length ≤ i → Pv i ys H → H p = none → te (some (kV kv.1) :: some kv.2 :: F.map (fun p => (σ[p.2]?).join)) (upd H p (.tup [kV kv.1, kv.2])) fun z H4 => Pv (i + 1) (ys ++ [z]) H4)
    (hd : ∀ ys H, ys.length ≤ kvs.length → Pv kvs.length ys H → ∀ p, H p = none → Q (.ref p) (upd H p (.lst ys))) : CompBody [x, y] F (g2 K) tTrue te σ Q (Iti d o kvs) H1 :=
  comp_by2 Pv hn h0 (fun i ys H h p => ⟨h, hz i ys H p⟩) (fun ys H p => ⟨Nat.le_refl _, hz _ ys H p⟩) (fun i ys H z H2 h1 h2 h3 h4 => by
    obtain ⟨p, kv, hp, hkv, rfl, rfl⟩ := h4
    exact ⟨p, _, _, rfl, .of upd_same, hs i kv ys H p hkv h2 h3 hp⟩) hd
end L2
namespace L2
open PySem PySem.Spec PyProof.Rows
def tyR (H : Hp) : V → Option String
  | .ref a => match H a with
    | some (.frz _ (.dK _)) => some "dict"
    | _ => tyS H (.ref a)
  | v => tyS H v
theorem tyR_mem {H : Hp} {x : V} {t : String} (h : tyR H x = some t) : t ∈ tyL := by
  cases x with
  | ref a =>
    have h' : (match H a with | some (.frz _ (.dK _)) => some "dict" | _ => tyS H (.ref a)) = some t := h
    split at h'
    · cases h'; simp [tyL]
    · exact tyS_mem h'
  | non => exact tyS_mem (H := H) (show tyS H .non = some t from h)
  | bl b => exact tyS_mem (H := H) (show tyS H (.bl b) = some t from h)
  | int b => exact tyS_mem (H := H) (show tyS H (.int b) = some t from h)
  | str b => exact tyS_mem (H := H) (show tyS H (.str b) = some t from h)
  | byt b => exact tyS_mem (H := H) (show tyS H (.byt b) = some t from h)
  | flt b => exact tyS_mem (H := H) (show tyS H (.flt b) = some t from h)
  | ty b => exact tyS_mem (H := H) (show tyS H (.ty b) = some t from h)
theorem tyR_of {H : Hp} {x : V} {t : String} (h : tyS H x = some t) : tyR H x = some t := by
  cases x with
  | ref a =>
    show (match H a with | some (.frz _ (.dK _)) => some "dict" | _ => tyS H (.ref a)) = some t
    split
    · rename_i o kvs e
      have h' : (match H a with | some (.lst _) => some "list" | some (.tup _) => some "tuple" | some (.dK _) => some "dict" | _ => none) = some t := h
      rw [e] at h'; cases h'
    · exact h
  | _ => exact h
theorem tyR_dic {H : Hp} {a : Addr} {ps : List (Key × V)} (h : Rd H a (.dK ps)) : tyR H (.ref a) = some "dict" := by
  rcases h with h | ⟨o, h⟩
  · exact tyR_of (tyS_dK h)
  · show (match H a with | some (.frz _ (.dK _)) => some "dict" | _ => tyS H (.ref a)) = some "dict"
    rw [h]
section
variable {X : Cx}
theorem call_isiR {T : String} (hT : T ∈ tyL) : CallR X (.builtin "isinstance") (fun xs H Q => ∃ x t, xs = [x, .ty T] ∧ tyR H x = some t ∧ Q (.bl (isSub t T)) H) := by
  intro pins s σ H xs us Q I r h
  obtain ⟨x, t, rfl, ht, q⟩ := h
  cases x with
  | ref a =>
    have h' : (match H a with | some (.frz _ (.dK _)) => some "dict" | _ => tyS H (.ref a)) = some t := ht
    split at h'
    · rename_i o kvs e
      cases h'
      obtain ⟨u, w', rfl, ru, rw'⟩ := vals2 r
      cases (show w' = Value.type T from rw')
      cases (show u = Value.ref a from ru)
      obtain ⟨_, _, vs, _, p⟩ := dk_rd I.hok (.inr ⟨o, e⟩)
      obtain ⟨ob, es, ep, h1, h2, _⟩ := p
      exact PySem.W.kia_one PySem.W.kitx_dict I.kIn ⟨ob, h1, h2.1⟩ (kit_bi (by simp [tyL]) hT) (fun z => nomatch z) fun tk => ⟨.bl _, H, I.tok _, rfl, q⟩
    · exact call_isi hT pins s σ H _ us Q I r ⟨_, t, rfl, h', q⟩
  | _ => exact call_isi hT pins s σ H _ us Q I r ⟨_, t, rfl, ht, q⟩
theorem call_lenR : CallR X (.builtin "len") (fun xs H Q => ∃ a kvs, xs = [V.ref a] ∧ Rd H a (.dK kvs) ∧ Q (.int kvs.length) H) := by
  intro pins s σ H xs us Q I r h
  obtain ⟨a, kvs, rfl, ha, q⟩ := h
  obtain ⟨u, rfl, ru⟩ := vals1 r
  cases ru
  exact d_len I ha fun t s' I' => ⟨.int kvs.length, H, I', ⟨t, rfl⟩, q⟩
end
theorem Rd.same {H H' : Hp} (g : Same H H') {a : Addr} {u : HO} (h : Rd H a u) : Rd H' a u := h.imp (g _ _) fun ⟨o, e⟩ => ⟨o, g _ _ e⟩
theorem pg_tupC {X : Cx} {K : PySem.W.Frag} (hK : X.K = K) {es : List Expr} {k : Nat} {pos : Pos} {t : TGs} {n : Nat} (hc : X.calm = true) (h : PGs X es t)
    (hn : (assignEach es X.env).length = n := by rfl) (hst : (assignEach es X.env).findIdx? (·.1) = none := by rfl) : PG X (.Tuple es k pos) (gTup K n t) := by subst hK; exact pg_tup hc h hn hst
structure Bl4 (mg : Str → Option Value) : Prop extends Bl2 mg where
  enumerate : mg "enumerate" = none
end L2
namespace L2
open PySem PySem.Spec PyProof.Rows
mutual
def Sp1 (H : Hp) : V → T → List Addr → Prop
  | v, .non, D => D = [] ∧ v = .non
  | v, .bl b, D => D = [] ∧ v = .bl b
  | v, .int i, D => D = [] ∧ v = .int i
  | v, .str x, D => D = [] ∧ v = .str (tx x)
  | v, .lst ts, D => ∃ a vs D', v = .ref a ∧ H a = some (.lst vs) ∧ D = a :: D' ∧ a ∉ D' ∧ Sps H vs ts D'
  | v, .dic ks ts, D => ∃ a ps D', v = .ref a ∧ H a = some (.dK ps) ∧ ps.map (·.1) = ks.map (fun k => (Sum.inr (tx k) : Key)) ∧ D = a :: D' ∧ a ∉ D' ∧ Sps H (ps.map (·.2)) ts D'
  | _, .tup _, _ => False
def Sps (H : Hp) : List V → List T → List Addr → Prop
  | vs, [], D => vs = [] ∧ D = []
  | vs, t :: ts, D => ∃ v r D1 D2, vs = v :: r ∧ D = D1 ++ D2 ∧ Sp1 H v t D1 ∧ Sps H r ts D2 ∧ ∀ b ∈ D1, b ∉ D2
end
mutual
theorem Sp1.rep {H : Hp} : ∀ (v : V) (t : T) (D : List Addr), Sp1 H v t D → Rep H v t
  | _, .non, _, h => h.2
  | _, .bl _, _, h => h.2
  | _, .int _, _, h => h.2
  | _, .str _, _, h => h.2
  | _, .lst ts, _, ⟨a, vs, D', h1, h2, _, _, h3⟩ => ⟨a, vs, h1, h2, Sps.rep vs ts D' h3⟩
  | _, .dic ks ts, _, ⟨a, ps, D', h1, h2, h3, _, _, h4⟩ => ⟨a, ps, h1, h2, h3, Sps.rep _ ts D' h4⟩
  | _, .tup _, _, h => h.elim
theorem Sps.rep {H : Hp} : ∀ (vs : List V) (ts : List T) (D : List Addr), Sps H vs ts D → Reps H vs ts
  | _, [], _, h => h.1
  | _, t :: ts, _, ⟨v, r, D1, D2, h1, _, h2, h3, _⟩ => ⟨v, r, h1, Sp1.rep v t D1 h2, Sps.rep r ts D2 h3⟩
end
mutual
theorem Sp1.keep {H H' : Hp} : ∀ (v : V) (t : T) (D : List Addr), (∀ b ∈ D, ∀ o, (∀ ob u, o ≠ HO.frz ob u) → H b = some o → H' b = some o) → Sp1 H v t D → Sp1 H' v t D
  | _, .non, _, _, h => h
  | _, .bl _, _, _, h => h
  | _, .int _, _, _, h => h
  | _, .str _, _, _, h => h
  | _, .lst ts, _, k, ⟨a, vs, D', h1, h2, e, n, h3⟩ => ⟨a, vs, D', h1, k a (by rw [e]; exact List.mem_cons_self) _ (by intro ob u z; cases z) h2, e, n, Sps.keep vs ts D' (fun b hb => k b (by rw [e]; exact List.mem_cons_of_mem _ hb)) h3⟩
  | _, .dic ks ts, _, k, ⟨a, ps, D', h1, h2, h3, e, n, h4⟩ => ⟨a, ps, D', h1, k a (by rw [e]; exact List.mem_cons_self) _ (by intro ob u z; cases z) h2, h3, e, n, Sps.keep _ ts D' (fun b hb => k b (by rw [e]; exact List.mem_cons_of_mem _ hb)) h4⟩
  | _, .tup _, _, _, h => h.elim
theorem Sps.keep {H H' : Hp} : ∀ (vs : List V) (ts : List T) (D : List Addr), (∀ b ∈ D, ∀ o, (∀ ob u, o ≠ HO.frz ob u) → H b = some o → H' b = some o) → Sps H vs ts D → Sps H' vs ts D
  | _, [], _, _, h => h
  | _, t :: ts, _, k, ⟨v, r, D1, D2, h1, e, h2, h3, n⟩ => ⟨v, r, D1, D2, h1, e, Sp1.keep v t D1 (fun b hb => k b (by rw [e]; exact List.mem_append_left _ hb)) h2, Sps.keep r ts D2 (fun b hb => k b (by rw [e]; exact List.mem_append_right _ hb)) h3, n⟩
end
mutual
theorem Sp1.there {H : Hp} {b : Addr} : ∀ (v : V) (t : T) (D : List Addr), Sp1 H v t D → b ∈ D → ∃ o, H b = some o
  | _, .non, _, h, hb => by rw [h.1] at hb; cases hb
  | _, .bl _, _, h, hb => by rw [h.1] at hb; cases hb
  | _, .int _, _, h, hb => by rw [h.1] at hb; cases hb
  | _, .str _, _, h, hb => by rw [h.1] at hb; cases hb
  | _, .lst ts, _, ⟨a, vs, D', h1, h2, e, n, h3⟩, hb => by
    rw [e] at hb
    rcases List.mem_cons.mp hb with z | z
    · exact ⟨_, by rw [z]; exact h2⟩
    · exact Sps.there vs ts D' h3 z
  | _, .dic ks ts, _, ⟨a, ps, D', h1, h2, h3, e, n, h4⟩, hb => by
    rw [e] at hb
    rcases List.mem_cons.mp hb with z | z
    · exact ⟨_, by rw [z]; exact h2⟩
    · exact Sps.there _ ts D' h4 z
  | _, .tup _, _, h, _ => h.elim
theorem Sps.there {H : Hp} {b : Addr} : ∀ (vs : List V) (ts : List T) (D : List Addr), Sps H vs ts D → b ∈ D → ∃ o, H b = some o
  | _, [], _, h, hb => by rw [h.2] at hb; cases hb
  | _, t :: ts, _, ⟨v, r, D1, D2, h1, e, h2, h3, n⟩, hb => by
    rw [e] at hb
    rcases List.mem_append.mp hb with z | z
    · exact Sp1.there v t D1 h2 z
    · exact Sps.there r ts D2 h3 z
end
theorem Sp1.same {H H' : Hp} (g : Same H H') {v : V} {t : T} {D : List Addr} (h : Sp1 H v t D) : Sp1 H' v t D := Sp1.keep v t D (fun b _ o _ e => g b o e) h
theorem Sps.same {H H' : Hp} (g : Same H H') {v : List V} {t : List T} {D : List Addr} (h : Sps H v t D) : Sps H' v t D := Sps.keep v t D (fun b _ o _ e => g b o e) h
theorem Sps.snoc {H : Hp} {v : V} {t : T} {D1 : List Addr} (h : Sp1 H v t D1) : ∀ {vs : List V} {ts : List T} {D : List Addr}, Sps H vs ts D → (∀ b ∈ D, b ∉ D1) → Sps H (vs ++ [v]) (ts ++ [t]) (D ++ D1)
  | _, [], D, e, _ => by
    obtain ⟨e1, e2⟩ := e
    subst e1 e2
    exact ⟨v, [], D1, [], rfl, by simp, h, ⟨rfl, rfl⟩, fun _ _ z => nomatch z⟩
  | _, t' :: ts, D, ⟨v', r, E1, E2, h1, e, h2, h3, n⟩, hd => by
    subst h1 e
    refine ⟨v', r ++ [v], E1, E2 ++ D1, rfl, by simp, h2, Sps.snoc h h3 fun b hb => hd b (List.mem_append_right _ hb), fun b hb z => ?_⟩
    rcases List.mem_append.mp z with c | c
    · exact n b hb c
    · exact hd b (List.mem_append_left _ hb) c
theorem none_back {H H' : Hp} (g : Same H H') {p : Addr} (h : H' p = none) : H p = none := by
  cases e : H p with
  | none => rfl
  | some o => rw [g _ _ e] at h; cases h
theorem Sps.thaw {H H' : Hp} {vs : List V} {ts : List T} {D : List Addr} (h : Sps H' vs ts D) : Sps (L2.thaw H H') vs ts D := Sps.keep vs ts D (fun _ _ _ n e => thaw_of e n) h
end L2
namespace L2
open PySem PySem.Spec PyProof.Rows
section
variable {prog : Program} {w : World} {A : Around} {E : Value → Shared → Prop} {s : Shared}
end
section
variable {X : Cx}
end
end L2
namespace L2
open PySem PySem.Spec PyProof.Rows
section
variable {X : Cx} {a : Expr} {ta : TE}
end
end L2
namespace L2
open PySem PySem.Spec PyProof.Rows
inductive U where
  | leaf (v : V) | lst (us : List U) | dic (ks : List Key) (us : List U)
def lfS : V → Bool
  | .non => true
  | .bl _ => true
  | .int _ => true
  | .str _ => true
  | _ => false
def Lf (H : Hp) (x : V) : Prop := lfS x = true ∨ ∃ (a : Addr) (xs : List V), x = .ref a ∧ H a = some (.tup xs)
theorem Lf.same {H H' : Hp} (g : ∀ b xs, H b = some (.tup xs) → H' b = some (.tup xs)) {x : V} (h : Lf H x) : Lf H' x := h.imp id fun ⟨a, xs, e, h⟩ => ⟨a, xs, e, g _ _ h⟩
mutual
def Ru (H : Hp) : V → U → Prop
  | v, .leaf x => v = x ∧ Lf H x
  | v, .lst us => ∃ a vs, v = .ref a ∧ H a = some (.lst vs) ∧ Rus H vs us
  | v, .dic ks us => ∃ a ps, v = .ref a ∧ Rd H a (.dK ps) ∧ ps.map (·.1) = ks ∧ Rus H (ps.map (·.2)) us
def Rus (H : Hp) : List V → List U → Prop
  | vs, [] => vs = []
  | vs, u :: us => ∃ v r, vs = v :: r ∧ Ru H v u ∧ Rus H r us
end
mutual
theorem Ru.mono {H H' : Hp} (e : ∀ b xs, H b = some (.lst xs) → H' b = some (.lst xs)) (e2 : ∀ b xs, H b = some (.tup xs) → H' b = some (.tup xs)) (e3 : ∀ b ps, Rd H b (.dK ps) → Rd H' b (.dK ps)) : ∀ (v : V) (u : U), Ru H v u → Ru H' v u
  | _, .leaf _, h => ⟨h.1, h.2.same e2⟩
  | _, .lst us, ⟨a, vs, h1, h2, h3⟩ => ⟨a, vs, h1, e _ _ h2, Rus.mono e e2 e3 vs us h3⟩
  | _, .dic ks us, ⟨a, ps, h1, h2, h3, h4⟩ => ⟨a, ps, h1, e3 _ _ h2, h3, Rus.mono e e2 e3 _ us h4⟩
theorem Rus.mono {H H' : Hp} (e : ∀ b xs, H b = some (.lst xs) → H' b = some (.lst xs)) (e2 : ∀ b xs, H b = some (.tup xs) → H' b = some (.tup xs)) (e3 : ∀ b ps, Rd H b (.dK ps) → Rd H' b (.dK ps)) : ∀ (vs : List V) (us : List U), Rus H vs us → Rus H' vs us
  | _, [], h => h
  | _, u :: us, ⟨v, r, h1, h2, h3⟩ => ⟨v, r, h1, Ru.mono e e2 e3 v u h2, Rus.mono e e2 e3 r us h3⟩
end
theorem Ru.same {H H' : Hp} (g : Same H H') {v : V} {u : U} (h : Ru H v u) : Ru H' v u := Ru.mono (fun b xs => g b _) (fun b xs => g b _) (fun b ps h => h.same g) v u h
theorem Rus.same {H H' : Hp} (g : Same H H') {v : List V} {u : List U} (h : Rus H v u) : Rus H' v u := Rus.mono (fun b xs => g b _) (fun b xs => g b _) (fun b ps h => h.same g) v u h
theorem Rus.length {H : Hp} : ∀ {vs : List V} {us : List U}, Rus H vs us → vs.length = us.length
  | _, [], e => by
    have e' : _ = [] := e
    subst e'; rfl
  | _, _ :: us, ⟨v', r, h1, h2, h3⟩ => by
    subst h1
    simp [Rus.length h3]
theorem Rus.get {H : Hp} : ∀ {vs : List V} {us : List U} {i : Nat} {v : V}, Rus H vs us → vs[i]? = some v → ∃ u, us[i]? = some u ∧ Ru H v u
  | _, [], i, v, e, h => by
    have e' : _ = [] := e
    subst e'; simp at h
  | _, u' :: us, 0, v, ⟨v', r, h1, h2, h3⟩, h => by
    subst h1
    simp at h; subst h
    exact ⟨u', rfl, h2⟩
  | _, _ :: us, i + 1, v, ⟨v', r, h1, h2, h3⟩, h => by
    subst h1
    obtain ⟨u, e, q⟩ := Rus.get (i := i) (v := v) h3 (by simpa using h)
    exact ⟨u, by simpa using e, q⟩
theorem Rus.append {H : Hp} {ws : List V} {xs : List U} (h' : Rus H ws xs) : ∀ {vs : List V} {us : List U}, Rus H vs us → Rus H (vs ++ ws) (us ++ xs)
  | _, [], e => by
    have e' : _ = [] := e
    subst e'; exact h'
  | _, u' :: us, ⟨v', r, h1, h2, h3⟩ => by
    subst h1
    exact ⟨v', r ++ ws, rfl, h2, Rus.append h' h3⟩
theorem Rus.snoc {H : Hp} {v : V} {u : U} (h : Ru H v u) {vs : List V} {us : List U} (hs : Rus H vs us) : Rus H (vs ++ [v]) (us ++ [u]) := Rus.append (show Rus H [v] [u] from ⟨v, [], rfl, h, rfl⟩) hs
mutual
def emb : T → U
  | .non => .leaf .non
  | .bl b => .leaf (.bl b)
  | .int i => .leaf (.int i)
  | .str x => .leaf (.str (tx x))
  | .lst ts => .lst (embs ts)
  | .dic ks ts => .dic (ks.map nK) (embs ts)
  | .tup _ => .leaf .non
def embs : List T → List U
  | [] => []
  | t :: ts => emb t :: embs ts
end
mutual
theorem Rep.ru {H : Hp} : ∀ (v : V) (t : T), Rep H v t → T.pure t → Ru H v (emb t)
  | _, .non, h, _ => ⟨h, .inl rfl⟩
  | _, .bl _, h, _ => ⟨h, .inl rfl⟩
  | _, .int _, h, _ => ⟨h, .inl rfl⟩
  | _, .str _, h, _ => ⟨h, .inl rfl⟩
  | _, .lst ts, ⟨a, vs, h1, h2, h3⟩, hp => ⟨a, vs, h1, h2, Reps.ru vs ts h3 hp⟩
  | _, .dic ks ts, ⟨a, ps, h1, h2, h3, h4⟩, hp => ⟨a, ps, h1, .inl h2, h3, Reps.ru _ ts h4 hp.2⟩
  | _, .tup _, _, hp => hp.elim
theorem Reps.ru {H : Hp} : ∀ (vs : List V) (ts : List T), Reps H vs ts → T.pures ts → Rus H vs (embs ts)
  | _, [], h, _ => h
  | _, t :: ts, ⟨v, r, h1, h2, h3⟩, hp => ⟨v, r, h1, Rep.ru v t h2 hp.1, Reps.ru r ts h3 hp.2⟩
end
mutual
def U.sz : U → Nat
  | .leaf _ => 1
  | .lst us => U.szs us + 1
  | .dic _ us => U.szs us + 1
def U.szs : List U → Nat
  | [] => 0
  | u :: us => U.sz u + U.szs us
end
mutual
def U.dep : U → Nat
  | .leaf _ => 0
  | .lst us => U.deps us + 1
  | .dic _ us => U.deps us + 1
def U.deps : List U → Nat
  | [] => 0
  | u :: us => max (U.dep u) (U.deps us)
end
mutual
def U.ok : U → Prop
  | .leaf v => ∀ x, v = .str x → x.length ≤ 1000
  | .lst us => U.oks us
  | .dic ks us => ks.Nodup ∧ ks.length = us.length ∧ (∀ x, Sum.inr x ∈ ks → x.length ≤ 1000) ∧ U.oks us
def U.oks : List U → Prop
  | [] => True
  | u :: us => U.ok u ∧ U.oks us
end
theorem U.oks_mem {u : U} : ∀ {us : List U}, U.oks us → u ∈ us → U.ok u
  | [], _, h => nomatch h
  | x :: us, h, hm => (List.mem_cons.mp hm).elim (fun e => e ▸ h.1) (U.oks_mem h.2)
theorem U.oks_of {us : List U} (h : ∀ u ∈ us, U.ok u) : U.oks us := by
  induction us with
  | nil => exact True.intro
  | cons t ts ih => exact ⟨h t List.mem_cons_self, ih fun u hu => h u (List.mem_cons_of_mem _ hu)⟩
theorem U.szs_append : ∀ (a b : List U), U.szs (a ++ b) = U.szs a + U.szs b
  | [], b => by simp [U.szs]
  | x :: a, b => by
    show U.sz x + U.szs (a ++ b) = U.sz x + U.szs a + U.szs b
    rw [U.szs_append a b]; omega
theorem U.szs_le {u : U} : ∀ {us : List U}, u ∈ us → U.sz u ≤ U.szs us
  | [], h => nomatch h
  | x :: us, h => by
    show U.sz u ≤ U.sz x + U.szs us
    rcases List.mem_cons.mp h with e | e
    · rw [e]; omega
    · have := U.szs_le e; omega
theorem U.sz_pos : ∀ u : U, 1 ≤ U.sz u
  | .leaf _ => Nat.le_refl _
  | .lst _ => Nat.le_add_left _ _
  | .dic _ _ => Nat.le_add_left _ _
theorem U.szs_len : ∀ us : List U, us.length ≤ U.szs us
  | [] => Nat.le_refl _
  | u :: us => by
    have := U.szs_len us
    have := U.sz_pos u
    show us.length + 1 ≤ U.sz u + U.szs us
    omega
def tyU : U → String
  | .leaf .non => "NoneType"
  | .leaf (.bl _) => "bool"
  | .leaf (.int _) => "int"
  | .leaf (.str _) => "str"
  | .leaf _ => "tuple"
  | .lst _ => "list"
  | .dic _ _ => "dict"
theorem Ru.ty {H : Hp} {v : V} : ∀ {u : U}, Ru H v u → tyR H v = some (tyU u)
  | .leaf x, h => by
    obtain ⟨rfl, h | ⟨a, xs, e, h⟩⟩ := h
    · cases v <;> first | rfl | cases h
    · subst e; exact tyR_of (tyS_tup h)
  | .lst us, h => by obtain ⟨a, vs, e, h2, _⟩ := h; subst e; exact tyR_of (tyS_lst h2)
  | .dic ks us, h => by obtain ⟨a, vs, e, h2, _⟩ := h; subst e; exact tyR_dic h2
section
variable {X : Cx} {pins : List (Addr × Obj)} {σ : St} {H : Hp} {s : Shared}
theorem op_le_str : OpR X (compareOp .LtE) (fun x y H Q => ∃ i j, x = .str i ∧ y = .str j ∧ Q (.bl (!decide (ts j < ts i))) H) := by
  intro pins s σ H x y v u Q I rx ry h
  obtain ⟨i, j, rfl, rfl, q⟩ := h
  obtain ⟨t, rfl⟩ := rx
  obtain ⟨t', rfl⟩ := ry
  exact PySem.P.le_str (fin_bl I q rfl)
theorem call_isi2R {T W : String} (hT : T ∈ tyL) (hU : W ∈ tyL) : CallR X (.builtin "isinstance") (fun xs H Q => ∃ x t p, xs = [x, .ref p] ∧ H p = some (.tup [.ty T, .ty W]) ∧ tyR H x = some t ∧ Q (.bl (isSub t T || isSub t W)) H) := by
  intro pins s σ H xs us Q I r h
  obtain ⟨x, t, p, rfl, hp, ht, q⟩ := h
  cases x with
  | ref a =>
    have h' : (match H a with | some (.frz _ (.dK _)) => some "dict" | _ => tyS H (.ref a)) = some t := ht
    split at h'
    · rename_i o kvs e
      cases h'
      obtain ⟨u, w', rfl, ru, rw'⟩ := vals2 r
      cases (show w' = Value.ref p from rw')
      cases (show u = Value.ref a from ru)
      obtain ⟨_, _, vs, _, pp⟩ := dk_rd I.hok (.inr ⟨o, e⟩)
      obtain ⟨ob, es, ep, h1, h2, _⟩ := pp
      obtain ⟨_, its, rv, pl⟩ := (show ObjOk X.prog X.w H s.heap p (.tup [.ty T, .ty W]) from I.hok p _ hp)
      obtain ⟨v1, v2, ee, r1, r2⟩ := vals2 rv
      subst ee
      cases (show v1 = Value.type T from r1)
      cases (show v2 = Value.type W from r2)
      obtain ⟨o2, ho, hc, n, hd⟩ := pl
      obtain ⟨oc, od, odt, osl⟩ := o2
      cases (show oc = Value.type "tuple" from hc)
      cases (show odt = Data.seq _ n from hd)
      refine PySem.W.kia_tup PySem.W.kitx_dict I.kIn ⟨ob, h1, h2.1⟩ ho (b := isSub "dict" T || isSub "dict" W) ?_ (fun z => nomatch z) fun tk => ⟨.bl _, H, I.tok _, rfl, q⟩
      have k1 := kit_bi (K := X.K) (t := "dict") (by simp [tyL]) hT
      have k2 := kit_bi (K := X.K) (t := "dict") (by simp [tyL]) hU
      simp only [PySem.W.kitAny, k1, k2]
      cases isSub "dict" T <;> cases isSub "dict" W <;> rfl
    · exact call_isi2 hT hU pins s σ H _ us Q I r ⟨_, t, p, rfl, hp, h', q⟩
  | _ => exact call_isi2 hT hU pins s σ H _ us Q I r ⟨_, t, p, rfl, hp, ht, q⟩
end
section
variable {X : Cx} {o : Expr} {to : TE} {name : Str} {apos cpos : Pos} {id : String} {r : V → List V → Hp → VK → Prop}
def tBMR (r : V → List V → Hp → VK → Prop) (to : TE) : TE := fun σ H Q => to σ H fun x H1 => (∃ p kvs, x = .ref p ∧ Rd H1 p (.dK kvs)) ∧ r x [] H1 Q
theorem pe_bmR (pa : PlainAttrs "dict") (slot : Slot "dict" name id) (hty : typeOf (.builtin id) = pure (.type "method_descriptor")) (hm : MtR X id r) (ho : PE X o to)
    (hbase : attributeBase o name X.env (eval o X.env) = eval o X.env := by rfl) (hline : (apos.endLine == cpos.line) = true := by rfl) : PE X (.Call (.Attribute o name apos) [] [] cpos) (tBMR r to) := by
  intro pins s σ H Q I h
  refine wpAny_Call_method0_late hbase hline (thn (ho pins s σ H _ I h) fun v s1 ⟨x, H1, I1, r1, ⟨p, kvs, ex, hp⟩, q1⟩ => ?_)
  subst ex
  cases r1
  obtain ⟨_, _, _, _, ob, _, _, e, ex, _⟩ := dk_rd I1.hok hp
  refine ⟨"dict", id, pa, slot, hty, ⟨ob, e, ex.1⟩, (fun a e2 => by cases e2; exact ⟨ob, e, ex.2.1⟩), Calls.callWith_builtin rfl (PySem.evalArgs_none (hm pins s1 σ H1 (.ref p) [] (.ref p) [] Q I1 rfl .nil q1))⟩
end
structure Bl5 (mg : Str → Option Value) : Prop extends Bl2 mg where
  abs : mg "abs" = none
  ord : mg "ord" = none
end L2
namespace L2
open PySem PySem.Spec PyProof.Rows
section
variable {X : Cx} {pins : List (Addr × Obj)} {σ : St} {H : Hp} {s : Shared} {h' : Heap}
end
end L2
namespace L2
open PySem PySem.Spec PyProof.Rows
structure Bl6 (mg : Str → Option Value) : Prop extends Bl2 mg where
  zip : mg "zip" = none
section
variable {X : Cx} {a : Expr} {ta : TE}
end
end L2
namespace HT
open PySem PyProof.Rows
open PySem.SeqAt
open PySem.AutoSeq1 (wpAny_loadPart')
open PySem.MeetsSeq PySem.MeetsSeq2 PySem.MeetsSeq3
section
variable {prog : Program} {w : World} {A : Around} {E : Value → Shared → Prop} {s : Shared}
end
end HT
namespace L2
open PySem PySem.Spec PyProof.Rows
end L2
namespace L2
open PySem PySem.Spec PyProof.Rows PySem.Builtin PySem.Builtin.Str
section
variable {X : Cx}
end
end L2
namespace L2
open PySem PySem.Spec PyProof.Rows
end L2
namespace L2
open PySem PySem.Spec PyProof.Rows
section
variable {X : Cx}
end
end L2
namespace L2
open PySem PySem.Spec PyProof.Rows
section
variable {X : Cx}
end
end L2
namespace L2
open PySem PySem.Builtin PySem.Builtin.Str
abbrev Tk := Nat × List Nat
def stk (a b : Tk) : Bool := if b.2.take 1 = [45] ∧ b.1 = 0 then false else if a.1 = 1 then decide (b.1 = 1) || decide (b.1 = 0) else decide (a.1 = b.1) && !decide (a.1 = 3)
end L2
namespace L2
open PySem PySem.Spec PyProof.Rows
section
variable {P : Program} {w : World} {A : Around} {s : Shared} {E : Value → Shared → Prop}
end
section
variable {X : Cx}
end
end L2
namespace L2
open PySem PySem.Spec PyProof.Rows PySem.W
structure Kp (fs xs : List Addr) (h h' : Heap) : Prop where
  keep : ∀ b o, h.get? b = some o → b ∉ fs → b ∉ xs → h'.get? b = some o
  slot : ∀ b o, h.get? b = some o → b ∈ fs → b ∉ xs → ∃ sl, h'.get? b = some { o with slots := sl }
def Fl (h : Heap) (x T : Addr) (C : Value) (d : Option Addr) (a0 fl : Value) : Prop := ∃ (oe : Obj) (vs : Array Value) (oT : Obj) (ts : Array Value), h.get? x = some oe ∧ oe.cls = C ∧ oe.dict = d ∧ oe.data = .fields vs ∧ vs[0]? = some a0 ∧ vs[1]? = some (.ref T) ∧ T ≠ x ∧ h.get? T = some oT ∧ oT.data = .fields ts ∧ ts[3]? = some fl
section
variable {M : Model} {A : Around} {E : Value → Shared → Prop} {s : Shared} {env : Env} {outer : List Env} {x T L : Addr} {C a0 fl : Value} {d : Option Addr} {base : Heap} {Q : Unit → Shared → Prop}
end
section
variable {X : Cx} {pins : List (Addr × Obj)} {σ : St} {H H' : Hp} {s s' : Shared}
theorem ObjOk.got {P : Program} {w : World} {h : Heap} {a : Addr} {o : HO} (x : ObjOk P w H h a o) : ∃ ob, h.get? a = some ob := by
  induction o with
  | lst xs => obtain ⟨_, its, n, _, e⟩ := x; exact ⟨_, e⟩
  | tup xs => obtain ⟨_, its, _, ob, e, _⟩ := x; exact ⟨_, e⟩
  | dK kvs => obtain ⟨_, _, vs, _, ob, es, ep, e, _⟩ := x; exact ⟨_, e⟩
  | dT kvs => obtain ⟨_, _, xs, _, ob, es, ep, e, _⟩ := x; exact ⟨_, e⟩
  | set S n => obtain ⟨ob, es, ep, t, e, _⟩ := x; exact ⟨_, e⟩
  | ins C dx fs => obtain ⟨_, _, _, e, _⟩ := x; exact ⟨_, e⟩
  | own y => exact x
  | xd fs => obtain ⟨mA, ⟨od, es, ep, e, _⟩, _⟩ := x; exact ⟨_, e⟩
  | rng lo hi => obtain ⟨t, u, v, e⟩ := x; exact ⟨_, e⟩
  | frz ob u ih => exact ⟨_, x.1⟩
  | tbl ps => exact ⟨_, (show h.get? a = some _ from x)⟩
  | met f y => exact ⟨_, (show h.get? a = some _ from x)⟩
  | ext φ => exact x.2.1
def CXE (P : Program) (w : World) : CXT := fun outer H s E e s' => ∃ (x T : Addr) (C : Value) (d : Option Addr) (a0 : Value) (H' : Hp), e = .ref x ∧ s'.os = s.os ∧ AllBare s'.gens ∧ Un (frs outer) [] H H' s.heap s'.heap ∧ HOk P w H' s'.heap ∧
  s.heap.get? x = none ∧ s.heap.get? T = none ∧ H' x = none ∧ H' T = none ∧ Fl s'.heap x T C d a0 .none ∧ E C d H'
end
end L2
namespace L2
open PySem PySem.Spec PyProof.Rows PySem.W
def XObj (nm : Str) (C N : Addr) (bm : List Value) (o : Obj) : Prop := ∃ (q : Str) (bs : List Value) (hdct : Bool) (sn : List Str) (sub : List Value) (ab : Bool) (col : Option Bool) (dd : Option Addr) (k0 k1 k2 k3 k5 : Option Value), o = excClassObj nm q C N bs bm hdct sn sub ab col dd k0 k1 k2 k3 k5 "ValueError.__new__"
section
variable {M : Model} {A : Around} {E : Value → Shared → Prop} {s : Shared} {env : Env}
end
end L2
namespace L2
open PySem PySem.Spec PyProof.Rows PySem.W
abbrev veMro : List Value := [.type "ValueError", .type "Exception", .type "BaseException", .type "object"]
section
variable {prog : Program} {w : World} {A : Around} {K : Frag} {C fI N : Addr} {nm : Str} {bm : List Value} {o : Obj}
end
end L2
namespace L2
open PySem PySem.Spec PyProof.Rows PySem.W PySem.Builtin PySem.Builtin.ObjectAttr
section
variable {prog : Program} {w : World} {A : Around} {K : Frag} {C B x : Addr} {cd : ClassData} {ox : Obj} {name : Str} {v : Value}
end
end L2
namespace L2
open PySem PySem.Spec PyProof.Rows PySem.W
structure XCls (K : Frag) (nm : Str) (C B fI : Addr) : Prop where
  obj : ∃ (N : Addr) (o : Obj), K.lookup C = some o ∧ XObj nm C N (.ref B :: veMro) o
  cd : ∃ cd, clsIn K C = some cd ∧ cd.mro = .ref C :: .ref B :: veMro ∧ cd.hasDict = true
  tl : tailIn K veMro (.ref B :: veMro) = true
  init : findIn K (.ref C) "__init__" = some (some (.ref fI))
  fn : typeIn K (.ref fI) = some (.type "function")
  set : findIn K (.ref C) "__setattr__" = some (some (.builtin "object.__setattr__"))
  at_ : findIn K (.ref C) "at" = some none
  kp : keepIn K (.ref C) = true
structure XBase (K : Frag) (B : Addr) : Prop where
  sp : specialIn K (.ref B) "__getattribute__" = some (some (.builtin "type.__getattribute__"))
  rd : readsIn K B (.type "type") = true
  init : findCls K (.ref B) (.type "type") "__init__" = some (.val (.builtin "ValueError.__init__"))
def exO (x C : Addr) (d : Option Addr) : HO := .ext fun h => ∃ vs : Array Value, h.get? x = some { cls := .ref C, dict := d, data := .fields vs } ∧ vs.size = 6 ∧ vs[1]? = some .none
theorem HOk.also {P : Program} {w : World} {H : Hp} {h : Heap} {a : Addr} {o : HO} (x : HOk P w H h) (hn : H a = none) (new : ObjOk P w (upd H a o) h a o) : HOk P w (upd H a o) h := fun b u e => by
  by_cases hb : b = a
  · subst hb; rw [upd_same] at e; cases e; exact new
  · rw [upd_ne hb] at e
    exact (x b u e).stay (fun c v _ q => q) (fun c q => by rw [upd_ne (ne_of_none q hn)]; exact q) fun c xs q => by rw [upd_ne (ne_of_none q hn)]; exact q
section
variable {X : Cx} {pins : List (Addr × Obj)} {σ : St} {H : Hp} {s : Shared} {x C B fI : Addr} {nm : Str} {d : Option Addr}
end
end L2
namespace L2
open PySem PySem.Spec PyProof.Rows PySem.W
section
variable {X : Cx} {C B fI : Addr} {nm : Str}
def spXInit (C : Addr) : Sp := fun vs H Q _ => ∃ x v0 v, vs = [.ref x, v0, v] ∧ H x = some (exO x C none) ∧ ∀ d, H d = none → Q .non (upd (upd H x (exO x C (some d))) d (.xd [("at", v)]))
end
section
variable {X : Cx} {pins : List (Addr × Obj)} {σ : St} {H : Hp} {s : Shared} {x C : Addr} {d : Option Addr}
end
end L2
namespace L2
open PySem PySem.Spec PyProof.Rows PySem.W
section
variable {X : Cx} {C B fI : Addr} {nm : Str} {k : Nat} {fd : FuncData} {ps : List Str}
structure Xr (P : Program) (w : World) (K : Frag) (mg : Str → Option Value) (base : Heap) (k : Nat) (cn : Str) (C : Addr) : Prop where
  ex : ∃ (nm : Str) (B fI : Addr) (fd : FuncData) (ps : List Str), XCls K nm C B fI ∧ FnOk P w K mg base CX0 k fI fd ps (spXInit C) ∧ Binds K fd ps [] ∧ mg cn = some (.ref C)
end
structure Dx (P : Program) (w : World) (K : PySem.W.Frag) (mg : Str → Option Value) (base : Heap) (k : Nat) (x : Str) (ps : List Str) (sp : Sp) : Prop where
  ex : ∃ (f : Addr) (fd : FuncData), FnOk P w K mg base (CXE P w) k f fd ps sp ∧ Binds K fd ps [] ∧ PySem.W.keepIn K (.ref f) = true ∧ mg x = some (.ref f)
section
variable {X : Cx} {k j : Nat} {x : Str} {ps : List Str} {sp : Sp} {e : Expr} {es : List Expr} {t : TA} {p pos : Pos} {E : XK}
end
section
variable {P : Program} {w : World} {K : PySem.W.Frag} {mg : Str → Option Value} {base : Heap} {k : Nat} {f : Addr} {fd : FuncData} {ps : List Str} {sp sp' : Sp} {CX : CXT}
end
end L2
namespace L2
open PySem PySem.Spec PyProof.Rows PySem.W PySem.Builtin PySem.Builtin.ObjectAttr
structure XGet (K : Frag) (C : Addr) : Prop where
  ga : findIn K (.ref C) "__getattribute__" = some (some (.builtin "BaseException.__getattribute__"))
  gt : findIn K (.ref C) "__getattr__" = some none
  bx : mroIn K C (.type "BaseException") = some true
  ob : mroIn K C (.type "object") = some true
  hd : hasDictIn K C = true
  cl : findIn K (.ref C) "__class__" = some (some (.builtin "object.__class__"))
  cg : specialIn K (.builtin "object.__class__") "__get__" = some (some (.builtin "getset_descriptor.__get__"))
  ct : takesIn K (.builtin "object.__class__") = some true
section
variable {prog : Program} {w : World} {A : Around} {K : Frag} {C x : Addr} {ox od : Obj} {name : Str} {E : Value → Shared → Prop} {s : Shared}
end
end L2
namespace L2
open PySem PySem.Spec PyProof.Rows PySem.W
abbrev Cx.mark (X : Cx) (v : Value) : Cx := { X with A := X.A.mark (some v), calm := false, xe := fun _ _ => False }
section
variable {X : Cx} {pins pins' : List (Addr × Obj)} {σ : St} {H : Hp} {s : Shared} {v : Value} {W : Value → Shared → Prop}
theorem Inv.track {x : Addr} {o : HO} (I : Inv X pins σ H s) (hx : H x = none) (h0 : X.s₀.heap.get? x = none) (hl : x ≠ X.env.locals) (hc : ∀ y c, X.env.cells.lookup y = some c → c ≠ x) (hp : ∀ p ∈ X.pn ++ pins, p.1 ≠ x)
    (new : ObjOk X.prog X.w (upd H x o) s.heap x o) : Inv X pins σ (upd H x o) s where
  ok := I.ok
  os := I.os
  bare := I.bare
  base := ⟨I.base.keep, I.base.slot, fun b ob e n hx' => by rw [upd_ne (fun z => by subst z; rw [h0] at e; cases e)]; exact I.base.free b ob e n hx', I.base.there,
    fun b xs e => by have z := I.base.tups b xs e; rw [upd_ne (ne_of_none z hx)]; exact z, fun b ob xs e => by have z := I.base.frzs b ob xs e; rw [upd_ne (ne_of_none z hx)]; exact z,
    fun b ps e => by obtain ⟨m, z⟩ := I.base.tbls b ps e; exact ⟨m, by rw [upd_ne (ne_of_none z hx)]; exact z⟩⟩
  loc := I.loc
  cell := I.cell
  free := by rw [upd_ne (Ne.symm hl)]; exact I.free
  freeC := fun y c e => by rw [upd_ne (hc y c e)]; exact I.freeC y c e
  pin := fun p q => let ⟨a, b, c⟩ := I.pin p q; ⟨a, by rw [upd_ne (hp p q)]; exact b, c⟩
  hok := I.hok.also hx new
  len := I.len
end
section
variable {X : Cx} {B : Addr} {bn n : Str} {i : Nat} {body suite : List Stmt} {b₀ : Stmt} {bp hp pos : Pos} {tb : XK → TS} {ts : TS}
end
end L2
namespace L2
open PySem PySem.Spec PyProof.Rows PySem.W
section
variable {X : Cx} {C D : Addr} {b : Bool}
end
section
variable {X : Cx} {k j : Nat} {x : Str} {ps : List Str} {sp : Sp} {e : Expr} {es : List Expr} {t : TA} {p pos : Pos} {E : XK}
end
end L2
namespace L2
open PySem PySem.Spec PyProof.Rows PySem.W
structure RoomH (k : Nat) (A : Around) : Prop where
  dp : A.depth + 3 * k + 5 < recursionLimit
  un : A.units + 16 * k + 200 < cLine
structure FnOkH (P : Program) (w : World) (K : PySem.W.Frag) (mg : Str → Option Value) (base : Heap) (k : Nat) (f : Addr) (fd : FuncData) (ps : List Str) (sp : Sp) : Prop where
  len : ∀ vs H Q E, sp vs H Q E → vs.length = ps.length
  run : ∀ (A : Around) (outer : List Env) (s : Shared) (H : Hp) (args : Args) (us : List Value) (vs : List V) (Q : VK) (E : XK), RoomH k A → Env0 P w K mg base A outer s H → BindsTo s fd args (ps.zip us) → Vals vs us → sp vs H Q E →
    codeAny (model P w) A (.call (.ref f) args) (CR CX0 outer P w H s Q E) s
structure Dh (P : Program) (w : World) (K : PySem.W.Frag) (mg : Str → Option Value) (base : Heap) (k : Nat) (x : Str) (ps : List Str) (sp : Sp) : Prop where
  ex : ∃ (f : Addr) (fd : FuncData), FnOkH P w K mg base k f fd ps sp ∧ Binds K fd ps [] ∧ PySem.W.keepIn K (.ref f) = true ∧ mg x = some (.ref f)
section
variable {X : Cx} {k j : Nat} {x : Str} {ps : List Str} {sp : Sp} {e : Expr} {es : List Expr} {t : TA} {p pos : Pos}
end
end L2
namespace L2
open PySem PySem.Spec PyProof.Rows PySem.W
section
variable {M : Model} {A : Around} {E : Value → Shared → Prop} {s : Shared} {env : Env} {outer : List Env} {x T L : Addr} {C a0 fl : Value} {d : Option Addr} {base : Heap} {Q : Unit → Shared → Prop}
end
section
variable {X : Cx} {E : XK} {EE : Value → Shared → Prop} {s : Shared} {e : Value} {cs : List Addr}
end
end L2
namespace L2
open PySem PySem.Spec PyProof.Rows PySem.W
section
variable {X : Cx} {E : XK}
end
section
variable {X : Cx} {scope : Scope} {own : List Str} {F : List (Str × Nat)} {elt tg iter : Expr} {ifs : List Expr} {pos : Pos} {wi : TI} {g : TG} {tt : TT} {te : TE} {E : XK}
end
end L2
namespace L2
open PySem PySem.Spec PyProof.Rows PySem.W PySem.Builtin PySem.Builtin.ObjectAttr
structure Xp (K : Frag) (nm : Str) (C B : Addr) : Prop where
  obj : ∃ (N : Addr) (o : Obj), K.lookup C = some o ∧ XObj nm C N (.ref B :: veMro) o ∧ nsOkIn K N = true ∧ nsIn K N "__init__" = some none
  tl : tailIn K veMro (.ref B :: veMro) = true
  kp : keepIn K (.ref C) = true
section
variable {X : Cx} {C B : Addr} {nm : Str}
structure Xr0 (K : Frag) (mg : Str → Option Value) (cn : Str) (C : Addr) : Prop where
  ex : ∃ (nm : Str) (B : Addr), Xp K nm C B ∧ mg cn = some (.ref C)
end
section
variable {prog : Program} {w : World} {A : Around} {K : Frag} {C x : Addr} {ox : Obj} {od : Option Obj} {name : Str} {E : Value → Shared → Prop} {s : Shared}
end
section
variable {X : Cx} {pins : List (Addr × Obj)} {σ : St} {H : Hp} {s : Shared} {x C : Addr}
end
section
variable {X : Cx}
end
end L2
namespace L2
open PySem PySem.Spec PyProof.Rows PySem.W PySem.Builtin PySem.Builtin.ObjectAttr
section
variable {prog : Program} {w : World} {A : Around} {K : Frag} {C B x dx : Addr} {cd : ClassData} {ox : Obj} {name : Str} {v : Value} {mA : Str → Option Value} {ns : List Str}
end
structure XC (K : Frag) (nm : Str) (C B : Addr) : Prop where
  obj : ∃ (N : Addr) (o : Obj), K.lookup C = some o ∧ XObj nm C N (.ref B :: veMro) o
  cd : ∃ cd, clsIn K C = some cd ∧ cd.mro = .ref C :: .ref B :: veMro ∧ cd.hasDict = true
  tl : tailIn K veMro (.ref B :: veMro) = true
  set : findIn K (.ref C) "__setattr__" = some (some (.builtin "object.__setattr__"))
  kp : keepIn K (.ref C) = true
section
variable {X : Cx} {C B : Addr} {nm : Str}
end
end L2
namespace L2
open PySem PySem.Spec PyProof.Rows PySem.W PySem.Builtin PySem.Builtin.ObjectAttr
section
variable {X : Cx} {pins : List (Addr × Obj)} {σ : St} {H : Hp} {s : Shared} {x C : Addr} {v : V} {fs : List (Str × V)}
end
section
variable {X : Cx}
structure XStr (K : Frag) (C : Addr) : Prop where
  st : findIn K (.ref C) "__str__" = some (some (.builtin "BaseException.__str__"))
  bx : mroIn K C (.type "BaseException") = some true
end
end L2
namespace L2
open PySem PySem.Spec PyProof.Rows PySem.W PySem.Builtin PySem.Builtin.ObjectAttr
section
variable {X : Cx} {pins : List (Addr × Obj)} {σ : St} {H : Hp} {s : Shared}
theorem Inv.off {a : Addr} (I : Inv X pins σ H s) (hex : X.ex = []) (ha : s.heap.get? a = none) : H a = none ∧ X.s₀.heap.get? a = none ∧ a ≠ X.env.locals ∧ (∀ y c, X.env.cells.lookup y = some c → c ≠ a) ∧ ∀ p ∈ X.pn ++ pins, p.1 ≠ a := by
  have nn : ∀ b o, s.heap.get? b = some o → b ≠ a := fun b o e z => by rw [z, ha] at e; cases e
  refine ⟨?_, ?_, fun z => ?_, fun y c e z => ?_, fun p hp z => ?_⟩
  · cases e : H a with
    | none => rfl
    | some o =>
      obtain ⟨ob, hob⟩ := ObjOk.got (I.hok a o e)
      rw [ha] at hob; cases hob
  · cases e : X.s₀.heap.get? a with
    | none => rfl
    | some o =>
      obtain ⟨o', e'⟩ := I.base.there a o e (by rw [hex]; exact fun z => nomatch z)
      rw [ha] at e'; cases e'
  · obtain ⟨m, ⟨o, _, _, ho, _⟩, _⟩ := I.loc
    exact nn _ _ ho z.symm
  · obtain ⟨v, o, ho, _⟩ := I.cell y c e
    exact nn _ _ ho z
  · exact nn _ _ (I.pin p hp).1 z
end
structure XI (K : Frag) (nm : Str) (C B fI : Addr) : Prop extends XC K nm C B where
  init : findIn K (.ref C) "__init__" = some (some (.ref fI))
  fn : typeIn K (.ref fI) = some (.type "function")
section
variable {X : Cx} {C B fI : Addr} {nm : Str} {k : Nat} {fd : FuncData} {ps : List Str} {sp : Sp} {dvs : List V} {ds : List Value}
end
structure Es (P : Program) (w : World) (K : Frag) (mg : Str → Option Value) (base : Heap) (k : Nat) (cn : Str) (C : Addr) (sp : List V → Hp → VK → Prop) : Prop where
  run : ∀ X : Cx, X.prog = P → X.w = w → X.K = K → X.mg = mg → X.base = base → X.ex = [] → Room k X.A → CallR X (.ref C) sp
  kp : keepIn K (.ref C) = true
  mg : mg cn = some (.ref C)
section
variable {X : Cx} {C : Addr} {k j : Nat} {cn : Str} {sp : List V → Hp → VK → Prop}
end
section
variable {P : Program} {w : World} {K : Frag} {mg : Str → Option Value} {base : Heap} {k : Nat} {cn nm : Str} {C B fI : Addr} {fd : FuncData} {ps : List Str}
end
end L2
namespace L2
open PySem PySem.Spec PyProof.Rows PySem.W PySem.Builtin PySem.Builtin.ObjectAttr
structure Xf (K : Frag) (nm : Str) (C B N : Addr) : Prop where
  obj : ∃ (q : Str) (bs : List Value) (sn : List Str) (sub : List Value) (ab : Bool) (col : Option Bool) (dd : Option Addr) (k0 k1 k2 k3 k5 : Option Value), K.lookup C = some (excClassObj nm q C N bs (.ref B :: veMro) true sn sub ab col dd k0 k1 k2 k3 k5 "ValueError.__new__")
  ga : findIn K (.ref C) "__getattribute__" = some (some (.builtin "BaseException.__getattribute__"))
  gt : findIn K (.ref C) "__getattr__" = some none
  cl : findIn K (.ref C) "__class__" = some (some (.builtin "object.__class__"))
  st : findIn K (.ref C) "__str__" = some (some (.builtin "BaseException.__str__"))
  kp : keepIn K (.ref C) = true
structure Xs (K : Frag) (B : Addr) : Prop where
  cg : specialIn K (.builtin "object.__class__") "__get__" = some (some (.builtin "getset_descriptor.__get__"))
  ct : takesIn K (.builtin "object.__class__") = some true
  tl : tailIn K veMro (.ref B :: veMro) = true
  bo : ∃ (q : Str) (N : Addr) (bs : List Value) (hd : Bool) (sn : List Str) (sub : List Value) (ab : Bool) (col : Option Bool) (dd : Option Addr) (k0 k1 k2 k3 k5 : Option Value), K.lookup B = some (excClassObj "CabinetError" q B N bs veMro hd sn sub ab col dd k0 k1 k2 k3 k5 "ValueError.__new__")
section
variable {K : Frag} {nm nm' : Str} {C D B N N' : Addr}
end
end L2
namespace L2
open PySem PySem.Spec PyProof.Rows PySem.W
section
variable {X : Cx} {pins : List (Addr × Obj)} {σ : St} {H : Hp} {s : Shared} {A : Around}
end
end L2
namespace L2
open PySem PySem.W PyProof.Rows
section
variable {n : Nat} {lt : Nat → Nat → Bool}
def KAll (n : Nat) (lt : Nat → Nat → Bool) {α : Type} : KasT α → (α → Prop) → Prop
  | .ret a, Q => Q a
  | .ask i j k, Q => i < n ∧ j < n ∧ KAll n lt (k (lt i j)) Q
theorem KAll.bind {α β : Type} {f : α → KasT β} {Q : β → Prop} : ∀ (t : KasT α), KAll n lt t (fun a => KAll n lt (f a) Q) → KAll n lt (t.bind f) Q
  | .ret _, h => h
  | .ask i j k, h => ⟨h.1, h.2.1, KAll.bind (k (lt i j)) h.2.2⟩
theorem KAll.mono {α : Type} {Q Q' : α → Prop} (hq : ∀ a, Q a → Q' a) : ∀ (t : KasT α), KAll n lt t Q → KAll n lt t Q'
  | .ret _, h => hq _ h
  | .ask i j k, h => ⟨h.1, h.2.1, KAll.mono hq (k (lt i j)) h.2.2⟩
theorem KAll.wp {α : Type} {cmp : Nat → Nat → (Bool → Shared → Prop) → Shared → Prop} {I : Shared → Prop} {Qp : α → Prop} {Q : α → Shared → Prop} (hc : ∀ i j C s, i < n → j < n → I s → (∀ s', I s' → C (lt i j) s') → cmp i j C s) (hq : ∀ a s', Qp a → I s' → Q a s') :
    ∀ (t : KasT α) (s : Shared), I s → KAll n lt t Qp → t.kasWp cmp Q s
  | .ret _, s, hi, h => hq _ _ h hi
  | .ask i j k, s, hi, h => hc i j _ s h.1 h.2.1 hi fun s' hi' => KAll.wp hc hq (k (lt i j)) s' hi' h.2.2
structure KOrd (n : Nat) (lt : Nat → Nat → Bool) : Prop where
  tr : ∀ i j k, i < n → j < n → k < n → lt j i = false → lt k j = false → lt k i = false
  as : ∀ i j, i < n → j < n → lt i j = true → lt j i = false
abbrev Gd (p : Array Nat) (k : Nat) : Nat := p.getD k 0
theorem Gd_eq (p : Array Nat) (k : Nat) : Gd p k = (p[k]?).getD 0 := by
  unfold Gd
  simp [Array.getD_eq_getD_getElem?]
theorem Gd_rev {p : Array Nat} {a b : Nat} (hb : b ≤ p.size) (k : Nat) : Gd (kas_rev p a b) k = if a ≤ k ∧ k < b then Gd p (a + b - 1 - k) else Gd p k := by
  rw [Gd_eq (kas_rev p a b), Gd_eq p (a + b - 1 - k), Gd_eq p k]
  unfold kas_rev
  rw [getElem?_mirror_all hb]
  by_cases h : a ≤ k ∧ k < b
  · rw [if_pos h, if_pos h]
  · rw [if_neg h, if_neg h]
theorem Gd_bub {p : Array Nat} {k d : Nat} (hk : k < p.size) (hd : d ≤ k) (i : Nat) : Gd (bubble p k d) i = if i = k - d then Gd p k else if k - d < i ∧ i ≤ k then Gd p (i - 1) else Gd p i := by
  rw [Gd_eq (bubble p k d), getElem?_bubble hk d hd, Gd_eq p k, Gd_eq p (i - 1), Gd_eq p i]
  by_cases h1 : i = k - d
  · rw [if_pos h1, if_pos h1]
  · rw [if_neg h1, if_neg h1]
    by_cases h2 : k - d < i ∧ i ≤ k
    · rw [if_pos h2, if_pos h2]
    · rw [if_neg h2, if_neg h2]
structure Kw (n : Nat) (q p : Array Nat) : Prop where
  sz : p.size = n
  bd : ∀ k, k < n → Gd p k < n
  pm : p.Perm q
theorem Kw.rev {p q : Array Nat} {a b : Nat} (h : Kw n q p) (hb : b ≤ n) : Kw n q (kas_rev p a b) where
  sz := by unfold kas_rev; rw [mirror_size]; exact h.sz
  bd := fun k hk => by
    rw [Gd_rev (by rw [h.sz]; exact hb)]
    split
    · exact h.bd _ (by omega)
    · exact h.bd _ hk
  pm := (mirror_perm _ _ _ _).trans h.pm
theorem Kw.bub {p q : Array Nat} {k d : Nat} (h : Kw n q p) (hk : k < n) (hd : d ≤ k) : Kw n q (bubble p k d) where
  sz := by rw [bubble_size]; exact h.sz
  bd := fun i hi => by
    rw [Gd_bub (by rw [h.sz]; exact hk) hd]
    split
    · exact h.bd _ hk
    · split
      · exact h.bd _ (by omega)
      · exact h.bd _ hi
  pm := (bubble_perm _ _ _).trans h.pm
def Up (lt : Nat → Nat → Bool) (p : Array Nat) (m : Nat) : Prop := ∀ i j, i < j → j < m → lt (Gd p j) (Gd p i) = false
def Dw (lt : Nat → Nat → Bool) (p : Array Nat) (m : Nat) : Prop := ∀ i j, i < j → j < m → lt (Gd p i) (Gd p j) = false
def Eqs (lt : Nat → Nat → Bool) (p : Array Nat) (a m : Nat) : Prop := ∀ i j, a ≤ i → i < m → a ≤ j → j < m → lt (Gd p i) (Gd p j) = false
theorem KOrd.refl (O : KOrd n lt) {i : Nat} (hi : i < n) : lt i i = false := by
  cases h : lt i i with
  | false => rfl
  | true => have := O.as i i hi hi h; rw [h] at this; cases this
variable {p q : Array Nat}
theorem Up.succ (O : KOrd n lt) (W : Kw n q p) {k : Nat} (hk : k < n) (h : Up lt p k) (h1 : 1 ≤ k) (e : lt (Gd p k) (Gd p (k - 1)) = false) : Up lt p (k + 1) := fun i j hij hj => by
  by_cases z : j = k
  · subst z
    by_cases y : i = j - 1
    · rw [y]; exact e
    · exact O.tr _ _ _ (W.bd i (by omega)) (W.bd (j - 1) (by omega)) (W.bd j hk) (h i (j - 1) (by omega) (by omega)) e
  · exact h i j hij (by omega)
theorem Dw.succ (O : KOrd n lt) (W : Kw n q p) {k : Nat} (hk : k < n) (h : Dw lt p k) (h1 : 1 ≤ k) (e : lt (Gd p (k - 1)) (Gd p k) = false) : Dw lt p (k + 1) := fun i j hij hj => by
  by_cases z : j = k
  · subst z
    by_cases y : i = j - 1
    · rw [y]; exact e
    · exact O.tr _ _ _ (W.bd j hk) (W.bd (j - 1) (by omega)) (W.bd i (by omega)) e (h i (j - 1) (by omega) (by omega))
  · exact h i j hij (by omega)
theorem asc_all (O : KOrd n lt) (W : Kw n q p) : ∀ (f k : Nat), 1 ≤ k → k + f ≤ n → Up lt p k → KAll n lt (kas_asc p f k) fun m => k ≤ m ∧ m ≤ k + f ∧ Up lt p m ∧ (m < k + f → lt (Gd p m) (Gd p (m - 1)) = true)
  | 0, k, _, _, h => ⟨Nat.le_refl _, Nat.le_refl _, h, fun z => absurd z (Nat.lt_irrefl _)⟩
  | f + 1, k, h1, hn, h => by
    refine ⟨W.bd k (by omega), W.bd (k - 1) (by omega), ?_⟩
    cases e : lt (Gd p k) (Gd p (k - 1)) with
    | true =>
      dsimp only
      rw [if_pos rfl]
      exact ⟨Nat.le_refl _, by omega, h, fun _ => e⟩
    | false =>
      dsimp only
      rw [if_neg Bool.false_ne_true]
      refine KAll.mono (fun m ⟨a, b, c, d⟩ => ⟨by omega, by omega, c, fun z => d (by omega)⟩) _ (asc_all O W f (k + 1) (by omega) (by omega) (h.succ O W (by omega) h1 e))
theorem Eqs.rev {a k : Nat} (W : Kw n q p) (hk : k ≤ n) (h : Eqs lt p a k) (hd : Dw lt p k) : Dw lt (kas_rev p a k) k := fun i j hij hj => by
  rw [Gd_rev (by rw [W.sz]; exact hk), Gd_rev (by rw [W.sz]; exact hk)]
  split
  · split
    · exact h _ _ (by omega) (by omega) (by omega) (by omega)
    · exfalso; omega
  · split
    · exact hd _ _ (by omega) (by omega)
    · exact hd _ _ hij hj
theorem Dw.up {m : Nat} (W : Kw n q p) (hm : m ≤ n) (h : Dw lt p m) : Up lt (kas_rev p 0 m) m := fun i j hij hj => by
  rw [Gd_rev (by rw [W.sz]; exact hm), Gd_rev (by rw [W.sz]; exact hm), if_pos (by omega), if_pos (by omega)]
  exact h _ _ (by omega) (by omega)
theorem desc_all (O : KOrd n lt) : ∀ (f : Nat) (p : Array Nat) (k r : Nat), Kw n q p → r + 1 ≤ k → k + f ≤ n → Dw lt p k → Eqs lt p (k - (r + 1)) k →
    KAll n lt (kas_desc f p k r) fun z => Kw n q z.1 ∧ k ≤ z.2.1 ∧ z.2.1 ≤ n ∧ z.2.2 + 1 ≤ z.2.1 ∧ Dw lt z.1 z.2.1 ∧ Eqs lt z.1 (z.2.1 - (z.2.2 + 1)) z.2.1
  | 0, p, k, r, W, hr, hn, hd, he => ⟨W, Nat.le_refl _, hn, hr, hd, he⟩
  | f + 1, p, k, r, W, hr, hn, hd, he => by
    have hk : k < n := by omega
    refine ⟨W.bd k hk, W.bd (k - 1) (by omega), ?_⟩
    have one : ∀ (p' : Array Nat), Kw n q p' → Dw lt p' k → lt (Gd p' (k - 1)) (Gd p' k) = false → KAll n lt (kas_desc f p' (k + 1) 0) fun z => Kw n q z.1 ∧ k ≤ z.2.1 ∧ z.2.1 ≤ n ∧ z.2.2 + 1 ≤ z.2.1 ∧ Dw lt z.1 z.2.1 ∧ Eqs lt z.1 (z.2.1 - (z.2.2 + 1)) z.2.1 := fun p' W' hd' e' => by
      refine KAll.mono (fun z ⟨a, b, c, d, g, h⟩ => ⟨a, by omega, c, d, g, h⟩) _ (desc_all O f p' (k + 1) 0 W' (by omega) (by omega) (hd'.succ O W' hk (by omega) e') fun i j a1 a2 a3 a4 => ?_)
      have : i = j := by omega
      subst this
      exact O.refl (W'.bd _ (by omega))
    cases e : lt (Gd p k) (Gd p (k - 1)) with
    | true =>
      dsimp only
      rw [if_pos rfl]
      have e2 := O.as _ _ (W.bd k hk) (W.bd (k - 1) (by omega)) e
      split
      · refine one _ (W.rev (by omega)) (he.rev W (by omega) hd) ?_
        rw [Gd_rev (by rw [W.sz]; omega), Gd_rev (by rw [W.sz]; omega), if_pos (by omega), if_neg (by omega)]
        have e3 := he (k - 1) (k - (r + 1) + k - 1 - (k - 1)) (by omega) (by omega) (by omega) (by omega)
        have e4 := he (k - (r + 1) + k - 1 - (k - 1)) (k - 1) (by omega) (by omega) (by omega) (by omega)
        exact O.tr _ _ _ (W.bd k hk) (W.bd (k - 1) (by omega)) (W.bd _ (by omega)) e2 e4
      · exact one p W hd e2
    | false =>
      dsimp only
      rw [if_neg Bool.false_ne_true]
      refine ⟨W.bd (k - 1) (by omega), W.bd k hk, ?_⟩
      cases e2 : lt (Gd p (k - 1)) (Gd p k) with
      | true =>
        dsimp only
        rw [if_pos rfl]
        exact ⟨W, Nat.le_refl _, Nat.le_of_lt hk, hr, hd, he⟩
      | false =>
        dsimp only
        rw [if_neg Bool.false_ne_true]
        refine KAll.mono (fun z ⟨a, b, c, d, g, h⟩ => ⟨a, by omega, c, d, g, h⟩) _ (desc_all O f p (k + 1) (r + 1) W (by omega) (by omega) (hd.succ O W hk (by omega) e2) fun i j a1 a2 a3 a4 => ?_)
        have hb := W.bd
        by_cases zi : i = k
        · by_cases zj : j = k
          · subst zi zj; exact O.refl (hb _ (by omega))
          · subst zi
            exact O.tr _ _ _ (hb j (by omega)) (hb (i - 1) (by omega)) (hb i hk) (he (i - 1) j (by omega) (by omega) (by omega) (by omega)) e
        · by_cases zj : j = k
          · subst zj
            exact O.tr _ _ _ (hb j hk) (hb (j - 1) (by omega)) (hb i (by omega)) e2 (he i (j - 1) (by omega) (by omega) (by omega) (by omega))
          · exact he i j (by omega) (by omega) (by omega) (by omega)
theorem tail3_all (O : KOrd n lt) (W : Kw n q p) {k : Nat} (h1 : 1 ≤ k) (hk : k ≤ n) (h : Dw lt p k) : KAll n lt (kas_tail3 k n p) fun z => 1 ≤ z.1 ∧ z.1 ≤ n ∧ Kw n q z.2 ∧ Up lt z.2 z.1 := by
  unfold kas_tail3
  have W' := W.rev (a := 0) (b := k) hk
  refine KAll.bind _ (KAll.mono (fun m ⟨a, b, c, _⟩ => ⟨by omega, by omega, W', c⟩) _ (asc_all O W' (n - k) k h1 (by omega) (h.up W hk)))
theorem descPart_all (O : KOrd n lt) (W : Kw n q p) {k : Nat} (h1 : 1 ≤ k) (hk : k < n) (h : Dw lt p (k + 1)) : KAll n lt (kas_descPart k n p) fun z => 1 ≤ z.1 ∧ z.1 ≤ n ∧ Kw n q z.2 ∧ Up lt z.2 z.1 := by
  unfold kas_descPart
  have he : Eqs lt p (k + 1 - (0 + 1)) (k + 1) := fun i j a1 a2 a3 a4 => by
    have : i = j := by omega
    subst this
    exact O.refl (W.bd _ (by omega))
  refine KAll.bind _ (KAll.mono (fun z hz => ?_) _ (desc_all (q := q) O (n - (k + 1)) p (k + 1) 0 W (by omega) (by omega) h he))
  obtain ⟨a, b, c, d, g, e⟩ := hz
  by_cases z0 : z.2.2 > 0
  · rw [if_pos z0]
    exact tail3_all O (a.rev c) (by omega) c (e.rev a c g)
  · rw [if_neg z0]
    exact tail3_all O a (by omega) c g
theorem count_all (O : KOrd n lt) (W : Kw n q p) (hn : 1 ≤ n) : KAll n lt (kas_count n p) fun z => 1 ≤ z.1 ∧ z.1 ≤ n ∧ Kw n q z.2 ∧ Up lt z.2 z.1 := by
  unfold kas_count
  refine KAll.bind _ (KAll.mono (fun m ⟨a, b, c, d⟩ => ?_) _ (asc_all O W (n - 1) 1 (Nat.le_refl _) (by omega) fun i j h1 h2 => by omega))
  split
  · exact ⟨a, by omega, W, c⟩
  · rename_i hne
    have hmn : m < n := by
      have : m ≠ n := fun z => hne (by rw [z]; exact beq_self_eq_true _)
      omega
    have e := d (by omega)
    have e2 := O.as _ _ (W.bd m hmn) (W.bd (m - 1) (by omega)) e
    split
    · refine ⟨W.bd 0 (by omega), W.bd (m - 1) (by omega), ?_⟩
      cases e3 : lt (Gd p 0) (Gd p (m - 1)) with
      | true =>
        dsimp only
        rw [if_pos rfl]
        exact ⟨a, by omega, W, c⟩
      | false =>
        dsimp only
        rw [if_neg Bool.false_ne_true]
        have hb := W.bd
        have c0 : ∀ i, i < m → lt (Gd p i) (Gd p 0) = false := fun i hi => by
          by_cases z : i = 0
          · rw [z]; exact O.refl (hb 0 (by omega))
          · exact c 0 i (by omega) hi
        have c1 : ∀ i, i < m → lt (Gd p (m - 1)) (Gd p i) = false := fun i hi => by
          by_cases z : i = m - 1
          · rw [z]; exact O.refl (hb _ (by omega))
          · exact c i (m - 1) (by omega) (by omega)
        have all : Eqs lt p 0 m := fun i j _ hi _ hj => O.tr _ _ _ (hb j (by omega)) (hb (m - 1) (by omega)) (hb i (by omega)) (c1 j hj) (O.tr _ _ _ (hb (m - 1) (by omega)) (hb 0 (by omega)) (hb i (by omega)) e3 (c0 i hi))
        have hd : Dw lt p m := fun i j hij hj => all i j (by omega) (by omega) (by omega) hj
        refine descPart_all O (W.rev (by omega)) a hmn ((all.rev W (by omega) hd).succ O (W.rev (by omega)) hmn a ?_)
        rw [Gd_rev (by rw [W.sz]; omega), Gd_rev (by rw [W.sz]; omega), if_pos (by omega), if_neg (by omega)]
        exact O.tr _ _ _ (hb m hmn) (hb (m - 1) (by omega)) (hb _ (by omega)) e2 (all _ _ (by omega) (by omega) (by omega) (by omega))
    · refine descPart_all O W a hmn ?_
      have : m = 1 := by omega
      subst this
      intro i j hij hj
      have : i = 0 ∧ j = 1 := by omega
      obtain ⟨rfl, rfl⟩ := this
      exact e2
theorem place_all (O : KOrd n lt) (W : Kw n q p) {k : Nat} (hk : k < n) (u : Up lt p k) : ∀ (f l r : Nat), l ≤ r → r ≤ k → r - l ≤ f → (∀ i, i < l → lt (Gd p k) (Gd p i) = false) → (∀ i, r ≤ i → i < k → lt (Gd p k) (Gd p i) = true) →
    KAll n lt (kas_place p k f l r) fun m => m ≤ k ∧ (∀ i, i < m → lt (Gd p k) (Gd p i) = false) ∧ ∀ i, m ≤ i → i < k → lt (Gd p k) (Gd p i) = true
  | 0, l, r, hlr, hr, hf, h1, h2 => ⟨by omega, h1, fun i a b => h2 i (by omega) b⟩
  | f + 1, l, r, hlr, hr, hf, h1, h2 => by
    unfold kas_place
    split
    · exact ⟨by omega, h1, fun i a b => h2 i (by omega) b⟩
    · have hb := W.bd
      refine ⟨hb k hk, hb ((l + r) / 2) (by omega), ?_⟩
      cases e : lt (Gd p k) (Gd p ((l + r) / 2)) with
      | true =>
        dsimp only
        rw [if_pos rfl]
        refine place_all O W hk u f l ((l + r) / 2) (by omega) (by omega) (by omega) h1 fun i a b => ?_
        by_cases z : i = (l + r) / 2
        · rw [z]; exact e
        · cases e2 : lt (Gd p k) (Gd p i) with
          | true => rfl
          | false =>
            have := O.tr _ _ _ (hb ((l + r) / 2) (by omega)) (hb i (by omega)) (hb k hk) (u _ i (by omega) b) e2
            rw [e] at this; cases this
      | false =>
        dsimp only
        rw [if_neg Bool.false_ne_true]
        refine place_all O W hk u f ((l + r) / 2 + 1) r (by omega) hr (by omega) (fun i a => ?_) h2
        by_cases z : i = (l + r) / 2
        · rw [z]; exact e
        · exact O.tr _ _ _ (hb i (by omega)) (hb ((l + r) / 2) (by omega)) (hb k hk) (u i _ (by omega) (by omega)) e
theorem bin_all (O : KOrd n lt) : ∀ (f : Nat) (p : Array Nat) (k : Nat), Kw n q p → k + f ≤ n → Up lt p k → KAll n lt (kas_bin f p k) fun z => Kw n q z ∧ Up lt z (k + f)
  | 0, p, k, W, _, h => ⟨W, h⟩
  | f + 1, p, k, W, hn, h => by
    have hk : k < n := by omega
    unfold kas_bin
    refine KAll.bind _ (KAll.mono (fun m ⟨a, b, c⟩ => ?_) _ (place_all O W hk h k 0 k (Nat.zero_le _) (Nat.le_refl _) (by omega) (fun i z => absurd z (Nat.not_lt_zero _)) fun i a b => absurd a (by omega)))
    refine KAll.mono (fun z ⟨x, y⟩ => ⟨x, by rw [show k + (f + 1) = k + 1 + f by omega]; exact y⟩) _ (bin_all O f _ (k + 1) (W.bub hk (by omega)) (by omega) fun i j hij hj => ?_)
    have hb := W.bd
    rw [Gd_bub (by rw [W.sz]; exact hk) (by omega), Gd_bub (by rw [W.sz]; exact hk) (by omega), show k - (k - m) = m by omega]
    split
    · split
      · exfalso; omega
      · split
        · exfalso; omega
        · exact b i (by omega)
    · split
      · split
        · exact O.as _ _ (hb k hk) (hb _ (by omega)) (c _ (by omega) (by omega))
        · split
          · exact h _ _ (by omega) (by omega)
          · by_cases z : i = j - 1
            · exfalso; omega
            · exact h _ _ (by omega) (by omega)
      · split
        · exfalso; omega
        · split
          · exfalso; omega
          · exact h _ _ hij (by omega)
theorem sort_all (O : KOrd n lt) (hn : 1 ≤ n) : KAll n lt (kas_sort n) fun z => Kw n (List.range n).toArray z ∧ Up lt z n := by
  have W : Kw n (List.range n).toArray (List.range n).toArray := ⟨by simp, fun k hk => by rw [Gd_eq]; simp [hk], Array.Perm.refl _⟩
  unfold kas_sort
  refine KAll.bind _ (KAll.mono (fun z ⟨a, b, c, d⟩ => ?_) _ (count_all O W hn))
  split
  · have e : max z.1 1 = z.1 := Nat.max_eq_left a
    rw [e]
    refine KAll.mono (fun y ⟨g, h⟩ => ⟨g, by rw [show z.1 + (n - z.1) = n by omega] at h; exact h⟩) _ (bin_all O (n - z.1) z.2 z.1 c (by omega) d)
  · have : z.1 = n := by omega
    rw [this] at d
    exact ⟨c, d⟩
end
end L2
namespace L2
open PySem PySem.W PyProof.Rows
def Tri (ab bc ac : Int) : Prop := ab ≤ 0 → bc ≤ 0 → ac ≤ 0 ∧ (ac = 0 ↔ ab = 0 ∧ bc = 0)
theorem tri_sg (a b c : Int) : Tri (sgI a b) (sgI b c) (sgI a c) := by
  unfold Tri sgI
  intro h1 h2
  split at h1 <;> split at h1 <;> split at h2 <;> split at h2 <;> split <;> split <;> omega
theorem cmpS_3 (a b : List Nat) : (cmpS a b = -1 ∧ a < b) ∨ (cmpS a b = 0 ∧ a = b) ∨ (cmpS a b = 1 ∧ b < a) := by
  by_cases h : a < b
  · left
    refine ⟨?_, h⟩
    unfold cmpS
    rw [if_pos h, if_neg (List.lt_asymm h)]
    rfl
  · by_cases h2 : b < a
    · right; right
      refine ⟨?_, h2⟩
      unfold cmpS
      rw [if_neg h, if_pos h2]
      rfl
    · right; left
      refine ⟨?_, List.le_antisymm (List.not_lt.mp h2) (List.not_lt.mp h)⟩
      unfold cmpS
      rw [if_neg h, if_neg h2]
      rfl
theorem tri_S (a b c : List Nat) : Tri (cmpS a b) (cmpS b c) (cmpS a c) := by
  intro h1 h2
  rcases cmpS_3 a b with ⟨e1, l1⟩ | ⟨e1, rfl⟩ | ⟨e1, l1⟩
  · rcases cmpS_3 b c with ⟨e2, l2⟩ | ⟨e2, rfl⟩ | ⟨e2, l2⟩
    · rcases cmpS_3 a c with ⟨e3, l3⟩ | ⟨e3, rfl⟩ | ⟨e3, l3⟩
      · omega
      · exact absurd l2 (List.lt_asymm l1)
      · exact absurd (List.lt_trans l1 l2) (List.lt_asymm l3)
    · omega
    · omega
  · rw [e1]
    omega
  · omega
theorem ord_le {a b : C} (h : cmpC a b ≤ 0) : a.ord ≤ b.ord := by
  by_cases e : a.ord = b.ord
  · omega
  · rw [cmpC_ord a b e] at h
    unfold sgI at h
    split at h <;> split at h <;> omega
theorem sg_lt {a b : Int} (h : a < b) : sgI a b = -1 := by
  unfold sgI
  rw [if_pos h, if_neg (by omega)]
  rfl
mutual
theorem cmpC_tri : ∀ (a b c : C), Tri (cmpC a b) (cmpC b c) (cmpC a c)
  | a, b, c => by
    intro h1 h2
    have o1 := ord_le h1
    have o2 := ord_le h2
    by_cases hne : a.ord < c.ord
    · have e3 : cmpC a c = -1 := by rw [cmpC_ord a c (by omega)]; exact sg_lt (by omega)
      refine ⟨by omega, fun z => by omega, fun ⟨z1, z2⟩ => ?_⟩
      by_cases y : a.ord = b.ord
      · rw [cmpC_ord b c (by omega), sg_lt (by omega)] at z2; omega
      · rw [cmpC_ord a b y, sg_lt (by omega)] at z1; omega
    · have e1 : a.ord = b.ord := by omega
      have e2 : b.ord = c.ord := by omega
      cases a with
      | non =>
        cases b <;> first | (simp [C.ord] at e1; done) | skip
        cases c <;> first | (simp [C.ord] at e2; done) | skip
        simp [cmpC]
      | bl a =>
        cases b <;> first | (simp [C.ord] at e1; done) | skip
        cases c <;> first | (simp [C.ord] at e2; done) | skip
        rw [cmpC] at h1 h2 ⊢
        rw [cmpC, cmpC]
        exact tri_sg _ _ _ h1 h2
      | int a =>
        cases b <;> first | (simp [C.ord] at e1; done) | skip
        cases c <;> first | (simp [C.ord] at e2; done) | skip
        rw [cmpC] at h1 h2 ⊢
        rw [cmpC, cmpC]
        exact tri_sg _ _ _ h1 h2
      | str a =>
        cases b <;> first | (simp [C.ord] at e1; done) | skip
        cases c <;> first | (simp [C.ord] at e2; done) | skip
        rw [cmpC] at h1 h2 ⊢
        rw [cmpC, cmpC]
        exact tri_S _ _ _ h1 h2
      | row x =>
        cases b <;> first | (simp [C.ord] at e1; done) | skip
        cases c <;> first | (simp [C.ord] at e2; done) | skip
        rename_i y z
        rw [cmpC] at h1 h2 ⊢
        rw [cmpC, cmpC]
        exact cmpCs_tri x y z h1 h2
      | rcd x =>
        cases b <;> first | (simp [C.ord] at e1; done) | skip
        cases c <;> first | (simp [C.ord] at e2; done) | skip
        rename_i y z
        rw [cmpC] at h1 h2 ⊢
        rw [cmpC, cmpC]
        exact cmpCs_tri x y z h1 h2
      | odd =>
        cases b <;> first | (simp [C.ord] at e1; done) | skip
        cases c <;> first | (simp [C.ord] at e2; done) | skip
        have e : cmpC .odd .odd = 0 := by unfold cmpC; exact sgI_self _
        rw [e]
        simp
theorem cmpCs_tri : ∀ (a b c : List C), Tri (cmpCs a b) (cmpCs b c) (cmpCs a c)
  | [], [], [] => by intro h1 h2; simp [cmpCs]
  | [], [], _ :: _ => by intro h1 h2; simp [cmpCs]
  | [], _ :: _, [] => by intro h1 h2; rw [cmpCs] at h2; omega
  | [], y :: ys, z :: zs => by intro h1 h2; simp [cmpCs]
  | _ :: _, [], _ => by intro h1 h2; rw [cmpCs] at h1; omega
  | _ :: _, _ :: _, [] => by intro h1 h2; rw [cmpCs] at h2; omega
  | x :: xs, y :: ys, z :: zs => by
    have H := cmpC_tri x y z
    have R := cmpCs_tri xs ys zs
    intro h1 h2
    rw [cmpCs] at h1 h2 ⊢
    rw [cmpCs, cmpCs]
    have a1 : cmpC x y ≤ 0 := by split at h1 <;> omega
    have a2 : cmpC y z ≤ 0 := by split at h2 <;> omega
    obtain ⟨b1, b2⟩ := H a1 a2
    by_cases e1 : cmpC x y = 0
    · by_cases e2 : cmpC y z = 0
      · have e3 := b2.mpr ⟨e1, e2⟩
        rw [if_pos e1] at h1 ⊢
        rw [if_pos e2] at h2 ⊢
        rw [if_pos e3]
        exact R h1 h2
      · have e3 : cmpC x z ≠ 0 := fun z' => e2 (b2.mp z').2
        rw [if_neg e3, if_neg e2]
        exact ⟨b1, fun z' => absurd z' e3, fun z' => absurd z'.2 e2⟩
    · have e3 : cmpC x z ≠ 0 := fun z' => e1 (b2.mp z').1
      rw [if_neg e3, if_neg e1]
      exact ⟨b1, fun z' => absurd z' e3, fun z' => absurd z'.1 e1⟩
end
theorem sg_anti (a b : Int) : sgI a b = - sgI b a := by unfold sgI; omega
theorem cS_anti (a b : List Nat) : cmpS a b = - cmpS b a := by unfold cmpS; omega
mutual
theorem cmpC_anti : ∀ (a b : C), cmpC a b = - cmpC b a
  | a, b => by
    by_cases e : a.ord = b.ord
    · cases a with
      | non => cases b <;> first | (simp [C.ord] at e; done) | simp [cmpC]
      | bl a => cases b <;> first | (simp [C.ord] at e; done) | (rw [cmpC, cmpC]; exact sg_anti _ _)
      | int a => cases b <;> first | (simp [C.ord] at e; done) | (rw [cmpC, cmpC]; exact sg_anti _ _)
      | str a => cases b <;> first | (simp [C.ord] at e; done) | (rw [cmpC, cmpC]; exact cS_anti _ _)
      | row x =>
        cases b <;> first | (simp [C.ord] at e; done) | skip
        rename_i y
        rw [cmpC, cmpC]
        exact cmpCs_anti x y
      | rcd x =>
        cases b <;> first | (simp [C.ord] at e; done) | skip
        rename_i y
        rw [cmpC, cmpC]
        exact cmpCs_anti x y
      | odd =>
        cases b <;> first | (simp [C.ord] at e; done) | skip
        have e : cmpC .odd .odd = 0 := by unfold cmpC; exact sgI_self _
        rw [e]; rfl
    · rw [cmpC_ord a b e, cmpC_ord b a (fun z => e z.symm)]
      exact sg_anti _ _
theorem cmpCs_anti : ∀ (a b : List C), cmpCs a b = - cmpCs b a
  | [], [] => by simp [cmpCs]
  | [], _ :: _ => by simp [cmpCs]
  | _ :: _, [] => by simp [cmpCs]
  | x :: xs, y :: ys => by
    have H := cmpC_anti x y
    have R := cmpCs_anti xs ys
    rw [cmpCs, cmpCs]
    by_cases e : cmpC x y = 0
    · rw [if_pos e, if_pos (by omega), R]
    · rw [if_neg e, if_neg (by omega), H]
end
theorem ord_of {n : Nat} (cs : Nat → C) : KOrd n fun i j => decide (cmpC (cs i) (cs j) < 0) where
  tr := fun i j k _ _ _ h1 h2 => by
    rw [decide_eq_false_iff_not] at h1 h2 ⊢
    have := (cmpC_tri (cs i) (cs j) (cs k) (by rw [cmpC_anti]; omega) (by rw [cmpC_anti]; omega)).1
    rw [cmpC_anti]; omega
  as := fun i j _ _ h => by
    rw [decide_eq_true_eq] at h
    rw [decide_eq_false_iff_not, cmpC_anti]
    omega
end L2
namespace L2
open PySem PySem.W PyProof.Rows
def e0 (h : Heap) : Heap := { h with objs := #[] }
theorem e0_get (h : Heap) (b : Addr) : (e0 h).get? b = none := Heap.get?_none_of_le (Nat.zero_le _)
def objsOf (h : Heap) (ex : List Addr) : List (Addr × Obj) := (List.range h.objs.size).filterMap fun a => if a ∈ ex then none else (h.get? a).map fun o => (a, o)
theorem mem_objsOf {h : Heap} {ex : List Addr} {a : Addr} {o : Obj} : (a, o) ∈ objsOf h ex ↔ h.get? a = some o ∧ a ∉ ex := by
  unfold objsOf
  rw [List.mem_filterMap]
  constructor
  · rintro ⟨b, _, e⟩
    by_cases hb : b ∈ ex
    · rw [if_pos hb] at e; cases e
    · rw [if_neg hb] at e
      cases hg : h.get? b with
      | none => rw [hg] at e; cases e
      | some u => rw [hg] at e; cases e; exact ⟨hg, hb⟩
  · rintro ⟨e, hb⟩
    exact ⟨a, List.mem_range.mpr (Heap.lt_size e), by rw [if_neg hb, e]; rfl⟩
section
variable {X : Cx} {pins : List (Addr × Obj)} {σ : St} {H : Hp} {s : Shared} {h' : Heap} {m : Str → Option Value} {r : List (Addr × Obj)} {h₀ : Heap}
theorem Ns_det {h : Heap} {L : Addr} {m m' : Str → Option Value} (a : h.Ns L m) (b : h.Ns L m') : m = m' := by
  obtain ⟨o, es, ep, ho, hd, _, hf⟩ := a
  obtain ⟨o', es', ep', ho', hd', _, hf'⟩ := b
  rw [ho] at ho'
  cases ho'
  rw [hd] at hd'
  cases hd'
  funext x
  rw [← hf x, hf' x]
theorem Inv.frame0 (I : Inv X pins σ H s) : ∃ m, s.heap.Ns X.env.locals m ∧ Fr (e0 s.heap) X.env.locals s.heap m ∧ News (e0 s.heap) X.env.locals s.heap (objsOf s.heap [X.env.locals]) := by
  obtain ⟨m, hm, _⟩ := I.loc
  refine ⟨m, hm, ⟨hm, (fun b o e => by rw [e0_get] at e; cases e), Nat.zero_le _⟩, ?_⟩
  rintro ⟨b, o⟩ hp
  obtain ⟨e, hb⟩ := mem_objsOf.mp hp
  exact ⟨e, (by simpa using hb), e0_get _ _⟩
theorem Inv.back {t' : Nat} {ch : List Addr} (I : Inv X pins σ H s) (hm : s.heap.Ns X.env.locals m) (F : Fr h₀ X.env.locals h' m) (N : News h₀ X.env.locals h' r) (hr : ∀ b o, b ≠ X.env.locals → b ∉ ch → s.heap.get? b = some o → (b, o) ∈ r)
    (hch : ∀ b ∈ ch, X.s₀.heap.get? b = none ∧ H b = none ∧ b ≠ X.env.locals ∧ (∀ x c, X.env.cells.lookup x = some c → c ≠ b) ∧ ∀ p ∈ X.pn ++ pins, p.1 ≠ b) : Inv X pins σ H { s with heap := h', toks := t' } := by
  have k : ∀ b o, b ≠ X.env.locals → b ∉ ch → s.heap.get? b = some o → h'.get? b = some o := fun b o h1 h2 e => (N _ (hr b o h1 h2 e)).1
  have nt : ∀ b u, H b = some u → b ∉ ch ∧ b ≠ X.env.locals := fun b u e => ⟨(fun z => by rw [(hch b z).2.1] at e; cases e), (fun z => by rw [z, I.free] at e; cases e)⟩
  have n0 : ∀ b o, X.s₀.heap.get? b = some o → b ≠ X.env.locals ∧ b ∉ ch := fun b o e => ⟨Nat.ne_of_lt (Nat.lt_of_lt_of_le (Heap.lt_size e) I.ok.above), (fun z => by rw [(hch b z).1] at e; cases e)⟩
  have kc : ∀ x c v, X.env.cells.lookup x = some c → s.heap.IsCell c v → h'.IsCell c v := fun x c v e ⟨o, ho, hd⟩ => ⟨o, k c o (I.cne x c e) (fun z => (hch c z).2.2.2.1 x c e rfl) ho, hd⟩
  refine ⟨I.ok, I.os, I.bare, ⟨fun b o e n hb hx => k b o (n0 b o e).1 (n0 b o e).2 (I.base.keep b o e n hb hx), fun b o e n hb hx => ?_, I.base.free, fun b o e hx => ?_, I.base.tups, I.base.frzs, I.base.tbls⟩, ?_, fun x c e => ?_, I.free, I.freeC, fun p hp => ?_, fun b u e => ?_, I.len⟩
  · obtain ⟨sl, e1⟩ := I.base.slot b o e n hb hx
    exact ⟨sl, k b _ (n0 b o e).1 (n0 b o e).2 e1⟩
  · obtain ⟨o', e1⟩ := I.base.there b o e hx
    exact ⟨o', k b o' (n0 b o e).1 (n0 b o e).2 e1⟩
  · obtain ⟨m', hn, hl⟩ := I.loc
    refine ⟨m', by rw [Ns_det hn hm]; exact F.ns, fun i x v e1 e2 e3 => ?_⟩
    obtain ⟨u, r', l⟩ := hl i x v e1 e2 e3
    refine ⟨u, r', ?_⟩
    rcases l with l | ⟨kk, c, e, z⟩
    · exact .inl l
    · exact .inr ⟨kk, c, e, kc x c _ e z⟩
  · obtain ⟨v, z⟩ := I.cell x c e
    exact ⟨v, kc x c v e z⟩
  · obtain ⟨e, n, ne, nf, d⟩ := I.pin p hp
    exact ⟨k p.1 p.2 ne (fun z => (hch p.1 z).2.2.2.2 p hp rfl) e, n, ne, nf, d⟩
  · refine (I.hok b u e).stay (fun c v hc q => ?_) (fun _ q => q) fun _ _ q => q
    rcases hc with rfl | hc
    · exact k _ _ (nt _ _ e).2 (nt _ _ e).1 q
    · exact k _ _ (nt _ _ hc).2 (nt _ _ hc).1 q
end
end L2
namespace L2
open PySem PySem.W PyProof.Rows
section
variable {X : Cx} {pins : List (Addr × Obj)} {σ : St} {H : Hp} {s : Shared} {m : Str → Option Value} {h₀ : Heap} {kS D a : Addr} {o : Obj}
theorem Inv.addPin (I : Inv X pins σ H s) (e : s.heap.get? a = some o) (n : H a = none) (hL : a ≠ X.env.locals) (hf : a ∉ X.fs) (hc : ∀ v, o.data ≠ .cell v) : Inv X ((a, o) :: pins) σ H s := by
  refine ⟨I.ok, I.os, I.bare, I.base, I.loc, I.cell, I.free, I.freeC, fun p hp => ?_, I.hok, I.len⟩
  rcases List.mem_append.mp hp with z | z
  · exact I.pin p (List.mem_append.mpr (.inl z))
  · rcases List.mem_cons.mp z with rfl | z
    · exact ⟨e, n, hL, hf, hc⟩
    · exact I.pin p (List.mem_append.mpr (.inr z))
theorem Inv.dropPin {p : Addr × Obj} (I : Inv X (p :: pins) σ H s) : Inv X pins σ H s := by
  refine ⟨I.ok, I.os, I.bare, I.base, I.loc, I.cell, I.free, I.freeC, fun q hq => I.pin q ?_, I.hok, I.len⟩
  rcases List.mem_append.mp hq with z | z
  · exact List.mem_append.mpr (.inl z)
  · exact List.mem_append.mpr (.inr (List.mem_cons_of_mem _ z))
structure OffA (X : Cx) (pins : List (Addr × Obj)) (a : Addr) : Prop where
  up : X.s₀.heap.get? a = none
  ce : ∀ x c, X.env.cells.lookup x = some c → c ≠ a
  pi : ∀ p ∈ X.pn ++ pins, p.1 ≠ a
variable {f : Addr} {k : Nat} {fd : FuncData} {ps : List Str} {sp : Sp} {e1 : Nat}
theorem keys_run {Kp : List V → Hp → Prop} {Fin : List Value → Nat → Shared → Prop} (F : FnOk X.prog X.w X.K X.mg X.base CX0 k f fd ps sp) (hr : Room (k + 2) X.A) (hb : Binds X.K fd ps [])
    (h0 : ∀ b, h₀.get? b = none) (h1 : h₀.objs.size ≤ X.env.locals) (ok : OffA X ((D, seqObj "list" #[] e1) :: pins) kS) (hkL : kS ≠ X.env.locals) (hkf : kS ∉ X.fs)
    (hfin : ∀ ks e s H keys, Vals keys ks → Inv X ((kS, seqObj "list" ks.toArray e) :: (D, seqObj "list" #[] e1) :: pins) σ H s → s.heap.Ns X.env.locals m → Kp keys H → Fin ks e s) :
    ∀ (rest : List Value) (vs keys : List V) (ks : List Value) (e : Nat) (s : Shared) (H : Hp), Vals vs rest → Vals keys ks → Inv X ((kS, seqObj "list" ks.toArray e) :: (D, seqObj "list" #[] e1) :: pins) σ H s → s.heap.Ns X.env.locals m → Kp keys H →
      (∀ (i : Nat) v keys' H', vs[i]? = some v → keys'.length = keys.length + i → Kp keys' H' → sp [v] H' (fun r H2 => Kp (keys' ++ [r]) H2) E0) →
      KatKeys X.prog X.w X.A.in1.in1 h₀ X.env.locals m kS (.ref f) Fin rest ks e s
  | [], vs, keys, ks, e, s, H, _, rk, I, hm, hK, _ => KatKeys.nil (hfin ks e s H keys rk I hm hK)
  | u :: rest, vs, keys, ks, e, s, H, rv, rk, I, hm, hK, hsp => by
    cases rv with
    | cons rv1 rv2 =>
      rename_i v vs
      have hs0 := hsp 0 v keys H rfl rfl hK
      have hl : ([u] ++ []).length = ps.length := by
        have := F.len _ _ _ _ hs0
        rw [← this]; rfl
      have hbt := hb s [u] I.kIn hl
      rw [List.append_nil] at hbt
      have run := F.run X.A.in1.in1 X.stack s H ⟨[u], []⟩ [u] [v] _ E0 hr.in1.in1 I.env0.in1.in1 hbt (.cons rv1 .nil) hs0
      refine KatKeys.cons (wpAny_call (codeAny_mono run fun r s' hq' => ?_))
      cases r with
      | error z => exact False.elim hq'
      | ok fl =>
        cases fl with
        | next => exact False.elim hq'
        | brk => exact False.elim hq'
        | cont => exact False.elim hq'
        | ret u' =>
          have hce : CE X.stack X.prog X.w H s _ u' s' := hq'
          obtain ⟨_, _, _, _, un, _⟩ := id hce
          obtain ⟨r', H', I', rr, hK'⟩ := I.after hce
          have hm' : s'.heap.Ns X.env.locals m := by
            obtain ⟨oL, es, ep, hoL, hd, hk⟩ := hm
            obtain ⟨sl, hL⟩ := un.any hoL I.free (by simp)
            exact ⟨_, es, ep, hL, hd, hk⟩
          have pk := I'.pin (kS, seqObj "list" ks.toArray e) (List.mem_append.mpr (.inr List.mem_cons_self))
          refine ⟨(kS, seqObj "list" ks.toArray e) :: objsOf s'.heap [X.env.locals, kS], _, ⟨hm', (fun b o z => by rw [h0] at z; cases z), h1⟩, ?_, .head (fun p hp => ?_), fun h' c F' N' => ?_⟩
          · rintro ⟨b, ob⟩ hp
            rcases List.mem_cons.mp hp with z | z
            · cases z
              exact ⟨pk.1, hkL, h0 _⟩
            · obtain ⟨z1, z2⟩ := mem_objsOf.mp z
              exact ⟨z1, (fun y => z2 (by rw [show b = X.env.locals from y]; exact List.mem_cons_self)), h0 _⟩
          · obtain ⟨b, ob⟩ := p
            obtain ⟨z1, z2⟩ := mem_objsOf.mp hp
            exact fun y => z2 (by rw [show b = kS from y]; exact List.mem_cons_of_mem _ List.mem_cons_self)
          · have J := (I'.dropPin).back (t' := s'.toks) (ch := [kS]) hm' F' N' (fun b ob y1 y2 y3 => List.mem_cons_of_mem _ (mem_objsOf.mpr ⟨y3, by simp at y2 ⊢; exact ⟨y1, y2⟩⟩)) (fun b hb' => by
              have : b = kS := by simpa using hb'
              subst this
              exact ⟨ok.up, pk.2.1, hkL, ok.ce, ok.pi⟩)
            have ek : h'.get? kS = some (seqObj "list" (List.toArray (ks ++ [u'])) c) := (N' _ List.mem_cons_self).1
            exact keys_run F hr hb h0 h1 ok hkL hkf hfin rest vs (keys ++ [r']) (ks ++ [u']) c _ H' rv2 (rk.append (.cons rr .nil)) (J.addPin ek pk.2.1 hkL hkf (fun v z => by cases z)) F'.ns hK' fun i v' keys' H2 hv hlen hK2 => hsp (i + 1) v' keys' H2 hv (by rw [hlen, List.length_append]; simp; omega) hK2
end
end L2
namespace L2
open PySem PySem.W PyProof.Rows
section
variable {P : Program} {w : World} {A : Around} {s : Shared} {b : Bool} {C' : Bool → Shared → Prop}
theorem zc_lex : ∀ {us vs : List Value} {c : Int}, Zc P w A s us vs c → ∀ (i : Nat) (fin : Bool), 1 ≤ i → fin = decide (us.length < vs.length) → C' (decide (c < 0)) s → KatLex P w A b fin C' (us.zip vs) i s
  | _, _, _, .nil, i, fin, _, hf, q => by subst hf; exact kat_nil q
  | _, _, _, .less, i, fin, _, hf, q => by subst hf; exact kat_nil (by simpa using q)
  | _, _, _, .more, i, fin, _, hf, q => by subst hf; exact kat_nil (by simpa using q)
  | _, _, _, .eq e z, i, fin, hi, hf, q => by
    refine kat_cons (e _ _ (kat_yes (zc_lex z (i + 1) fin (by omega) (by rw [hf]; simp) q)))
  | _, _, _, .ne e l _, i, fin, hi, hf, q => by
    refine kat_cons (e _ _ (kat_no ?_))
    rw [show (i == 0) = false from beq_eq_false_iff_ne.mpr (by omega), Bool.and_false]
    exact kat_one _ _ (l _ _ q)
end
section
variable {X : Cx} {pins : List (Addr × Obj)} {σ : St} {H : Hp} {s : Shared} {A : Around} {C' : Bool → Shared → Prop} {E : Value → Shared → Prop}
theorem rank_ask {x y : V} {u v : Value} {a b : C} (I : Inv X pins σ H s) (hx : Rep H x (rk a)) (hy : Rep H y (rk b)) (ha : a.ok) (hb : b.ok) (rx : RelV x u) (ry : RelV y v) (hu : A.units + T.dep (rk a) < cLine) (q : C' (decide (cmpC a b < 0)) s) :
    wpAny (model X.prog X.w) A (keyLt' (tuples' true) u v) C' E s := by
  obtain ⟨r1, e1⟩ := rk_head a ha
  obtain ⟨r2, e2⟩ := rk_head b hb
  have hc := rk_cmp a b ha hb
  rw [e1] at hx hc hu
  rw [e2] at hy hc
  obtain ⟨p, xs, rfl, hp, hxs⟩ := hx
  obtain ⟨p', ys, rfl, hp', hys⟩ := hy
  cases rx
  cases ry
  obtain ⟨x0, xr, rfl, hx0, hxr⟩ := hxs
  obtain ⟨y0, yr, rfl, hy0, hyr⟩ := hys
  obtain rfl : x0 = .int a.ord := hx0
  obtain rfl : y0 = .int b.ord := hy0
  obtain ⟨its, w1, p1, _⟩ := I.tuple (SqT.of (K := X.K) hp)
  obtain ⟨jts, w2, p2, _⟩ := I.tuple (SqT.of (K := X.K) hp')
  cases w1 with
  | cons a1 a2 =>
    cases w2 with
    | cons b1 b2 =>
      rename_i u0 us v0 vs
      obtain ⟨t, rfl⟩ := a1
      obtain ⟨t', rfl⟩ := b1
      obtain ⟨ox, hox, _, n1, hd1⟩ := p1
      obtain ⟨oy, hoy, _, n2, hd2⟩ := p2
      refine kat_lt hox hd1 hoy hd2 ?_
      refine kat_cons (SeqAt.EqAt.int_int (A := A) (s := s) (a.ord : Int) t (b.ord : Int) t' _ _ _ _ ?_)
      rw [tcmp, tcmps, tcmp] at hc
      dsimp only at hc
      by_cases e : (a.ord : Int) = b.ord
      · rw [beq_iff_eq.mpr e]
        rw [if_pos (sgI_0.mpr e)] at hc
        have hd : max (T.dep (.int (a.ord : Int))) (T.deps r1) + 1 + A.units < cLine := by
          have : T.dep (.tup (.int (a.ord : Int) :: r1)) = max (T.dep (.int (a.ord : Int))) (T.deps r1) + 1 := rfl
          omega
        have q1 := Nat.le_max_right (T.dep (.int (a.ord : Int))) (T.deps r1)
        refine kat_yes (zc_lex (tups_at I r1 r2 (A := A) hxr hyr a2 b2 hc (by omega)) 1 _ (Nat.le_refl _) (by simp) q)
      · rw [beq_eq_false_iff_ne.mpr e]
        rw [if_neg (fun z => e (sgI_0.mp z))] at hc
        refine kat_no ?_
        show wpAny _ _ (oneLt' true _ _) _ _ _
        refine oneLt_int ?_
        rw [show decide ((a.ord : Int) < b.ord) = decide (cmpC a b < 0) by rw [← Option.some.inj hc]; exact decide_eq_decide.mpr sgI_lt.symm]
        exact q
end
end L2
namespace L2
open PySem PySem.W PyProof.Rows
theorem rev_get {α : Type} (b : Bool) (l : List α) (n : Nat) (hl : l.length = n) (i : Nat) (hi : i < n) : (katRev b l)[i]? = l[if b = true then n - 1 - i else i]? := by
  unfold katRev
  cases b with
  | false => simp
  | true =>
    simp only [if_true]
    rw [List.getElem?_reverse (by omega), hl]
theorem vals_rev {xs : List V} {us : List Value} (b : Bool) (r : Vals xs us) : Vals (katRev b xs) (katRev b us) := by
  unfold katRev
  cases b with
  | false => simpa using r
  | true =>
    simp only [if_true]
    induction r with
    | nil => exact .nil
    | cons a _ ih => rw [List.reverse_cons, List.reverse_cons]; exact ih.append (.cons a .nil)
theorem vals_pick {xs : List V} {us : List Value} (r : Vals xs us) : ∀ p : List Nat, Vals (p.map fun i => xs.getD i .non) (p.map fun i => us.getD i Value.none)
  | [] => .nil
  | i :: p => by
    refine .cons ?_ (vals_pick r p)
    dsimp only
    rw [List.getD_eq_getElem?_getD, List.getD_eq_getElem?_getD]
    cases h : xs[i]? with
    | none =>
      have : us[i]? = none := by rw [List.getElem?_eq_none_iff] at h ⊢; rw [← r.length]; exact h
      rw [this]; rfl
    | some x =>
      obtain ⟨u, e, ru⟩ := r.get h
      rw [e]; exact ru
section
variable {X : Cx} {pins : List (Addr × Obj)} {σ : St} {H : Hp} {s : Shared}
variable {f : Addr} {k : Nat} {fd : FuncData} {ps : List Str} {sp : Sp}
theorem tups_of {H : Hp} (I : Inv X pins σ H s) : ∀ {keys : List V} {ks : List Value} (cs : List C), Vals keys ks → cs.length = keys.length → (∀ c ∈ cs, c.ok) → (∀ (i : Nat) r c, keys[i]? = some r → cs[i]? = some c → Rep H r (rk c)) → ∃ fs : List Value, fs.length = ks.length ∧ KatTups s.heap ks fs ∧ ∀ v ∈ fs, ∃ n t, v = Value.int n t
  | [], [], [], _, _, _, _ => ⟨[], rfl, KatTups.nil, fun _ h => nomatch h⟩
  | x :: keys, u :: ks, c :: cs, .cons r1 r2, hl, ho, hR => by
    obtain ⟨fs, l1, t1, i1⟩ := tups_of I cs r2 (by simpa using hl) (fun c' h => ho c' (List.mem_cons_of_mem _ h)) fun i r c' a b => hR (i + 1) r c' a b
    obtain ⟨r, e⟩ := rk_head c (ho c List.mem_cons_self)
    have hx := hR 0 x c rfl rfl
    rw [e] at hx
    obtain ⟨p, xs, rfl, hp, x0, xr, rfl, hx0, _⟩ := hx
    obtain rfl : x0 = .int c.ord := hx0
    cases r1
    obtain ⟨its, w1, ⟨ox, hox, hcl, n1, hd1⟩, _⟩ := I.tuple (SqT.of (K := X.K) hp)
    cases w1 with
    | cons a1 a2 =>
      obtain ⟨t, rfl⟩ := a1
      exact ⟨.int c.ord t :: fs, by simp [l1], KatTups.cons hox hcl hd1 (by simp) t1, fun v hv => by
        rcases List.mem_cons.mp hv with rfl | hv
        · exact ⟨_, _, rfl⟩
        · exact i1 v hv⟩
end
end L2
namespace L2
open PySem PySem.W PyProof.Rows
section
variable {X : Cx} {pins : List (Addr × Obj)} {σ : St} {H : Hp} {s : Shared}
variable {f : Addr} {k : Nat} {fd : FuncData} {ps : List Str} {sp : Sp}
theorem run_sorted {b : Bool} {kw : List (Str × Value)} {l : Addr} {vs : List V} {Q : VK} (cs : List C) (F : FnOk X.prog X.w X.K X.mg X.base CX0 k f fd ps sp) (hr : Room (k + 2) X.A) (hb : Binds X.K fd ps []) (hex : X.ex = []) (I : Inv X pins σ H s) (hl : H l = some (.lst vs)) (h2 : 2 ≤ vs.length) (h64 : vs.length < 64)
    (ha1 : argsOk "sorted" ⟨[.ref l], kw⟩) (ha2 : ∀ x, argsOk "list.sort" ⟨[.ref x], kw⟩) (ht : ∀ x, Builtin.«list.sort» ⟨[.ref x], kw⟩ = ksk_tree x (.ref f) b) (hcs : cs.length = vs.length) (hok : ∀ c ∈ cs, c.ok ∧ T.dep (rk c) ≤ 150)
    (hsp : ∀ (i : Nat) v c H' (Q' : VK), vs[i]? = some v → cs[i]? = some c → Same H H' → (∀ r H2, Same H' H2 → Rep H2 r (rk c) → Q' r H2) → sp [v] H' Q' E0)
    (q : ∀ D H' (p : Array Nat), Same H H' → H' D = none → Kw vs.length (List.range vs.length).toArray p → Up (fun i j => decide (cmpC ((katRev b cs).getD i .odd) ((katRev b cs).getD j .odd) < 0)) p vs.length → Q (.ref D) (upd H' D (.lst (katRev b (p.toList.map fun i => (katRev b vs).getD i .non))))) :
    wpAny (model X.prog X.w) X.A (call (.builtin "sorted") [.ref l] kw) (EP X pins σ Q) X.xe s := by
  obtain ⟨its, rv, pl, _⟩ := I.list (SqL.of (K := X.K) hl)
  obtain ⟨m, hm, F0, N0⟩ := I.frame0
  have hlen : its.length = vs.length := rv.length.symm
  refine kat_sortedK F0 N0 pl.isList (by omega) (by omega) ha1 ha2 ht fun D kS e1 h' F1 N1 hDk hDn => ?_
  have hD := N1 (D, seqObj "list" #[] e1) (List.mem_cons_of_mem _ List.mem_cons_self)
  have hk := N1 (kS, seqObj "list" #[] 0) List.mem_cons_self
  have hDs : s.heap.get? D = none := by
    cases e : s.heap.get? D with
    | none => rfl
    | some o => exact absurd (hDn (D, o) (mem_objsOf.mpr ⟨e, by simpa using hD.2.1⟩)) (Nat.lt_irrefl _)
  have hks : s.heap.get? kS = none := by
    cases e : s.heap.get? kS with
    | none => rfl
    | some o => exact absurd (Nat.lt_trans (hDn (kS, o) (mem_objsOf.mpr ⟨e, by simpa using hk.2.1⟩)) hDk) (Nat.lt_irrefl _)
  have off : ∀ {a : Addr}, s.heap.get? a = none → H a = none ∧ OffA X pins a ∧ a ∉ X.fs := fun {a} ha => by
    obtain ⟨a1, a2, a3, a4, a5⟩ := I.off hex ha
    refine ⟨a1, ⟨a2, a4, a5⟩, fun z => ?_⟩
    obtain ⟨_, o, ho, _⟩ := I.funs.mem z
    rw [ha] at ho; cases ho
  have I1 : Inv X pins σ H { s with heap := h', toks := s.toks } := I.back (t' := s.toks) (ch := []) hm F1 N1 (fun b o y1 _ e => List.mem_cons_of_mem _ (List.mem_cons_of_mem _ (mem_objsOf.mpr ⟨e, by simpa using y1⟩))) fun b hb => nomatch hb
  have I2 := I1.addPin (a := D) hD.1 (off hDs).1 hD.2.1 (off hDs).2.2 (fun v z => by cases z)
  have I3 := I2.addPin (a := kS) hk.1 (off hks).1 hk.2.1 (off hks).2.2 (fun v z => by cases z)
  have okS : OffA X ((D, seqObj "list" #[] e1) :: pins) kS := ⟨(off hks).2.1.up, (off hks).2.1.ce, fun p hp z => by
      rcases List.mem_append.mp hp with y | y
      · exact (off hks).2.1.pi p (List.mem_append.mpr (.inl y)) z
      · rcases List.mem_cons.mp y with rfl | y
        · exact Nat.lt_irrefl _ (show D < D by rw [show D = kS from z] at hDk ⊢; exact hDk)
        · exact (off hks).2.1.pi p (List.mem_append.mpr (.inr y)) z⟩
  refine kat_keys_mono (Fin := fun ks e s' => ks.length = vs.length → _) (keys_run (Kp := fun keys H' => Same H H' ∧ ∀ (i : Nat) r c, keys[i]? = some r → cs[i]? = some c → Rep H' r (rk c)) F hr hb (fun b => e0_get _ b) (Nat.zero_le _) okS hk.2.1 (off hks).2.2 ?fin its vs [] [] 0 _ H rv .nil I3 F1.ns ⟨Same.refl _, fun i r c z => by simp at z⟩ ?step) (fun ks' e' s' hL hF => hF (by simpa [hlen] using hL))
  case step =>
    rintro i v keys' H' hv hlen' ⟨g, hR⟩
    obtain ⟨c, hc⟩ : ∃ c, cs[i]? = some c := ⟨_, List.getElem?_eq_getElem (by have := (List.getElem?_eq_some_iff.mp hv).1; omega)⟩
    refine hsp i v c H' _ hv hc g fun r H2 g2 hRr => ⟨g.trans g2, fun j r' c' hj hc' => ?_⟩
    have hki : keys'.length = i := by simpa using hlen'
    by_cases z : j < keys'.length
    · rw [List.getElem?_append_left z] at hj
      exact Rep.same g2 _ _ (hR j r' c' hj hc')
    · rw [List.getElem?_append_right (by omega)] at hj
      have : j = i := by
        have := (List.getElem?_eq_some_iff.mp hj).1
        simp at this
        omega
      subst this
      rw [hki, Nat.sub_self] at hj
      cases hj
      rw [hc] at hc'
      cases hc'
      exact hRr
  case fin =>
    rintro ks e s2 H2 keys rk2 J hm2 ⟨g, hR⟩ hLn
    have hkn : keys.length = vs.length := by rw [rk2.length]; exact hLn
    obtain ⟨fs, l1, t1, i1⟩ := tups_of J cs rk2 (by omega) (fun c h => (hok c h).1) hR
    refine kat_kind (T := .type "int") t1 (by omega) (fun v hv => ?_) (by decide) ?_
    · obtain ⟨n, t, rfl⟩ := i1 v hv
      intro A' Q' E' s' _ q'
      exact wpAny_pure q'
    have hpn : ∀ i, i < vs.length → ∃ x u c, (katRev b ks).getD i Value.none = u ∧ RelV x u ∧ Rep H2 x (rk c) ∧ c.ok ∧ T.dep (rk c) ≤ 150 ∧ (katRev b cs).getD i .odd = c := fun i hi => by
      have hi' : (if b = true then vs.length - 1 - i else i) < vs.length := by split <;> omega
      obtain ⟨x, hx⟩ : ∃ x, keys[if b = true then vs.length - 1 - i else i]? = some x := ⟨_, List.getElem?_eq_getElem (by rw [hkn]; exact hi')⟩
      obtain ⟨c, hc⟩ : ∃ c, cs[if b = true then vs.length - 1 - i else i]? = some c := ⟨_, List.getElem?_eq_getElem (by rw [hcs]; exact hi')⟩
      obtain ⟨u, hu, ru⟩ := (vals_rev b rk2).get (i := i) (by rw [rev_get b keys vs.length hkn i hi]; exact hx)
      have hc2 := rev_get b cs vs.length hcs i hi
      rw [hc] at hc2
      have hmem : c ∈ cs := List.mem_of_getElem? hc
      exact ⟨x, u, c, by rw [List.getD_eq_getElem?_getD, hu]; rfl, ru, hR _ x c hx hc, (hok c hmem).1, (hok c hmem).2, by rw [List.getD_eq_getElem?_getD, hc2]; rfl⟩
    have pD := J.pin (D, seqObj "list" #[] e1) (List.mem_append.mpr (.inr (List.mem_cons_of_mem _ List.mem_cons_self)))
    have pk := J.pin (kS, seqObj "list" ks.toArray e) (List.mem_append.mpr (.inr List.mem_cons_self))
    rw [hlen]
    refine KAll.wp (n := vs.length) (lt := fun i j => decide (cmpC ((katRev b cs).getD i .odd) ((katRev b cs).getD j .odd) < 0)) (I := fun s3 => s3 = s2) ?cmp ?post _ s2 rfl (sort_all (ord_of _) (by omega))
    case cmp =>
      rintro i j C3 s3 hi hj rfl hC
      obtain ⟨x, u, c, e1', r1, R1, o1, d1, g1⟩ := hpn i hi
      obtain ⟨y, v, c', e2', r2, R2, o2, d2, g2⟩ := hpn j hj
      have hcc := hC s3 rfl
      rw [g1, g2] at hcc
      unfold kas_ask
      rw [e1', e2']
      exact rank_ask J R1 R2 o1 o2 r1 r2 (by have := hr.un; show X.A.units + 1 + 1 + _ < cLine; omega) hcc
    case post =>
      rintro p s3 ⟨W, U⟩ rfl
      refine ⟨(kS, seqObj "list" ks.toArray e) :: objsOf s3.heap [X.env.locals, kS], _, ⟨hm2, (fun b o z => by rw [e0_get] at z; cases z), Nat.zero_le _⟩, ?_, .head (fun p hp => ?_), fun h3 c3 F3 N3 => ?_⟩
      · rintro ⟨a, ob⟩ hp
        rcases List.mem_cons.mp hp with z | z
        · cases z
          exact ⟨pk.1, hk.2.1, e0_get _ _⟩
        · obtain ⟨z1, z2⟩ := mem_objsOf.mp z
          exact ⟨z1, (fun y => z2 (by rw [show a = X.env.locals from y]; exact List.mem_cons_self)), e0_get _ _⟩
      · obtain ⟨a, ob⟩ := p
        obtain ⟨z1, z2⟩ := mem_objsOf.mp hp
        exact fun y => z2 (by rw [show a = kS from y]; exact List.mem_cons_of_mem _ List.mem_cons_self)
      have J3 := (J.dropPin).back (t' := s3.toks) (ch := [kS]) hm2 F3 N3 (fun a ob y1 y2 y3 => List.mem_cons_of_mem _ (mem_objsOf.mpr ⟨y3, by simp at y2 ⊢; exact ⟨y1, y2⟩⟩)) (fun a ha => by
        have : a = kS := by simpa using ha
        subst this
        exact ⟨okS.up, pk.2.1, hk.2.1, okS.ce, okS.pi⟩)
      have eD := J3.pin (D, seqObj "list" #[] e1) (List.mem_append.mpr (.inr List.mem_cons_self))
      refine ⟨(D, seqObj "list" #[] e1) :: objsOf h3 [X.env.locals, D], _, ⟨F3.ns, (fun b o z => by rw [e0_get] at z; cases z), Nat.zero_le _⟩, ?_, .head (fun p hp => ?_), fun h4 c4 F4 N4 => ?_⟩
      · rintro ⟨a, ob⟩ hp
        rcases List.mem_cons.mp hp with z | z
        · cases z
          exact ⟨eD.1, hD.2.1, e0_get _ _⟩
        · obtain ⟨z1, z2⟩ := mem_objsOf.mp z
          exact ⟨z1, (fun y => z2 (by rw [show a = X.env.locals from y]; exact List.mem_cons_self)), e0_get _ _⟩
      · obtain ⟨a, ob⟩ := p
        obtain ⟨z1, z2⟩ := mem_objsOf.mp hp
        exact fun y => z2 (by rw [show a = D from y]; exact List.mem_cons_of_mem _ List.mem_cons_self)
      have oD := (off hDs).2.1
      have J4 := (J3.dropPin).back (t' := s3.toks) (ch := [D]) F3.ns F4 N4 (fun a ob y1 y2 y3 => List.mem_cons_of_mem _ (mem_objsOf.mpr ⟨y3, by simp at y2 ⊢; exact ⟨y1, y2⟩⟩)) (fun a ha => by
        have : a = D := by simpa using ha
        subst this
        exact ⟨oD.up, pD.2.1, hD.2.1, oD.ce, oD.pi⟩)
      have e4 := (N4 _ List.mem_cons_self).1
      refine ⟨.ref D, _, J4.track (x := D) (o := .lst (katRev b (p.toList.map fun i => (katRev b vs).getD i .non))) pD.2.1 oD.up hD.2.1 oD.ce oD.pi ⟨?_, _, _, vals_rev b (vals_pick (vals_rev b rv) p.toList), e4⟩, rfl, q D H2 p g pD.2.1 W U⟩
      rw [kat_len, List.length_map, Array.length_toList, W.sz, sizeLine_eq]
      omega
end
end L2
namespace L2
open PySem PySem.W PyProof.Rows
section
variable {prog : Program} {w : World} {A : Around} {E : Value → Shared → Prop} {s : Shared} {h₀ : Heap} {L kS a : Addr} {m : Str → Option Value} {vs ks : List Value} {news : List (Addr × Obj)}
theorem few_end {b : Bool} {e e1 : Nat} {P : PySem.Fin → Shared → Prop} (hl : ks.length = vs.length) (h1 : vs.length < 2) (h : KatFin h₀ L m kS a ks e e1 (katRev b (katRev b vs)) (fun s3 => P (.done (.ret .none)) s3) s) :
    wpAny (model prog w) A (ksk_end a b vs.toArray e1 (.ref kS) (List.toArray ks)) P E s := by
  have few : vs.toArray.size < 2 := by simpa using h1
  have body : wpAny (model prog w) A (ksk_tail a b e1 (.ref kS) (SortSt.mk' general' (if b = true then ((List.toArray ks).zip vs.toArray).reverse else (List.toArray ks).zip vs.toArray) #[] 7 none)) P E s := by
    refine kat_tail (out := katRev b vs) ?_ (by rw [kat_len]; omega) (by omega) rfl h
    show (if b = true then ((List.toArray ks).zip vs.toArray).reverse else (List.toArray ks).zip vs.toArray).map (·.2) = _
    rw [kat_pairs b hl]
    have hz : (katRev b ks).length = (katRev b vs).length := by rw [kat_len, kat_len, hl]
    apply Array.toList_inj.mp
    simp only [Array.toList_map, Array.toList_zip, List.toList_toArray]
    exact List.map_snd_zip (Nat.le_of_eq hz.symm)
  unfold ksk_end
  dsimp only
  rw [if_pos few, if_pos few]
  split
  · rename_i hb
    rw [if_pos hb] at body
    exact wpAny_bind (wpAny_rule (wpAny_bind (wpAny_pure (wpAny_bind (wpAny_pure body)))))
  · rename_i hb
    rw [if_neg hb] at body
    exact wpAny_bind (wpAny_pure (wpAny_bind (wpAny_pure body)))
theorem few_rest {b : Bool} {f : Value} {e1 : Nat} {P : PySem.Fin → Shared → Prop} (hk : s.heap.get? kS = some (seqObj "list" #[] 0)) (h1 : vs.length < 2)
    (h : KatKeys prog w A h₀ L m kS f (fun ks e s' => KatFin h₀ L m kS a ks e e1 (katRev b (katRev b vs)) (fun s4 => P (.done (.ret .none)) s4) s') vs [] 0 s) : wpAny (model prog w) A (ksk_rest a f b vs.toArray e1 (.ref kS)) P E s := by
  unfold ksk_rest
  refine wpAny_bind (wpAny_rule ?_)
  rw [← Array.forIn_toList, List.toList_toArray]
  refine wpAny_bind (wpAny_mono (kat_fold (n := vs.length) (by omega) (fun x ys e s' C hz hx => ?_) vs [] 0 s (by simp) hk h) (fun _ s' ⟨ys, e, hy, hl, fin⟩ => ?_) fun _ _ x => x)
  · refine wpAny_bind (wpAny_attempt (wpAny_mono hx (fun y s2 ⟨nw, g, F', N', U, c⟩ => ?_) fun _ _ z => z.elim))
    obtain ⟨pre, post, e0, hg, x1, x2⟩ := U.split
    rw [e0] at N'
    have nk := N' (kS, seqObj "list" (List.toArray ys) e) (List.mem_append_right _ List.mem_cons_self)
    have sb := Heap.SameBut.update s2.heap kS (Obj.mapSeq fun q => q.push y)
    have ea : (List.toArray ys).push y = List.toArray (ys ++ [y]) := by simp
    have hc2 := get?_update_seq nk.1 fun q => q.push y
    rw [ea] at hc2
    try dsimp only
    refine wpAny_bind (listUpdate_at nk.1 rfl ?_ (by rw [List.size_toArray, sizeLine_eq]; omega) (by rw [Array.size_push, List.size_toArray, sizeLine_eq]; omega))
    refine wpAny_pure ⟨rfl, y, _, hc2, c _ _ (kas_fr F' sb nk.2.1 nk.2.2) ?_⟩
    rw [hg]
    exact news_set N' x1 x2 sb hc2
  · try dsimp only
    exact wpAny_bind (listItems_at hy rfl (few_end hl h1 fin))
theorem few_tree {b : Bool} {f : Value} {n : Nat} {P : PySem.Fin → Shared → Prop} (F : Fr h₀ L s.heap m) (N : News h₀ L s.heap news) (ho : s.heap.get? a = some (seqObj "list" vs.toArray n)) (haL : a ≠ L) (h0 : ∀ c, h₀.get? c = none) (hna : ∀ p ∈ news, p.1 ≠ a) (h1 : vs.length < 2)
    (h : ∀ kS e1 h', Fr h₀ L h' m → News h₀ L h' ((kS, seqObj "list" #[] 0) :: (a, seqObj "list" #[] e1) :: news) → a < kS → KatKeys prog w A h₀ L m kS f (fun ks e s' => KatFin h₀ L m kS a ks e e1 (katRev b (katRev b vs)) (fun s4 => P (.done (.ret .none)) s4) s') vs [] 0 { s with heap := h' }) :
    wpAny (model prog w) A (ksk_tree a f b) P E s := by
  have sb := Heap.SameBut.update s.heap a (Obj.mapSeq fun _ => (#[] : Array Value))
  have ha := Heap.lt_size ho
  have hLt := F.ns.lt
  have ho1 := get?_update_seq ho fun _ => (#[] : Array Value)
  have F1 := kas_fr F sb haL (h0 a)
  have N1 := kas_news N sb hna
  have sz : ((s.heap.update a (Obj.mapSeq fun _ => (#[] : Array Value))).push (seqObj "tuple" vs.toArray 0)).objs.size = s.heap.objs.size + 1 := by rw [size_push', Heap.size_update]
  unfold ksk_tree
  refine wpAny_bind (listItems_at ho rfl (wpAny_bind (listUpdate_at ho rfl ?_ (by rw [List.size_toArray, sizeLine_eq]; omega) (Nat.zero_le _))))
  refine wpAny_bind (seqEpoch_at ho1 rfl (wpAny_bind (wpAny_newTuple ?_ (by show vs.length ≤ _; rw [sizeLine_eq]; omega))))
  refine wpAny_bind (wpAny_newList ?_ (Nat.zero_le _))
  refine wpAny_holding (few_rest (Heap.get?_push_size _ rfl) h1 (h _ _ _ ((F1.push _).push _) (fun p hp => ?_) (by rw [sz]; exact Nat.lt_succ_of_lt ha)))
  rcases List.mem_cons.mp hp with rfl | hp
  · exact ⟨Heap.get?_push_size _ rfl, by rw [sz]; exact Nat.ne_of_gt (Nat.lt_succ_of_lt hLt), h0 _⟩
  · rcases List.mem_cons.mp hp with rfl | hp
    · exact ⟨Heap.get?_push_of_some _ (Heap.get?_push_of_some _ ho1), haL, h0 _⟩
    · exact ⟨Heap.get?_push_of_some _ (Heap.get?_push_of_some _ (N1 p hp).1), (N1 p hp).2⟩
theorem few_sorted {b : Bool} {f : Value} {l : Addr} {kw : List (Str × Value)} {Q : Value → Shared → Prop} (F : Fr h₀ L s.heap m) (N : News h₀ L s.heap news) (h0 : ∀ c, h₀.get? c = none) (hl : s.heap.IsList l vs.toArray) (h1 : vs.length < 2)
    (ha1 : argsOk "sorted" ⟨[.ref l], kw⟩) (ha2 : ∀ x, argsOk "list.sort" ⟨[.ref x], kw⟩) (ht : ∀ x, Builtin.«list.sort» ⟨[.ref x], kw⟩ = ksk_tree x f b)
    (h : ∀ D kS e1 h', Fr h₀ L h' m → News h₀ L h' ((kS, seqObj "list" #[] 0) :: (D, seqObj "list" #[] e1) :: news) → D < kS → (∀ q ∈ news, q.1 < D) → KatKeys prog w A.in1.in1 h₀ L m kS f (fun ks e s' => KatFin h₀ L m kS D ks e e1 (katRev b (katRev b vs)) (fun s4 => Q (.ref D) s4) s') vs [] 0 { s with heap := h' }) :
    wpAny (model prog w) A (call (.builtin "sorted") [.ref l] kw) Q E s := by
  have hLt := F.ns.lt
  refine call_function_entry_kw kind_sorted plain_sorted entry_sorted ha1 ?_
  unfold Builtin.«sorted»
  refine wpAny_bind (m := checkCount "sorted" 1 1 _) (wpAny_pure (wpAny_bind (collect_list hl (wpAny_bind (wpAny_newList ?_ (by rw [sizeLine_eq]; omega))) (by rw [sizeLine_eq]; omega))))
  generalize hh : (s.heap.push (seqObj "list" #[] 0)).update s.heap.objs.size (Obj.mapSeq (· ++ vs.toArray)) = g1
  have sz : g1.objs.size = s.heap.objs.size + 1 := by rw [← hh, Heap.size_update, size_push']
  have keep : ∀ c o, s.heap.get? c = some o → (g1.push (seqObj "list" vs.toArray 0)).get? c = some o := fun c o e => by
    have lt := Heap.lt_size e
    refine Heap.get?_push_of_some _ ?_
    rw [← hh, Heap.get?_update_ne _ _ _ _ (Nat.ne_of_lt lt)]
    exact Heap.get?_push_of_some _ e
  have hoL : (g1.push (seqObj "list" vs.toArray 0)).get? g1.objs.size = some (seqObj "list" vs.toArray 0) := Heap.get?_push_size _ rfl
  refine wpAny_bind (wpAny_holding (wpAny_call_entry_kw slot_list_sort ⟨_, hoL, rfl⟩ entry_list_sort ?body (ha2 _)))
  case body =>
    rw [ht]
    refine few_tree (F.kept keep) (N.grown keep) hoL (by rw [sz]; exact Nat.ne_of_gt (Nat.lt_succ_of_lt hLt)) h0 (fun p hp => by rw [sz]; exact Nat.ne_of_lt (Nat.lt_succ_of_lt (Heap.lt_size (N p hp).1))) h1 fun kS e1 h' F' N' lt => ?_
    exact kat_keys_mono (h _ kS e1 h' F' N' lt fun q hq => by rw [sz]; exact Nat.lt_succ_of_lt (Heap.lt_size (N q hq).1)) fun ks e s' _ hd => hd.mono fun s4 hq => ⟨_, rfl, wpAny_pure ⟨_, rfl, hq⟩⟩
end
theorem rev_rev {α : Type} (b : Bool) (l : List α) : katRev b (katRev b l) = l := by
  unfold katRev
  cases b <;> simp
section
variable {X : Cx} {pins : List (Addr × Obj)} {σ : St} {H : Hp} {s : Shared}
variable {f : Addr} {k : Nat} {fd : FuncData} {ps : List Str} {sp : Sp}
theorem run_few {b : Bool} {kw : List (Str × Value)} {l : Addr} {vs : List V} {Q : VK} (cs : List C) (F : FnOk X.prog X.w X.K X.mg X.base CX0 k f fd ps sp) (hr : Room (k + 2) X.A) (hb : Binds X.K fd ps []) (hex : X.ex = []) (I : Inv X pins σ H s) (hl : H l = some (.lst vs)) (h1 : vs.length < 2)
    (ha1 : argsOk "sorted" ⟨[.ref l], kw⟩) (ha2 : ∀ x, argsOk "list.sort" ⟨[.ref x], kw⟩) (ht : ∀ x, Builtin.«list.sort» ⟨[.ref x], kw⟩ = ksk_tree x (.ref f) b) (hcs : cs.length = vs.length) (hok : ∀ c ∈ cs, c.ok ∧ T.dep (rk c) ≤ 150)
    (hsp : ∀ (i : Nat) v c H' (Q' : VK), vs[i]? = some v → cs[i]? = some c → Same H H' → (∀ r H2, Same H' H2 → Rep H2 r (rk c) → Q' r H2) → sp [v] H' Q' E0)
    (q : ∀ D H', Same H H' → H' D = none → Q (.ref D) (upd H' D (.lst vs))) :
    wpAny (model X.prog X.w) X.A (call (.builtin "sorted") [.ref l] kw) (EP X pins σ Q) X.xe s := by
  obtain ⟨its, rv, pl, _⟩ := I.list (SqL.of (K := X.K) hl)
  obtain ⟨m, hm, F0, N0⟩ := I.frame0
  have hlen : its.length = vs.length := rv.length.symm
  refine few_sorted F0 N0 (fun c => e0_get _ c) pl.isList (by omega) ha1 ha2 ht fun D kS e1 h' F1 N1 hDk hDn => ?_
  have hD := N1 (D, seqObj "list" #[] e1) (List.mem_cons_of_mem _ List.mem_cons_self)
  have hk := N1 (kS, seqObj "list" #[] 0) List.mem_cons_self
  have hDs : s.heap.get? D = none := by
    cases e : s.heap.get? D with
    | none => rfl
    | some o => exact absurd (hDn (D, o) (mem_objsOf.mpr ⟨e, by simpa using hD.2.1⟩)) (Nat.lt_irrefl _)
  have hks : s.heap.get? kS = none := by
    cases e : s.heap.get? kS with
    | none => rfl
    | some o => exact absurd (Nat.lt_trans (hDn (kS, o) (mem_objsOf.mpr ⟨e, by simpa using hk.2.1⟩)) hDk) (Nat.lt_irrefl _)
  have off : ∀ {a : Addr}, s.heap.get? a = none → H a = none ∧ OffA X pins a ∧ a ∉ X.fs := fun {a} ha => by
    obtain ⟨a1, a2, a3, a4, a5⟩ := I.off hex ha
    refine ⟨a1, ⟨a2, a4, a5⟩, fun z => ?_⟩
    obtain ⟨_, o, ho, _⟩ := I.funs.mem z
    rw [ha] at ho; cases ho
  have I1 : Inv X pins σ H { s with heap := h', toks := s.toks } := I.back (t' := s.toks) (ch := []) hm F1 N1 (fun b o y1 _ e => List.mem_cons_of_mem _ (List.mem_cons_of_mem _ (mem_objsOf.mpr ⟨e, by simpa using y1⟩))) fun b hb => nomatch hb
  have I2 := I1.addPin (a := D) hD.1 (off hDs).1 hD.2.1 (off hDs).2.2 (fun v z => by cases z)
  have I3 := I2.addPin (a := kS) hk.1 (off hks).1 hk.2.1 (off hks).2.2 (fun v z => by cases z)
  have okS : OffA X ((D, seqObj "list" #[] e1) :: pins) kS := ⟨(off hks).2.1.up, (off hks).2.1.ce, fun p hp z => by
      rcases List.mem_append.mp hp with y | y
      · exact (off hks).2.1.pi p (List.mem_append.mpr (.inl y)) z
      · rcases List.mem_cons.mp y with rfl | y
        · exact Nat.lt_irrefl _ (show D < D by rw [show D = kS from z] at hDk ⊢; exact hDk)
        · exact (off hks).2.1.pi p (List.mem_append.mpr (.inr y)) z⟩
  refine kat_keys_mono (Fin := fun ks e s' => ks.length = vs.length → _) (keys_run (Kp := fun keys H' => Same H H' ∧ ∀ (i : Nat) r c, keys[i]? = some r → cs[i]? = some c → Rep H' r (rk c)) F hr hb (fun b => e0_get _ b) (Nat.zero_le _) okS hk.2.1 (off hks).2.2 ?fin its vs [] [] 0 _ H rv .nil I3 F1.ns ⟨Same.refl _, fun i r c z => by simp at z⟩ ?step) (fun ks' e' s' hL hF => hF (by simpa [hlen] using hL))
  case step =>
    rintro i v keys' H' hv hlen' ⟨g, hR⟩
    obtain ⟨c, hc⟩ : ∃ c, cs[i]? = some c := ⟨_, List.getElem?_eq_getElem (by have := (List.getElem?_eq_some_iff.mp hv).1; omega)⟩
    refine hsp i v c H' _ hv hc g fun r H2 g2 hRr => ⟨g.trans g2, fun j r' c' hj hc' => ?_⟩
    have hki : keys'.length = i := by simpa using hlen'
    by_cases z : j < keys'.length
    · rw [List.getElem?_append_left z] at hj
      exact Rep.same g2 _ _ (hR j r' c' hj hc')
    · rw [List.getElem?_append_right (by omega)] at hj
      have : j = i := by
        have := (List.getElem?_eq_some_iff.mp hj).1
        simp at this
        omega
      subst this
      rw [hki, Nat.sub_self] at hj
      cases hj
      rw [hc] at hc'
      cases hc'
      exact hRr
  case fin =>
    rintro ks e s2 H2 keys rk2 J hm2 ⟨g, hR⟩ hLn
    have pD := J.pin (D, seqObj "list" #[] e1) (List.mem_append.mpr (.inr (List.mem_cons_of_mem _ List.mem_cons_self)))
    have pk := J.pin (kS, seqObj "list" ks.toArray e) (List.mem_append.mpr (.inr List.mem_cons_self))
    refine ⟨(kS, seqObj "list" ks.toArray e) :: objsOf s2.heap [X.env.locals, kS], _, ⟨hm2, (fun b o z => by rw [e0_get] at z; cases z), Nat.zero_le _⟩, ?_, .head (fun p hp => ?_), fun h3 c3 F3 N3 => ?_⟩
    · rintro ⟨a, ob⟩ hp
      rcases List.mem_cons.mp hp with z | z
      · cases z
        exact ⟨pk.1, hk.2.1, e0_get _ _⟩
      · obtain ⟨z1, z2⟩ := mem_objsOf.mp z
        exact ⟨z1, (fun y => z2 (by rw [show a = X.env.locals from y]; exact List.mem_cons_self)), e0_get _ _⟩
    · obtain ⟨a, ob⟩ := p
      obtain ⟨z1, z2⟩ := mem_objsOf.mp hp
      exact fun y => z2 (by rw [show a = kS from y]; exact List.mem_cons_of_mem _ List.mem_cons_self)
    have J3 := (J.dropPin).back (t' := s2.toks) (ch := [kS]) hm2 F3 N3 (fun a ob y1 y2 y3 => List.mem_cons_of_mem _ (mem_objsOf.mpr ⟨y3, by simp at y2 ⊢; exact ⟨y1, y2⟩⟩)) (fun a ha => by
      have : a = kS := by simpa using ha
      subst this
      exact ⟨okS.up, pk.2.1, hk.2.1, okS.ce, okS.pi⟩)
    have eD := J3.pin (D, seqObj "list" #[] e1) (List.mem_append.mpr (.inr List.mem_cons_self))
    refine ⟨(D, seqObj "list" #[] e1) :: objsOf h3 [X.env.locals, D], _, ⟨F3.ns, (fun b o z => by rw [e0_get] at z; cases z), Nat.zero_le _⟩, ?_, .head (fun p hp => ?_), fun h4 c4 F4 N4 => ?_⟩
    · rintro ⟨a, ob⟩ hp
      rcases List.mem_cons.mp hp with z | z
      · cases z
        exact ⟨eD.1, hD.2.1, e0_get _ _⟩
      · obtain ⟨z1, z2⟩ := mem_objsOf.mp z
        exact ⟨z1, (fun y => z2 (by rw [show a = X.env.locals from y]; exact List.mem_cons_self)), e0_get _ _⟩
    · obtain ⟨a, ob⟩ := p
      obtain ⟨z1, z2⟩ := mem_objsOf.mp hp
      exact fun y => z2 (by rw [show a = D from y]; exact List.mem_cons_of_mem _ List.mem_cons_self)
    have oD := (off hDs).2.1
    have J4 := (J3.dropPin).back (t' := s2.toks) (ch := [D]) F3.ns F4 N4 (fun a ob y1 y2 y3 => List.mem_cons_of_mem _ (mem_objsOf.mpr ⟨y3, by simp at y2 ⊢; exact ⟨y1, y2⟩⟩)) (fun a ha => by
      have : a = D := by simpa using ha
      subst this
      exact ⟨oD.up, pD.2.1, hD.2.1, oD.ce, oD.pi⟩)
    have e4 := (N4 _ List.mem_cons_self).1
    rw [rev_rev] at e4
    exact ⟨.ref D, _, J4.track (x := D) (o := .lst vs) pD.2.1 oD.up hD.2.1 oD.ce oD.pi ⟨by rw [sizeLine_eq]; omega, _, _, rv, e4⟩, rfl, q D H2 g pD.2.1⟩
end
end L2
namespace L2
open PySem PySem.W PyProof.Rows
section
variable {X : Cx} {f : Addr} {k j : Nat} {x fx : Str} {ps : List Str} {sp : Sp}
def rSortK (sp : Sp) (b : Bool) (v : V) (H : Hp) (Q : VK) : Prop := ∃ (l : Addr) (vs : List V) (cs : List C), v = .ref l ∧ H l = some (.lst vs) ∧ vs.length < 64 ∧ cs.length = vs.length ∧ (∀ c ∈ cs, c.ok ∧ T.dep (rk c) ≤ 150) ∧
  (∀ (i : Nat) v c H' (Q' : VK), vs[i]? = some v → cs[i]? = some c → Same H H' → (∀ r H2, Same H' H2 → Rep H2 r (rk c) → Q' r H2) → sp [v] H' Q' E0) ∧
  ∀ D H' (p : Array Nat), Same H H' → H' D = none → Kw vs.length (List.range vs.length).toArray p → Up (fun i j => decide (cmpC ((katRev b cs).getD i .odd) ((katRev b cs).getD j .odd) < 0)) p vs.length → Q (.ref D) (upd H' D (.lst (katRev b (p.toList.map fun i => (katRev b vs).getD i .non))))
theorem run_sortedK {b : Bool} {kw : List (Str × Value)} {pins : List (Addr × Obj)} {σ : St} {H : Hp} {s : Shared} {Q : VK} {v : V} {u : Value} {fd : FuncData} (F : FnOk X.prog X.w X.K X.mg X.base CX0 k f fd ps sp) (hr : Room (k + 2) X.A) (hb : Binds X.K fd ps []) (hex : X.ex = []) (I : Inv X pins σ H s) (rv : RelV v u)
    (ha1 : ∀ l, argsOk "sorted" ⟨[.ref l], kw⟩) (ha2 : ∀ x, argsOk "list.sort" ⟨[.ref x], kw⟩) (ht : ∀ x, Builtin.«list.sort» ⟨[.ref x], kw⟩ = ksk_tree x (.ref f) b) (h : rSortK sp b v H Q) :
    wpAny (model X.prog X.w) X.A (call (.builtin "sorted") [u] kw) (EP X pins σ Q) X.xe s := by
  obtain ⟨l, vs, cs, rfl, hl, h64, hcs, hok, hsp, q⟩ := h
  cases rv
  by_cases h2 : 2 ≤ vs.length
  · exact run_sorted cs F hr hb hex I hl h2 h64 (ha1 l) ha2 ht hcs hok hsp q
  refine run_few cs F hr hb hex I hl (by omega) (ha1 l) ha2 ht hcs hok hsp fun D H' g hD => ?_
  have hq := q D H' (List.range vs.length).toArray g hD ⟨by simp, fun k hk => by rw [Gd_eq]; simp [hk], Array.Perm.refl _⟩ fun i j h3 h4 => by omega
  have e : (katRev b ((List.range vs.length).toArray.toList.map fun i => (katRev b vs).getD i .non)) = vs := by
    match vs, h2 with
    | [], _ => cases b <;> rfl
    | [v], _ => cases b <;> rfl
    | _ :: _ :: _, h => exact absurd (show 2 ≤ _ by simp) h
  rw [e] at hq
  exact hq
def tSortK (sp : Sp) (b : Bool) (te : TE) : TE := fun σ H Q => te σ H fun v H1 => rSortK sp b v H1 Q
theorem pe_sortK {e : Expr} {te : TE} {p p2 kp pos : Pos} (G : Dn X.prog X.w X.K X.mg X.base k fx ps sp) (hex : X.ex = []) (hr : Room j X.A) (hj : k + 2 ≤ j) (hg : Gl X "sorted") (hm : X.mg "sorted" = none) (hgf : Gl X fx) (ha : PA X [e] (tCons te tNil)) (hdf : (fx == ("__debug__" : Str)) = false := by decide) (he : backTo pos (starEach [e] X.env) = (false, eval e X.env) :: backTo pos (starEach [] X.env) := by rfl) (hpl : (backTo pos (starEach [e] X.env)).any (·.1) = false := by rfl) :
    PE X (.Call (.Name "sorted" p) [e] [⟨some "key", .Name fx p2, kp⟩] pos) (tSortK sp false te) := by
  intro pins s σ H Q I h
  obtain ⟨f, fd, F, hb, _, hmf⟩ := G.ex
  refine wpAny_Call_Name_kw (ld_blt I hg hm bt_sorted ?_ (by decide) (by decide))
  refine callWith_kw ?_ he hpl
  refine thn (ha pos pins s σ H (fun vs H1 => match vs with | [v] => rSortK sp false v H1 Q | _ => False) I h) fun us s1 ⟨vs, H1, I1, r1, q1⟩ => ?_
  match vs, q1, r1 with
  | [v], q1, r1 =>
    obtain ⟨u, rfl, rx⟩ := vals1 r1
    refine kws_cons (ld_glob I1 hgf hmf (kws_nil ?_) hdf)
    exact run_sortedK F (hr.mono hj) hb hex I1 rx (fun l => ksk_s1 _ _) (fun l => ksk_l1 _ _) (fun l => ksk_t1 f l) q1
theorem pe_sortKR {e : Expr} {te : TE} {i : Nat} {p p2 p3 kp kp2 pos : Pos} (G : Dn X.prog X.w X.K X.mg X.base k fx ps sp) (hex : X.ex = []) (hr : Room j X.A) (hj : k + 2 ≤ j) (hg : Gl X "sorted") (hm : X.mg "sorted" = none) (hgf : Gl X fx) (ha : PA X [e] (tCons te tNil)) (hdf : (fx == ("__debug__" : Str)) = false := by decide) (he : backTo pos (starEach [e] X.env) = (false, eval e X.env) :: backTo pos (starEach [] X.env) := by rfl) (hpl : (backTo pos (starEach [e] X.env)).any (·.1) = false := by rfl) :
    PE X (.Call (.Name "sorted" p) [e] [⟨some "key", .Name fx p2, kp⟩, ⟨some "reverse", .Constant (.bool true) i p3, kp2⟩] pos) (tSortK sp true te) := by
  intro pins s σ H Q I h
  obtain ⟨f, fd, F, hb, _, hmf⟩ := G.ex
  refine wpAny_Call_Name_kw (ld_blt I hg hm bt_sorted ?_ (by decide) (by decide))
  refine callWith_kw ?_ he hpl
  refine thn (ha pos pins s σ H (fun vs H1 => match vs with | [v] => rSortK sp true v H1 Q | _ => False) I h) fun us s1 ⟨vs, H1, I1, r1, q1⟩ => ?_
  match vs, q1, r1 with
  | [v], q1, r1 =>
    obtain ⟨u, rfl, rx⟩ := vals1 r1
    refine kws_cons (ld_glob I1 hgf hmf (kws_cons (Constant_bool (kws_nil ?_))) hdf)
    exact run_sortedK F (hr.mono hj) hb hex I1 rx (fun l => ksk_s2 _ _ _) (fun l => ksk_l2 _ _ _) (fun l => ksk_t2 f l true) q1
end
end L2
namespace L2
open PySem PySem.Spec PyProof.Rows
mutual
def T.calk : T → Prop
  | .int i => -(10 ^ 12) ≤ i ∧ i ≤ 10 ^ 12
  | .str x => x.length ≤ 100
  | .lst ts => T.calks ts
  | .dic ks ts => (∀ k ∈ ks, k.length ≤ 100) ∧ T.calks ts
  | .tup ts => T.calks ts
  | .non => True
  | .bl _ => True
def T.calks : List T → Prop
  | [] => True
  | t :: ts => T.calk t ∧ T.calks ts
end
theorem T.calks_mem {t : T} : ∀ {ts : List T}, T.calks ts → t ∈ ts → T.calk t
  | [], _, h => nomatch h
  | u :: ts, h, hm => (List.mem_cons.mp hm).elim (fun e => e ▸ h.1) (T.calks_mem h.2)
theorem T.calks_of {ts : List T} (h : ∀ t ∈ ts, T.calk t) : T.calks ts := by
  induction ts with
  | nil => exact True.intro
  | cons t ts ih => exact ⟨h t List.mem_cons_self, ih fun u hu => h u (List.mem_cons_of_mem _ hu)⟩
structure Fik (d z : Nat) (t : T) : Prop where
  few : T.few t
  calk : T.calk t
  dep : T.dep t ≤ d
  sz : T.sz t ≤ z
theorem Fik.pure {d z : Nat} {t : T} (h : Fik d z t) : T.pure t := few_pure d t h.dep h.few
theorem Fik.mono {d z d' z' : Nat} {t : T} (h : Fik d z t) (hd : d ≤ d') (hz : z ≤ z') : Fik d' z' t := ⟨h.few, h.calk, Nat.le_trans h.dep hd, Nat.le_trans h.sz hz⟩
theorem Fik.row {d z : Nat} {us : List T} (h : ∀ u ∈ us, T.few u ∧ T.calk u ∧ T.dep u + 1 ≤ d) (hd : 1 ≤ d) (hz : T.szs us + 1 ≤ z) (hl : T.szs us ≤ 100000) : Fik d z (.lst us) := by
  refine ⟨⟨Nat.le_trans (len_szs us) hl, fews_of fun u hu => (h u hu).1⟩, T.calks_of fun u hu => (h u hu).2.1, ?_, hz⟩
  have : T.deps us ≤ d - 1 := T.deps_of fun u hu => by have := (h u hu).2.2; omega
  show T.deps us + 1 ≤ d
  omega
theorem Fik.book {d z : Nat} {ks : List (List Nat)} {us : List T} (sk : ∀ k ∈ ks, k.length ≤ 100) (nk : ks.Nodup) (hk : ks.length < 64) (hl : ks.length = us.length) (h : ∀ u ∈ us, T.few u ∧ T.calk u ∧ T.dep u + 1 ≤ d) (hd : 1 ≤ d) (hz : T.szs us + 1 ≤ z) : Fik d z (.dic ks us) := by
  refine ⟨⟨nk, hk, hl, fews_of fun u hu => (h u hu).1⟩, ⟨sk, T.calks_of fun u hu => (h u hu).2.1⟩, ?_, hz⟩
  have : T.deps us ≤ d - 1 := T.deps_of fun u hu => by have := (h u hu).2.2; omega
  show T.deps us + 1 ≤ d
  omega
theorem kids_fik {us : List T} (hf : T.fews us) (hc : T.calks us) : ∀ u ∈ us, T.few u ∧ T.calk u ∧ T.dep u + 1 ≤ T.deps us + 1 := fun u hu => ⟨T.fews_mem hf hu, T.calks_mem hc hu, Nat.succ_le_succ (T.deps_le hu)⟩
theorem nice_fik : ∀ (d : Nat) (t : T), d ≤ 4 → Nice d t → Fik d (sizeN d) t
  | d, .non, _, _ => ⟨True.intro, True.intro, Nat.zero_le _, sizeN_pos d⟩
  | d, .bl _, _, _ => ⟨True.intro, True.intro, Nat.zero_le _, sizeN_pos d⟩
  | d, .int _, _, h => ⟨True.intro, h, Nat.zero_le _, sizeN_pos d⟩
  | d, .str x, _, h => by
    have h' : okText x = true := h
    unfold okText at h'
    rw [Bool.and_eq_true, decide_eq_true_eq] at h'
    exact ⟨True.intro, Nat.le_trans h'.1 (by decide), Nat.zero_le _, sizeN_pos d⟩
  | 0, .lst ts, _, h => absurd h.1 (by decide)
  | d + 1, .lst ts, hd, h => by
    obtain ⟨_, hl, hN⟩ := h
    have k : ∀ t ∈ ts, Fik d (sizeN d) t := fun t ht => nice_fik d t (by omega) (NiceL_iff.mp hN t ht)
    have z := szs_bound fun t ht => (k t ht).sz
    have z2 : ts.length * sizeN d ≤ 4 * sizeN d := Nat.mul_le_mul_right _ hl
    have z3 := sizeN_le d (by omega)
    refine Fik.row (fun u hu => ⟨(k u hu).few, (k u hu).calk, Nat.succ_le_succ (k u hu).dep⟩) (Nat.succ_le_succ (Nat.zero_le _)) ?_ (by omega)
    show _ ≤ 4 * sizeN d + 1
    omega
  | 0, .dic ks ts, _, h => absurd h.1 (by decide)
  | d + 1, .dic ks ts, hd, h => by
    obtain ⟨_, hl, hkl, nk, ho, hN⟩ := h
    have k : ∀ t ∈ ts, Fik d (sizeN d) t := fun t ht => nice_fik d t (by omega) (NiceL_iff.mp hN t ht)
    have z := szs_bound fun t ht => (k t ht).sz
    have z2 : ts.length * sizeN d ≤ 4 * sizeN d := Nat.mul_le_mul_right _ hl
    refine Fik.book (fun k hk => Nat.le_trans (okName_len (ho k hk)) (by decide)) nk (by omega) hkl (fun u hu => ⟨(k u hu).few, (k u hu).calk, Nat.succ_le_succ (k u hu).dep⟩) (Nat.succ_le_succ (Nat.zero_le _)) ?_
    show _ ≤ 4 * sizeN d + 1
    omega
  | d, .tup ts, _, h => by cases d <;> exact h.elim
theorem two_fik {d z z' : Nat} {t t' : T} (h : Fik d z t) (h' : Fik d z' t') : Fik (d + 1) (z + z' + 1) (.dic [ts (Str.ofString "a"), ts (Str.ofString "b")] [t, t']) := by
  refine Fik.book (by decide +kernel) (by decide +kernel) (by decide) rfl (fun u hu => ?_) (Nat.succ_le_succ (Nat.zero_le _)) ?_
  · simp only [List.mem_cons, List.not_mem_nil, or_false] at hu
    rcases hu with rfl | rfl
    · exact ⟨h.few, h.calk, Nat.succ_le_succ h.dep⟩
    · exact ⟨h'.few, h'.calk, Nat.succ_le_succ h'.dep⟩
  · have := h.sz
    have := h'.sz
    show T.sz t + (T.sz t' + 0) + 1 ≤ _
    omega
theorem rows_fik {d z z' : Nat} {t t' : T} (h : Fik d z t) (h' : Fik d z' t') (hz : z + z' ≤ 100000) : Fik (d + 1) (z + z' + 1) (.lst [t, t']) := by
  have h1 := h.sz
  have h2 := h'.sz
  have e : T.szs [t, t'] = T.sz t + T.sz t' := by show T.sz t + (T.sz t' + 0) = _; omega
  refine Fik.row (fun u hu => ?_) (Nat.succ_le_succ (Nat.zero_le _)) (by omega) (by omega)
  simp only [List.mem_cons, List.not_mem_nil, or_false] at hu
  rcases hu with rfl | rfl
  · exact ⟨h.few, h.calk, Nat.succ_le_succ h.dep⟩
  · exact ⟨h'.few, h'.calk, Nat.succ_le_succ h'.dep⟩
theorem one_fik {d z : Nat} {t : T} (h : Fik d z t) (hz : z ≤ 100000) : Fik (d + 1) (z + 1) (.lst [t]) := by
  have h1 := h.sz
  have e : T.szs [t] = T.sz t := by show T.sz t + 0 = _; omega
  refine Fik.row (fun u hu => ?_) (Nat.succ_le_succ (Nat.zero_le _)) (by omega) (by omega)
  rw [List.mem_singleton] at hu
  subst hu
  exact ⟨h.few, h.calk, Nat.succ_le_succ h.dep⟩
theorem ints_fik {is : List Int} (hb : ∀ z ∈ is, -1000000000000 ≤ z ∧ z ≤ 1000000000000) (hl : is.length ≤ 50) : Fik 1 51 (.lst (is.map T.int)) := by
  refine Fik.row (fun u hu => ?_) (Nat.le_refl _) (by rw [ints_szs]; omega) (by rw [ints_szs]; omega)
  obtain ⟨z, hz, rfl⟩ := List.mem_map.mp hu
  exact ⟨True.intro, hb z hz, Nat.le_refl _⟩
theorem putK_mem {ps : List (Key × V)} {k : Key} {v : V} {x : Key} (h : x ∈ (putK ps k v).map (·.1)) : x = k ∨ x ∈ ps.map (·.1) := by
  unfold putK at h
  split at h
  · rw [List.map_map] at h
    obtain ⟨y, hy, e⟩ := List.mem_map.mp h
    refine .inr (List.mem_map.mpr ⟨y, hy, ?_⟩)
    simp only [Function.comp_apply] at e
    split at e <;> exact e
  · rw [List.map_append] at h
    rcases List.mem_append.mp h with z | z
    · exact .inr z
    · exact .inl (by simpa using z)
theorem mergeK_mem {x : Key} : ∀ {kvs ps : List (Key × V)}, x ∈ (mergeK ps kvs).map (·.1) → x ∈ ps.map (·.1) ∨ x ∈ kvs.map (·.1)
  | [], ps, h => .inl h
  | kv :: kvs, ps, h => by
    have h' : x ∈ (mergeK (putK ps kv.1 kv.2) kvs).map (·.1) := h
    rcases mergeK_mem h' with z | z
    · rcases putK_mem z with z | z
      · exact .inr (by rw [List.map_cons, z]; exact List.mem_cons_self)
      · exact .inl z
    · exact .inr (by rw [List.map_cons]; exact List.mem_cons_of_mem _ z)
theorem short_put {qs : List (Key × V)} {ks' ks2 : List (List Nat)} {key : List Nat} {v : V} (hqk : qs.map (·.1) = ks'.map nK) (e1 : (putK qs (nK key) v).map (·.1) = ks2.map nK) (h : ∀ k ∈ ks', k.length ≤ 100) (hk : key.length ≤ 100) : ∀ k ∈ ks2, k.length ≤ 100 := by
  intro k hm
  have : nK k ∈ (putK qs (nK key) v).map (·.1) := by rw [e1]; exact List.mem_map.mpr ⟨k, hm, rfl⟩
  rcases putK_mem this with z | z
  · rw [nK_inj z]; exact hk
  · rw [hqk] at z
    obtain ⟨y, hy, e⟩ := List.mem_map.mp z
    rw [← nK_inj e]; exact h y hy
theorem short_merge {kvs : List (Key × V)} {ns ks2 : List (List Nat)} (hk : kvs.map (·.1) = ns.map nK) (e1 : (mergeK [] kvs).map (·.1) = ks2.map nK) (h : ∀ k ∈ ns, k.length ≤ 100) : ∀ k ∈ ks2, k.length ≤ 100 := by
  intro k hm
  have : nK k ∈ (mergeK [] kvs).map (·.1) := by rw [e1]; exact List.mem_map.mpr ⟨k, hm, rfl⟩
  rcases mergeK_mem this with z | z
  · cases z
  · rw [hk] at z
    obtain ⟨y, hy, e⟩ := List.mem_map.mp z
    rw [← nK_inj e]; exact h y hy
theorem short_nil : ∀ k ∈ ([] : List (List Nat)), k.length ≤ 100 := fun _ h => nomatch h
theorem short_a : ∀ k ∈ [ts (Str.ofString "a")], k.length ≤ 100 := by decide +kernel
end L2
namespace L2
open PySem PySem.Spec PyProof.Rows
def mkV : V := .str (Str.ofString "mark")
def mK : Key := Sum.inr (Str.ofString "mark")
mutual
def T.cn : T → Nat
  | .lst ts => T.cns ts + 1
  | .dic _ ts => T.cns ts + 1
  | .tup ts => T.cns ts + 1
  | .non => 0
  | .bl _ => 0
  | .int _ => 0
  | .str _ => 0
def T.cns : List T → Nat
  | [] => 0
  | t :: ts => T.cn t + T.cns ts
end
mutual
theorem T.cn_sz : ∀ t : T, T.cn t ≤ T.sz t
  | .lst ts => Nat.succ_le_succ (T.cns_sz ts)
  | .dic _ ts => Nat.succ_le_succ (T.cns_sz ts)
  | .tup ts => Nat.succ_le_succ (T.cns_sz ts)
  | .non => Nat.zero_le _
  | .bl _ => Nat.zero_le _
  | .int _ => Nat.zero_le _
  | .str _ => Nat.zero_le _
theorem T.cns_sz : ∀ ts : List T, T.cns ts ≤ T.szs ts
  | [] => Nat.zero_le _
  | t :: ts => Nat.add_le_add (T.cn_sz t) (T.cns_sz ts)
end
theorem T.cns_append : ∀ a b : List T, T.cns (a ++ b) = T.cns a + T.cns b
  | [], b => (Nat.zero_add _).symm
  | t :: a, b => by
    show T.cn t + T.cns (a ++ b) = T.cn t + T.cns a + T.cns b
    rw [T.cns_append a b]; omega
theorem T.cns_take {us : List T} {i : Nat} {t : T} (h : us[i]? = some t) : T.cns (us.take (i + 1)) = T.cns (us.take i) + T.cn t := by
  rw [take_succ_of h, T.cns_append]; rfl
theorem T.cns_take_le (us : List T) (i : Nat) : T.cns (us.take i) ≤ T.cns us := by
  conv => rhs; rw [← List.take_append_drop i us]
  rw [T.cns_append]; omega
theorem T.cns_take_mono (us : List T) (i : Nat) : T.cns (us.take i) ≤ T.cns (us.take (i + 1)) := by
  cases h : us[i]? with
  | none =>
    have := List.getElem?_eq_none_iff.mp h
    rw [List.take_of_length_le this, List.take_of_length_le (by omega)]
    exact Nat.le_refl _
  | some t => rw [T.cns_take h]; omega
def Mo (k : Nat) (o o' : HO) : Prop := o' = o ∨ (∃ xs j, o = .lst xs ∧ j ≤ k ∧ o' = .lst (xs ++ List.replicate j mkV)) ∨ ∃ ps, o = .dK ps ∧ o' = .dK (putK ps mK (.int 7))
theorem Mo.mono {k k' : Nat} {o o' : HO} (h : Mo k o o') (l : k ≤ k') : Mo k' o o' := by
  rcases h with h | ⟨xs, j, e1, e2, e3⟩ | h
  · exact .inl h
  · exact .inr (.inl ⟨xs, j, e1, Nat.le_trans e2 l, e3⟩)
  · exact .inr (.inr h)
theorem Mo.lst {k : Nat} {xs : List V} {o' : HO} (h : Mo k (.lst xs) o') : ∃ j, j ≤ k ∧ o' = .lst (xs ++ List.replicate j mkV) := by
  rcases h with h | ⟨ys, j, e1, e2, e3⟩ | ⟨ps, e, _⟩
  · exact ⟨0, Nat.zero_le _, by rw [h]; simp⟩
  · cases e1; exact ⟨j, e2, e3⟩
  · cases e
theorem Mo.dic {k : Nat} {ps : List (Key × V)} {o' : HO} (h : Mo k (.dK ps) o') : o' = .dK ps ∨ o' = .dK (putK ps mK (.int 7)) := by
  rcases h with h | ⟨ys, j, e1, e2, e3⟩ | ⟨qs, e, e2⟩
  · exact .inl h
  · cases e1
  · cases e; exact .inr e2
def Md (HD : Hp) (k : Nat) (H : Hp) : Prop := ∀ b o, HD b = some o → ∃ o', H b = some o' ∧ Mo k o o'
theorem Md.of {HD H : Hp} (g : Same HD H) : Md HD 0 H := fun b o e => ⟨o, g b o e, .inl rfl⟩
theorem Md.mono {HD H : Hp} {k k' : Nat} (h : Md HD k H) (l : k ≤ k') : Md HD k' H := fun b o e => by
  obtain ⟨o', h1, h2⟩ := h b o e
  exact ⟨o', h1, h2.mono l⟩
theorem Md.away {HD H : Hp} {k : Nat} {l : Addr} (h : Md HD k H) (hl : H l = none) : HD l = none := by
  cases e : HD l with
  | none => rfl
  | some o => obtain ⟨o', h1, _⟩ := h l o e; rw [hl] at h1; cases h1
theorem Md.new {HD H : Hp} {k : Nat} {l : Addr} (h : Md HD k H) (hl : H l = none) (o : HO) : Md HD k (upd H l o) := fun b u e => by
  obtain ⟨o', h1, h2⟩ := h b u e
  exact ⟨o', by rw [upd_ne (fun z => by rw [z, hl] at h1; cases h1)]; exact h1, h2⟩
theorem Md.put {HD H : Hp} {k : Nat} {a : Addr} {o o' : HO} (h : Md HD k H) (e : HD a = some o) (m : Mo k o o') : Md HD k (upd H a o') := fun b u eu => by
  by_cases hb : b = a
  · subst hb
    rw [e] at eu; cases eu
    exact ⟨o', upd_same, m⟩
  · obtain ⟨o2, h1, h2⟩ := h b u eu
    exact ⟨o2, by rw [upd_ne hb]; exact h1, h2⟩
structure Mp (HD H H' : Hp) : Prop where
  keep : ∀ b o, HD b = none → H b = some o → H' b = some o
  stay : ∀ b ps, HD b = some (.dK ps) → H b = some (.dK (putK ps mK (.int 7))) → H' b = some (.dK (putK ps mK (.int 7)))
theorem Mp.refl {HD H : Hp} : Mp HD H H := ⟨fun _ _ _ e => e, fun _ _ _ e => e⟩
theorem Mp.trans {HD H H1 H2 : Hp} (a : Mp HD H H1) (b : Mp HD H1 H2) : Mp HD H H2 := ⟨fun c o h e => b.keep c o h (a.keep c o h e), fun c ps h e => b.stay c ps h (a.stay c ps h e)⟩
theorem Mp.same {HD H H' : Hp} (g : Same H H') : Mp HD H H' := ⟨fun _ _ _ e => g _ _ e, fun _ _ _ e => g _ _ e⟩
theorem Mp.putL {HD H : Hp} {a : Addr} {xs : List V} (e : HD a = some (.lst xs)) (o : HO) : Mp HD H (upd H a o) :=
  ⟨fun b u h hb => by rw [upd_ne (fun z => by rw [z, e] at h; cases h)]; exact hb, fun b ps h hb => by rw [upd_ne (fun z => by rw [z, e] at h; cases h)]; exact hb⟩
theorem Mp.putD {HD H : Hp} {a : Addr} {ps : List (Key × V)} (e : HD a = some (.dK ps)) : Mp HD H (upd H a (.dK (putK ps mK (.int 7)))) :=
  ⟨fun b u h hb => by rw [upd_ne (fun z => by rw [z, e] at h; cases h)]; exact hb, fun b qs h hb => by
    by_cases hz : b = a
    · subst hz
      rw [e] at h; cases h
      exact upd_same
    · rw [upd_ne hz]; exact hb⟩
theorem Mp.out {HD H H' N : Hp} (h : Mp HD H H') (g : Same N H) (d : ∀ b o, N b = some o → HD b = none) : Same N H' := fun b o e => h.keep b o (d b o e) (g b o e)
theorem putK_twice (ps : List (Key × V)) (k : Key) (v : V) : putK (putK ps k v) k v = putK ps k v := by
  have h1 : ((putK ps k v).any fun kv => decide (kv.1 = k)) = true := by
    rw [valV_any, valV_put, if_pos rfl]; rfl
  have e0 : putK (putK ps k v) k v = (putK ps k v).map (fun kv => if kv.1 = k then (kv.1, v) else kv) := if_pos h1
  rw [e0]
  have : ∀ kv ∈ putK ps k v, (if kv.1 = k then (kv.1, v) else kv) = kv := by
    intro kv hm
    by_cases hk : kv.1 = k
    · rw [if_pos hk]
      unfold putK at hm
      split at hm
      · obtain ⟨y, hy, e⟩ := List.mem_map.mp hm
        by_cases hy1 : y.1 = k
        · rw [if_pos hy1] at e; rw [← e]
        · rw [if_neg hy1] at e; rw [← e] at hk; exact absurd hk hy1
      · rename_i hn
        rcases List.mem_append.mp hm with z | z
        · exact absurd (List.any_eq_true.mpr ⟨kv, z, by simpa using hk⟩) hn
        · rw [List.mem_singleton.mp z]
    · rw [if_neg hk]
  exact (List.map_congr_left this).trans (List.map_id _)
theorem putK_at {ps : List (Key × V)} {k : Key} {v : V} {i : Nat} {kv : Key × V} (h : (putK ps k v)[i]? = some kv) (hn : kv.1 ≠ k) : ps[i]? = some kv := by
  unfold putK at h
  split at h
  · rw [List.getElem?_map] at h
    cases hc : ps[i]? with
    | none => rw [hc] at h; cases h
    | some y =>
      rw [hc] at h
      have e : (if y.1 = k then (y.1, v) else y) = kv := Option.some.inj h
      by_cases hy : y.1 = k
      · rw [if_pos hy] at e; rw [← e] at hn; exact absurd hy hn
      · rw [if_neg hy] at e; rw [e]
  · by_cases hlt : i < ps.length
    · rwa [List.getElem?_append_left hlt] at h
    · rw [List.getElem?_append_right (by omega)] at h
      have : i - ps.length = 0 := by
        have := (List.getElem?_eq_some_iff.mp h).1
        simpa using this
      rw [this] at h
      cases Option.some.inj h
      exact absurd rfl hn
theorem mk_val {HD : Hp} {ps qs qs' : List (Key × V)} {ks : List (List Nat)} {us : List T} {i : Nat} {kv : Key × V} (nk : (ps.map (·.1)).Nodup) (hs : Reps HD (ps.map (·.2)) us) (hf : T.fews us)
    (hq : qs = ps ∨ qs = putK ps mK (.int 7)) (hq' : qs' = ps ∨ qs' = putK ps mK (.int 7)) (hst : qs = putK ps mK (.int 7) → qs' = putK ps mK (.int 7)) (hi : qs[i]? = some kv) :
    ∃ x t', valV qs' kv.1 = some x ∧ Rep HD x t' ∧ T.few t' ∧ T.dep t' ≤ T.deps us ∧ T.cns (us.take i) + T.cn t' ≤ T.cns (us.take (i + 1)) := by
  have hB : ∀ (y : V), ps[i]? = some (kv.1, y) → valV qs' kv.1 = some y → ∃ x t', valV qs' kv.1 = some x ∧ Rep HD x t' ∧ T.few t' ∧ T.dep t' ≤ T.deps us ∧ T.cns (us.take i) + T.cn t' ≤ T.cns (us.take (i + 1)) := by
    intro y hy hv
    obtain ⟨t', ht', hr'⟩ := hs.get (i := i) (v := y) (by rw [List.getElem?_map, hy]; rfl)
    have hm := List.mem_of_getElem? ht'
    exact ⟨y, t', hv, hr', T.fews_mem hf hm, T.deps_le hm, by rw [T.cns_take ht']; omega⟩
  by_cases hk : kv.1 = mK
  · rcases hq' with e | e
    · rcases hq with e2 | e2
      · subst e2
        refine hB kv.2 hi ?_
        rw [e]; exact valV_ix nk hi
      · have e3 := hst e2
        refine ⟨.int 7, .int 7, by rw [e3, valV_put, if_pos hk], rfl, True.intro, Nat.zero_le _, ?_⟩
        have := T.cns_take_mono us i
        exact this
    · refine ⟨.int 7, .int 7, by rw [e, valV_put, if_pos hk], rfl, True.intro, Nat.zero_le _, ?_⟩
      have := T.cns_take_mono us i
      exact this
  · have hp : ps[i]? = some kv := by
      rcases hq with e2 | e2
      · rw [← e2]; exact hi
      · rw [e2] at hi; exact putK_at hi hk
    refine hB kv.2 hp ?_
    rcases hq' with e | e
    · rw [e]; exact valV_ix nk hp
    · rw [e, valV_put, if_neg hk]; exact valV_ix nk hp
end L2
namespace L2
open PySem PySem.W PySem.Spec PyProof.Rows
structure Dd (P : Program) (w : World) (K : PySem.W.Frag) (mg : Str → Option Value) (base : Heap) (k : Nat) (x : Str) (ps : List Str) (dvs : List V) (sp : Sp) : Prop where
  ex : ∃ (f : Addr) (fd : FuncData) (ds : List Value), FnOk P w K mg base CX0 k f fd ps sp ∧ Binds K fd ps ds ∧ Vals dvs ds ∧ PySem.W.keepIn K (.ref f) = true ∧ mg x = some (.ref f)
section
variable {X : Cx} {k j : Nat} {x : Str} {ps : List Str} {dvs : List V} {sp : Sp} {e : Expr} {es : List Expr} {t : TA} {p pos : Pos}
theorem pe_cdd (D : Dd X.prog X.w X.K X.mg X.base k x ps dvs sp) (hr : Room j X.A) (hj : k ≤ j) (hg : Gl X x) (ha : PA X (e :: es) t) (hdb : (x == ("__debug__" : Str)) = false := by decide)
    (he : starEach (e :: es) X.env = (false, eval e X.env) :: starEach es X.env := by rfl) (hpl : (backTo pos (starEach es X.env)).any (·.1) = false := by rfl) : PE X (.Call (.Name x p) (e :: es) [] pos) (tCall sp dvs E0 t) := by
  obtain ⟨f, fd, ds, h1, h2, hv, h3, h4⟩ := D.ex
  exact pe_call h1 (hr.mono hj) hg h4 h3 h2 hv pass0 ha hdb he hpl
end
structure FunD (K : PySem.W.Frag) (x qual : Str) (st : Stmt) (f : Addr) (fd : FuncData) : Prop where
  ex : ∃ (oc : Value) (od : Option Addr) (dV kV doc pm : Value) (an : Option Addr) (cdv ct : Value) (osl : Array (Option Value)),
    fd = PySem.W.fnOf x qual (defArgs st) (defBody st) (defScope st) dV kV doc pm an cdv ct ∧ K.lookup f = some ⟨oc, od, .func fd, osl⟩ ∧ PySem.W.codeIn K cdv qual = true
theorem FunD.ok {P : Program} {w : World} {K : PySem.W.Frag} {mg : Str → Option Value} {base : Heap} {x qual : Str} {st : Stmt} {f : Addr} {fd : FuncData} {N ps : List Str} {k : Nat} {sp : Sp} (F : FunD K x qual st f fd) (S : FnScope N ps (defScope st)) (len : ∀ vs H Q E, sp vs H Q E → vs.length = ps.length)
    (hbody : ∀ (cdv : Value) (A : Around) (outer : List Env) (s : Shared) (H : Hp) (vs : List V) (Q : VK) (E : XK), Room k (A.deeper (envOfC qual (defScope st) s.heap.objs.size f cdv)) → sp vs H Q E →
      ∃ t, PSs (cxOf CX0 P w K mg base N qual (defScope st) f cdv A outer s H E).nox (defBody st) t ∧ t { nx := fun _ H' => Q .non H', rt := Q } (start N vs) H) : FnOk P w K mg base CX0 (k + 1) f fd ps sp := by
  obtain ⟨oc, od, dV, kV, doc, pm, an, cdv, ct, osl, rfl, lk, hcd⟩ := F.ex
  refine fn_of lk hcd S len fun A outer s H vs Q E hr hsp => ?_
  obtain ⟨t, h, q⟩ := hbody cdv A outer s H vs Q E hr hsp
  exact ⟨t, h.nox, q⟩
def newH (H H' : Hp) : Hp := fun b => match H b with
  | none => H' b
  | some _ => none
theorem newH_at {H H' : Hp} {b : Addr} (h : H b = none) : newH H H' b = H' b := by unfold newH; rw [h]
theorem newH_sub (H H' : Hp) : Same (newH H H') H' := fun b o e => by
  unfold newH at e
  cases h : H b with
  | none => rw [h] at e; exact e
  | some _ => rw [h] at e; cases e
theorem newH_old {H H' : Hp} {b : Addr} {o : HO} (e : newH H H' b = some o) : H b = none := by
  unfold newH at e
  cases h : H b with
  | none => rfl
  | some _ => rw [h] at e; cases e
theorem newH_mono {H H' H2 : Hp} (g : Same H' H2) : Same (newH H H') (newH H H2) := fun b o e => by
  have h := newH_old e
  rw [newH_at h] at e ⊢
  exact g _ _ e
theorem Sp1.new {H H' : Hp} {v : V} {t : T} {D : List Addr} (h : Sp1 H' v t D) (hD : ∀ b ∈ D, H b = none) : Rep (newH H H') v t :=
  Sp1.rep _ _ _ (Sp1.keep _ _ _ (fun b hb o _ e => by rw [newH_at (hD b hb)]; exact e) h)
theorem getD_range {α : Type} (d : α) (L : List α) : (List.range L.length).map (fun i => L.getD i d) = L := by
  apply List.ext_getElem
  · simp
  · intro i h1 h2
    simp [List.getD_eq_getElem?_getD, h2]
theorem kw_perm {α : Type} {n : Nat} {p : Array Nat} (h : Kw n (List.range n).toArray p) (d : α) {L : List α} (hL : L.length = n) : (p.toList.map fun i => L.getD i d).Perm L := by
  have h1 : p.toList.Perm (List.range n) := by
    have := h.pm
    rw [Array.perm_iff_toList_perm] at this
    simpa using this
  have h2 := h1.map fun i => L.getD i d
  subst hL
  rw [getD_range] at h2
  exact h2
theorem Reps.places {H : Hp} {vs : List V} {us : List T} (h : Reps H vs us) : ∀ {is : List Nat}, (∀ i ∈ is, i < vs.length) → Reps H (is.map fun i => vs.getD i .non) (is.map fun i => us.getD i .non)
  | [], _ => rfl
  | i :: is, hi => by
    have hlt := hi i List.mem_cons_self
    obtain ⟨t, ht, hr⟩ := h.get (i := i) (v := vs[i]) (by simp [hlt])
    refine ⟨_, _, rfl, ?_, Reps.places h fun j hj => hi j (List.mem_cons_of_mem _ hj)⟩
    have e1 : vs.getD i .non = vs[i] := by simp [List.getD_eq_getElem?_getD, hlt]
    have e2 : us.getD i .non = t := by rw [List.getD_eq_getElem?_getD, ht]; rfl
    show Rep H (vs.getD i .non) (us.getD i .non)
    rw [e1, e2]; exact hr
def Srt (b : Bool) (ws : List T) : Prop := ∀ (i : Nat) t t', ws[i]? = some t → ws[i + 1]? = some t' → cmpC (canon t) (canon t') ≠ (if b = true then -1 else 1)
theorem katRev_len {α : Type} (b : Bool) (L : List α) : (katRev b L).length = L.length := by cases b <;> simp [katRev]
theorem katRev_perm {α : Type} (b : Bool) (L : List α) : (katRev b L).Perm L := by cases b <;> simp [katRev, List.reverse_perm]
theorem Reps.kat {H : Hp} (b : Bool) {vs : List V} {us : List T} (h : Reps H vs us) : Reps H (katRev b vs) (katRev b us) := by
  cases b
  · exact h
  · exact Reps.reverse h
theorem kat_map {α β : Type} (b : Bool) (f : α → β) (L : List α) : katRev b (L.map f) = (katRev b L).map f := by cases b <;> simp [katRev]
theorem srt_of {b : Bool} {us : List T} {p : Array Nat} (W : Kw us.length (List.range us.length).toArray p) (U : Up (fun i j => decide (cmpC ((katRev b (us.map canon)).getD i .odd) ((katRev b (us.map canon)).getD j .odd) < 0)) p us.length) :
    Srt b (katRev b (p.toList.map fun i => (katRev b us).getD i .non)) := by
  have hsz : p.toList.length = us.length := by
    have := (kw_perm W (0 : Nat) (L := List.range us.length) (by simp)).length_eq
    simpa using this
  have hin : ∀ i, i < us.length → Gd p i < us.length := fun i hi => W.bd i hi
  have key : ∀ i j, i < j → j < us.length → ¬ cmpC (canon ((katRev b us).getD (Gd p j) .non)) (canon ((katRev b us).getD (Gd p i) .non)) < 0 := fun i j hij hj => by
    have z : decide (cmpC ((katRev b (us.map canon)).getD (Gd p j) .odd) ((katRev b (us.map canon)).getD (Gd p i) .odd) < 0) = false := U i j hij hj
    have e : ∀ m, m < us.length → (katRev b (us.map canon)).getD m .odd = canon ((katRev b us).getD m .non) := fun m hm => by
      rw [kat_map, List.getD_eq_getElem?_getD, List.getD_eq_getElem?_getD, List.getElem?_map]
      have hm' : m < (katRev b us).length := by rw [katRev_len]; exact hm
      simp [hm']
    rw [e _ (hin j hj), e _ (hin i (by omega))] at z
    simpa using z
  have hq : ∀ i t, (p.toList.map fun i => (katRev b us).getD i .non)[i]? = some t → i < us.length ∧ t = (katRev b us).getD (Gd p i) .non := fun i t h => by
    have hl : i < p.toList.length := by
      have := (List.getElem?_eq_some_iff.mp h).1
      simpa using this
    refine ⟨by omega, ?_⟩
    rw [List.getElem?_map] at h
    have e : p.toList[i]? = some (Gd p i) := by
      have hl' : i < p.size := by simpa using hl
      rw [Gd_eq]
      simp [hl']
    rw [e] at h
    exact (Option.some.inj h).symm
  intro i t t' h1 h2
  cases b with
  | false =>
    obtain ⟨l1, e1⟩ := hq i t h1
    obtain ⟨l2, e2⟩ := hq (i + 1) t' h2
    have z := key i (i + 1) (by omega) l2
    rw [← e1, ← e2] at z
    have a := cmpC_anti (canon t) (canon t')
    rw [if_neg (by decide)]
    omega
  | true =>
    have h1' : (p.toList.map fun i => (katRev true us).getD i .non).reverse[i]? = some t := h1
    have h2' : (p.toList.map fun i => (katRev true us).getD i .non).reverse[i + 1]? = some t' := h2
    have b1 : i < us.length := by
      have := (List.getElem?_eq_some_iff.mp h1').1
      simpa [hsz] using this
    have b2 : i + 1 < us.length := by
      have := (List.getElem?_eq_some_iff.mp h2').1
      simpa [hsz] using this
    rw [List.getElem?_reverse (by rw [List.length_map, hsz]; exact b1), List.length_map, hsz] at h1'
    rw [List.getElem?_reverse (by rw [List.length_map, hsz]; exact b2), List.length_map, hsz] at h2'
    obtain ⟨l1, e1⟩ := hq _ t h1'
    obtain ⟨l2, e2⟩ := hq _ t' h2'
    have z := key (us.length - 1 - (i + 1)) (us.length - 1 - i) (by omega) (by omega)
    rw [← e1, ← e2] at z
    rw [if_pos rfl]
    omega
theorem kat_perm {b : Bool} {us : List T} {p : Array Nat} (W : Kw us.length (List.range us.length).toArray p) : (katRev b (p.toList.map fun i => (katRev b us).getD i .non)).Perm us :=
  (katRev_perm b _).trans ((kw_perm W .non (katRev_len b us)).trans (katRev_perm b us))
end L2
namespace L2
open PySem PySem.Spec PyProof.Rows
section
variable {P : Program} {w : World}
open AutoSeq1 (wpAny_loadPart')
open MeetsSeq MeetsSeq2 MeetsSeq3 SeqRoads2 SeqAt
theorem nem_loop (l b : Addr) (xs ys : Array Value) (n m : Nat) (d1 d2 : Option Addr) (sl1 sl2 : Array (Option Value)) (hsz : xs.size = ys.size) (k : Nat) :
    ∀ i : Nat, xs.size - i = k → MeetsIn P w (Builtin.«list.__eq__.loop» ⟨[.ref l, .ref b, rawInt i, rawInt 3], []⟩)
      (fun A R s => s.heap.get? l = some { cls := .type "list", dict := d1, data := .seq xs n, slots := sl1 } ∧ s.heap.get? b = some { cls := .type "list", dict := d2, data := .seq ys m, slots := sl2 } ∧
        (∀ j (h1 : j < xs.size) (h2 : j < ys.size), EqM P w A.in1 s xs[j] ys[j]) ∧ R (.ok (.ret (.bool false))) s) := by
  induction k with
  | zero =>
    intro i hk A R s h
    obtain ⟨hp, g, d, tk, os⟩ := s
    obtain ⟨hl, hb, he, h⟩ := h
    wp_walk using wpAny_loadPart' hl, wpAny_loadPart' hb
    have z1 : xs[((i : Nat) : Int).toNat]? = none := by simp; omega
    have z2 : ys[((i : Nat) : Int).toNat]? = none := by simp; omega
    rw [z1, z2]
    wp_walk using wpAny_loadPart' hl, wpAny_loadPart' hb
    show R (.ok (.ret (.bool (xs.size != ys.size)))) _
    rw [hsz, bne_self_eq_false]; exact h
  | succ k ih =>
    intro i hk A R s h
    obtain ⟨hp, g, d, tk, os⟩ := s
    obtain ⟨hl, hb, he, h⟩ := h
    wp_walk using wpAny_loadPart' hl, wpAny_loadPart' hb
    have l1 : i < xs.size := by omega
    have l2 : i < ys.size := by omega
    have z1 : xs[((i : Nat) : Int).toNat]? = some xs[i] := by simp [l1]
    have z2 : ys[((i : Nat) : Int).toNat]? = some ys[i] := by simp [l2]
    rw [z1, z2]
    refine wpAny_bind (he i l1 l2 _ _ ?_)
    wp_walk
    rw [show ((i : Int) + 1) = ((i + 1 : Nat) : Int) by omega]
    refine ⟨plainId_quiet plain_eq_loop _, codeAny_builtin entry_eq_loop ?_⟩
    rw [Around.under_plainId plain_eq_loop _]
    exact ih (i + 1) (by omega) A R _ ⟨hl, hb, he, h⟩
theorem nem_list (l b : Addr) (xs ys : Array Value) (n m : Nat) (d1 d2 : Option Addr) (sl1 sl2 : Array (Option Value)) (hsz : xs.size = ys.size) : MeetsIn P w (Builtin.«list.__ne__» ⟨[.ref l, .ref b], []⟩)
      (fun A R s => s.heap.get? l = some { cls := .type "list", dict := d1, data := .seq xs n, slots := sl1 } ∧ s.heap.get? b = some { cls := .type "list", dict := d2, data := .seq ys m, slots := sl2 } ∧
        (∀ j (h1 : j < xs.size) (h2 : j < ys.size), EqM P w A.in1 s xs[j] ys[j]) ∧ R (.ok (.ret (.bool false))) s) := by
  intro A R s h
  obtain ⟨hp, g, d, tk, os⟩ := s
  obtain ⟨hl, hb, he, h⟩ := h
  have f3 := AutoSeq1.sub_list_list
  have hne : ¬ (xs.size != ys.size) = true := by simp [hsz]
  wp_walk using wpAny_loadPart' hl, wpAny_loadPart' hb
  refine ⟨plainId_quiet plain_eq_loop _, codeAny_builtin entry_eq_loop ?_⟩
  rw [Around.under_plainId plain_eq_loop _]
  exact nem_loop l b xs ys n m d1 d2 sl1 sl2 hsz _ 0 rfl A R _ ⟨hl, hb, he, h⟩
theorem NeM.lists {A : Around} {s : Shared} {l b : Addr} {xs ys : Array Value} (hl : s.heap.IsList l xs) (hb : s.heap.IsList b ys) (hsz : xs.size = ys.size) (hu : A.units < cLine)
    (he : ∀ j (h1 : j < xs.size) (h2 : j < ys.size), EqM P w A.in1 s xs[j] ys[j]) (E : Value → Shared → Prop) (Q : Value → Shared → Prop) (q : Q (.bool false) s) : wpAny (model P w) A (richCompare .NotEq (.ref l) (.ref b)) Q E s := by
  obtain ⟨⟨c1, d1, dt1, sl1⟩, ho, hc, n, hd⟩ := id hl
  obtain ⟨⟨c2, d2, dt2, sl2⟩, ho2, hc2, n2, hd2⟩ := id hb
  simp only at hc hd hc2 hd2
  subst hc hd hc2 hd2
  refine wpAny_richCompare_same_room (op := .NotEq) ⟨_, ho, rfl⟩ ⟨_, ho2, rfl⟩ F.slot_list_ne (call_meetsIn F.slot_list_ne ⟨_, ho, rfl⟩ F.entry_list_ne (F.args_list_ne_2 _ _) (nem_list l b xs ys n n2 d1 d2 sl1 sl2 hsz) ⟨ho, ho2, he, ?_⟩) hu
  exact ⟨(fun x => nomatch x), q⟩
end
section
variable {X : Cx}
def rNeT : R2 := fun x y H Q => ∃ ts, Rep H x (.lst ts) ∧ Rep H y (.lst ts) ∧ T.pures ts ∧ T.deps ts ≤ 60 ∧ Q (.bl false) H
theorem op_ne_T (hu : X.A.units + 64 < cLine) : OpR X (compareOp .NotEq) rNeT := by
  intro pins s σ H x y v u Q I rx ry h
  obtain ⟨ts, ⟨a, xs, rfl, ha, hx⟩, ⟨b, ys, rfl, hb, hy⟩, hp, hd, q⟩ := h
  cases rx
  cases ry
  obtain ⟨its, r1, pl1, _⟩ := I.list (SqL.of ha)
  obtain ⟨jts, r2, pl2, _⟩ := I.list (SqL.of hb)
  have n1 := r1.length; have n2 := r2.length; have m1 := hx.length; have m2 := hy.length
  refine NeM.lists pl1.isList pl2.isList (by simp; omega) (by omega) (fun j h1 h2 => ?_) _ _ ⟨.bl false, H, I, rfl, q⟩
  have := eqm_trees I ts (A := X.A.in1) hx hy hp r1 r2 (by show X.A.units + 1 + _ < _; omega) j (by simpa using h1) (by simpa using h2)
  simpa using this
end
end L2
namespace K16
open PySem L2
local macro_rules | `(tactic| walk_at "rd") => `(tactic| simp only [cxOf_K, nox_K, compCx_K, tSeq, tNext, tAsg, gName, tRet, tRetN, tIfS, tDrop, tOp, tUn, tVar, tC, tCall, tCons, tNil, tTest, tB, tAnd, tOr, tNot, tAndV, tOrV, tNotV, tIf, tCB, tBM, tComp, tTrue, tPart, tNoPart, tSl, tChain, tIsN, tNotN, tLst, tTup, tFor_eq, sDPut, tDNewK, tNever, rI0, rI, rU, rEq, rNe, rMulS, rInC, iRng1, iStr, CDiv, CMul, CPow, scal, List.append_nil, List.getElem?_cons_zero, List.getElem?_cons_succ, List.set_cons_zero, List.set_cons_succ, List.map_cons, List.map_nil, List.length_cons, List.length_nil, sizeLine_eq, Nat.reduceAdd, Nat.reduceLeDiff, Option.join_some, Option.join_none, Option.some.injEq, V.int.injEq, V.str.injEq, V.bl.injEq, V.ref.injEq, V.ty.injEq, List.cons.injEq, and_true, true_and, and_self, exists_eq_left', exists_eq_left, exists_and_left, exists_and_right, decide_eq_true_eq, Bool.not_eq_eq_eq_not, Bool.not_true, Bool.not_false, decide_eq_false_iff_not, Int.reduceLT, Int.reduceLE, Int.reduceNeg, Int.reducePow, Int.reduceAdd, Int.reduceSub, Int.reduceMul, Int.reduceToNat, natAbs10, Nat.reduceLT, Nat.reducePow, or_true, true_or, if_true, if_false, Bool.false_eq_true, ite_true, ite_false, reduceCtorEq])
local macro_rules | `(tactic| walk_at "rd2") => `(tactic| simp only [tDisp, tPairs, tBM0, iList, iDict, tThaw, tMaxD, rMaxD, tDGet, rVals, tComp, cxOf_K, nox_K, compCx_K, tSeq, tNext, tAsg, gName, tRet, tRetN, tIfS, tDrop, tOp, tUn, tVar, tC, tCall, tCons, tNil, tTest, tB, tAnd, tOr, tNot, tAndV, tOrV, tNotV, tIf, tCB, tBM, tComp, tTrue, tPart, tNoPart, tSl, tChain, tIsN, tNotN, tLst, tTup, tFor_eq, sDPut, tDNewK, tNever, rI0, rI, rU, rEq, rNe, rMulS, rInC, iRng1, iStr, CDiv, CMul, CPow, scal, List.append_nil, List.getElem?_cons_zero, List.getElem?_cons_succ, List.set_cons_zero, List.set_cons_succ, List.map_cons, List.map_nil, List.length_cons, List.length_nil, sizeLine_eq, Nat.reduceAdd, Nat.reduceLeDiff, Option.join_some, Option.join_none, Option.some.injEq, V.int.injEq, V.str.injEq, V.bl.injEq, V.ref.injEq, V.ty.injEq, List.cons.injEq, and_true, true_and, and_self, exists_eq_left', exists_eq_left, exists_and_left, exists_and_right, decide_eq_true_eq, Bool.not_eq_eq_eq_not, Bool.not_true, Bool.not_false, decide_eq_false_iff_not, Int.reduceLT, Int.reduceLE, Int.reduceNeg, Int.reducePow, Int.reduceAdd, Int.reduceSub, Int.reduceMul, Int.reduceToNat, natAbs10, Nat.reduceLT, Nat.reducePow, or_true, true_or, if_true, if_false, Bool.false_eq_true, ite_true, ite_false, reduceCtorEq])
seal L2.PSs L2.PS L2.PE L2.PT L2.PW L2.PA L2.PI L2.PG L2.PGs L2.PPs L2.PTs
def top (i : Nat) : Stmt := PySem.Challenge.pw_cabinet_k16_whole_in_order.main.body.getD i (.Pass ⟨0, 0, 0, 0⟩)
abbrev sCell : Stmt := top 23
abbrev sNum : Stmt := top 27
def cellF (ns : List Int) (k : Int) : Int :=
  let m := if ns = [] then k * 7919 else (k * 7919 + k / ns.length * 104729 + ns.getD (k % ns.length).toNat 0 * 48271) % 1000003
  (m * m / 11 + 13 * m) % 1000003
theorem cellF_lo (ns : List Int) (k : Int) : 0 ≤ cellF ns k := Int.emod_nonneg _ (by decide)
theorem cellF_hi (ns : List Int) (k : Int) : cellF ns k < 1000003 := Int.emod_lt_of_pos _ (by decide)
def spCell (K : PySem.W.Frag) : Sp := fun vs H Q _ => ∃ (a : Addr) (ns : List Int) (k : Int), vs = [.ref a, .int k] ∧ SqL K H a (ns.map V.int) ∧ ns.length ≤ 63 ∧ 0 ≤ k ∧ k < 1000000 ∧ ∀ H', Same H H' → Q (.int (cellF ns k)) H'
theorem spCell_i {K : PySem.W.Frag} {H : Hp} {Q : VK} {E : XK} {a : Addr} {ns : List Int} {k : Int} (hS : SqL K H a (ns.map V.int)) (h63 : ns.length ≤ 63) (h0 : 0 ≤ k) (h1 : k < 1000000) (q : ∀ H', Same H H' → Q (.int (cellF ns k)) H') :
    spCell K [.ref a, .int k] H Q E := ⟨a, ns, k, rfl, hS, h63, h0, h1, q⟩
section
variable {P : Program} {w : World} {K : PySem.W.Frag} {mg : Str → Option Value} {base : Heap} {f : Addr} {fd : FuncData}
theorem scCell : FnScope ["_law_script", "_law_k", "_law_more"] ["_law_script", "_law_k"] (defScope sCell) := ⟨rfl, rfl, rfl, by decide +kernel, rfl, by decide +kernel, by decide +kernel⟩
theorem ok_cell (F : Fun K "_law_cell" "_law_cell" sCell f fd) (B : Bl mg) : FnOk P w K mg base CX0 1 f fd ["_law_script", "_law_k"] (spCell K) := by
  refine F.ok scCell (fun vs H Q E h => ?_) (fun cdv A outer s H vs Q E hr h => ?_)
  · obtain ⟨a, ns, k, rfl, _⟩ := h
    rfl
  obtain ⟨a, ns, k, rfl, hS, h63, h0, h1, q⟩ := h
  have nd := scCell.nd
  have hu0 := hr.units0
  refine ⟨_, (pss_cons (ps_set (i := 2) nd rfl (Or.inl rfl) (pe_op op_mul (pv 1) pe_int))
    (pss_cons (ps_if (pt_cmpR (op_ne_l hu0) (pv 0) (pe_lst pa_nil) (nomark _)) (pss_cons (ps_set (i := 2) nd rfl (Or.inl rfl) (pe_op op_add (pv 2) (pe_op op_mul (pe_op op_fdiv (pv 1) (pe_callB call_len_l rfl B.len bt_len (pa_cons (pv 0) pa_nil))) pe_int)))
    (pss_one (ps_set (i := 2) nd rfl (Or.inl rfl) (pe_op op_mod (pe_op op_add (pv 2) (pe_op op_mul (pe_ix ix_list (pv 0) (pe_op op_mod (pv 1) (pe_callB call_len_l rfl B.len bt_len (pa_cons (pv 0) pa_nil))) (fun _ _ => rfl)) pe_int)) pe_int)))) pss_nil)
    (pss_one (ps_ret (pe_op op_mod (pe_op op_add (pe_op op_fdiv (pe_op op_mul (pv 2) (pv 2)) pe_int) (pe_op op_mul pe_int (pv 2))) pe_int))))), ?_⟩
  rw [show start ["_law_script", "_law_k", "_law_more"] [.ref a, .int k] = [some (.ref a), some (.int k), none] from rfl]
  walk_at "rd"
  intro p hp
  have hS' := (same_new hp (.lst [])).seq hS
  refine rEqL_i hS' (SqL.of upd_same) (flat_ints ns) rfl ⟨_, rfl, ?_⟩
  rw [eqLs_nil]
  by_cases hn : ns = []
  · subst hn
    refine iteF ⟨.inl (by omega), ?_⟩
    exact q _ (same_new hp _)
  · have hpos : 0 < ns.length := List.length_pos_iff.mpr hn
    have e1 : (ns.map V.int).isEmpty = false := by cases ns with | nil => exact absurd rfl hn | cons _ _ => rfl
    rw [if_pos rfl, e1]
    have hl : (ns.map V.int).length = ns.length := List.length_map _
    have hm0 : 0 ≤ k % (ns.length : Int) := Int.emod_nonneg _ (by omega)
    have hm1 : k % (ns.length : Int) < ns.length := Int.emod_lt_of_pos _ (by omega)
    refine iteT ⟨ns.map V.int, hS', by rw [hl]; omega, ns.map V.int, hS', by rw [hl]; omega, ?_⟩
    rw [hl]
    refine rIxL_i hS' (atI_getD (d := .int 0) hm0 (by rw [hl]; exact hm1)) ⟨ns.getD (k % ns.length).toNat 0, ?_, .inl ?_, ?_⟩
    · simp [List.getD, List.getElem?_map]
    · generalize (k * 7919 + k / ns.length * 104729 + ns.getD (k % ns.length).toNat 0 * 48271) = z
      omega
    · have e : cellF ns k = _ := rfl
      have e2 : cellF ns k = (((k * 7919 + k / ns.length * 104729 + ns.getD (k % ns.length).toNat 0 * 48271) % 1000003 * ((k * 7919 + k / ns.length * 104729 + ns.getD (k % ns.length).toNat 0 * 48271) % 1000003) / 11 + 13 * ((k * 7919 + k / ns.length * 104729 + ns.getD (k % ns.length).toNat 0 * 48271) % 1000003)) % 1000003) := by
        unfold cellF; rw [if_neg hn]
      rw [← e2]
      exact q _ (same_new hp _)
def spNum : Sp := fun vs H Q _ => ∃ (m : Int), vs = [.int m] ∧ 0 ≤ m ∧ m < 2000000 ∧ ∀ (i : Int), -(10 ^ 12) ≤ i → i ≤ 10 ^ 12 → ∀ H', Same H H' → Q (.int i) H'
theorem scNum : FnScope ["_law_more"] ["_law_more"] (defScope sNum) := ⟨rfl, rfl, rfl, by decide +kernel, rfl, by decide +kernel, by decide +kernel⟩
theorem ok_num (F : Fun K "_law_number_by" "_law_number_by" sNum f fd) : FnOk P w K mg base CX0 1 f fd ["_law_more"] spNum := by
  refine F.ok scNum (fun vs H Q E h => ?_) (fun cdv A outer s H vs Q E hr h => ?_)
  · obtain ⟨m, rfl, _⟩ := h
    rfl
  obtain ⟨m, rfl, h0, h1, q⟩ := h
  have nd := scNum.nd
  refine ⟨_, (pss_cons (ps_if (pt_cmpR op_eq (pe_op op_mod (pv 0) pe_int) pe_int (nomark _)) (pss_one (ps_ret (pe_op op_sub (pe_op op_mod (pe_op op_fdiv (pv 0) pe_int) pe_int) pe_int))) pss_nil)
    (pss_cons (ps_if (pt_cmpR op_eq (pe_op op_mod (pv 0) pe_int) pe_int (nomark _)) (pss_one (ps_ret (pe_op op_sub (pe_op op_mod (pe_op op_pow (pv 0) pe_int) (pe_op op_add (pe_op op_mul pe_int (pe_op op_pow pe_int pe_int)) pe_int)) (pe_op op_pow pe_int pe_int)))) pss_nil)
    (pss_one (ps_ret (pe_ix ix_list (pe_lst (pa_cons (pe_op op_pow pe_int pe_int) (pa_cons (pe_un un_neg (pe_op op_pow pe_int pe_int)) (pa_cons (pe_op op_sub (pe_op op_pow pe_int pe_int) pe_int) (pa_cons pe_int (pa_cons pe_int (pa_cons (pe_un un_neg pe_int) (pa_cons (pe_op op_pow pe_int pe_int) (pa_cons pe_int pa_nil))))))))) (pe_op op_mod (pe_op op_fdiv (pv 0) pe_int) pe_int) (fun _ _ => rfl)))))), ?_⟩
  rw [show start ["_law_more"] [.int m] = [some (.int m)] from rfl]
  walk_at "rd"
  split
  · exact q _ (by omega) (by omega) _ (Same.refl H)
  · split
    · refine ⟨by omega, q _ ?_ ?_ _ (Same.refl H)⟩
      · have := Int.emod_nonneg (m ^ 4) (show (2000000000001 : Int) ≠ 0 by decide)
        omega
      · have := Int.emod_lt_of_pos (m ^ 4) (show (0 : Int) < 2000000000001 by decide)
        omega
    · intro p hp
      obtain ⟨v, hv, hm⟩ := atI_of (xs := [V.int 1000000000000, V.int (-1000000000000), V.int 999999999999, V.int 0, V.int 1, V.int (-1), V.int 100000000000, V.int 999]) (i := m / 3 % 8) (by omega) (by simp only [List.length_cons, List.length_nil]; omega)
      refine rIxL_i (SqL.of upd_same) hv ?_
      simp only [List.mem_cons, List.not_mem_nil, or_false] at hm
      rcases hm with rfl | rfl | rfl | rfl | rfl | rfl | rfl | rfl <;> exact q _ (by decide) (by decide) _ (same_new hp _)
abbrev sName : Stmt := top 24
def spName : Sp := fun vs H Q _ => ∃ (m : Int), vs = [.int m] ∧ 0 ≤ m ∧ m < 2000000 ∧ ∀ (x : List Nat), okName x = true → ∀ H', Same H H' → Q (.str (tx x)) H'
theorem scName : FnScope ["_law_more", "_law_letters", "_law_size", "_law_at", "_law_word", "_law_by", "_law_signs_here"] ["_law_more"] (defScope sName) := ⟨rfl, rfl, rfl, by decide +kernel, rfl, by decide +kernel, by decide +kernel⟩
theorem ok_name (F : Fun K "_law_name_by" "_law_name_by" sName f fd) (B : Bl mg) : FnOk P w K mg base CX0 1 f fd ["_law_more"] spName := by
  refine F.ok scName (fun vs H Q E h => ?_) (fun cdv A outer s H vs Q E hr h => ?_)
  · obtain ⟨m, rfl, _⟩ := h
    rfl
  obtain ⟨m, rfl, h0, h1, q⟩ := h
  have nd := scName.nd
  refine ⟨_, (pss_cons (ps_set (i := 1) nd rfl (Or.inr rfl) pe_str)
    (pss_cons (ps_set (i := 2) nd rfl (Or.inl rfl) (pe_ix ix_list (pe_lst (pa_cons pe_int (pa_cons (pe_op op_add pe_int (pe_op op_mod (pe_op op_fdiv (pv 0) pe_int) pe_int)) (pa_cons (pe_op op_add pe_int (pe_op op_mod (pe_op op_fdiv (pv 0) pe_int) pe_int)) pa_nil)))) (pe_op op_mod (pv 0) pe_int) (fun _ _ => rfl)))
    (pss_cons (ps_if (pt_cmpR op_eq (pe_op op_mod (pe_op op_fdiv (pv 0) pe_int) pe_int) pe_int (nomark _)) (pss_cons (ps_set (i := 3) nd rfl (Or.inl rfl) (pe_op op_mod (pe_op op_fdiv (pv 0) pe_int) (pv 2)))
    (pss_cons (ps_set (i := 4) nd rfl (Or.inl rfl) (pe_op op_add_str (pe_op op_add_str (pe_op op_mul_str pe_str (pv 3)) (pe_ix ix_str (pv 1) (pe_op op_mod (pe_op op_fdiv (pv 0) pe_int) pe_int) (fun _ _ => rfl))) (pe_op op_mul_str pe_str (pe_op op_sub (pe_op op_sub (pv 2) (pv 3)) pe_int))))
    (pss_one (ps_ret (pv 4))))) pss_nil)
    (pss_cons (ps_set (i := 5) nd rfl (Or.inr rfl) (pe_op op_add pe_int (pe_op op_mod (pe_op op_fdiv (pv 0) pe_int) pe_int)))
    (pss_cons (ps_comp (i := 6) nd rfl (Or.inl rfl) (own := ["_law_j"]) (F := [("_law_letters", 1), ("_law_more", 0), ("_law_by", 5)]) ⟨rfl, by with_unfolding_all rfl, by with_unfolding_all rfl, by with_unfolding_all rfl, (.cons rfl rfl rfl (.cons rfl rfl rfl (.cons rfl rfl rfl .nil)))⟩ rfl (pi_range1 rfl B.range (pa_cons (pe_op op_sub (pv 2) pe_int) pa_nil)) (fun _ _ _ _ => pg_name (i := 0) (by show (compN ["_law_j"] [("_law_letters", 1), ("_law_more", 0), ("_law_by", 5)]).Nodup; decide +kernel) rfl (Or.inl rfl)) (fun _ _ _ _ => pts_nil) (fun _ _ _ _ => (pe_ix ix_str (pv 1) (pe_op op_mod (pe_op op_add (pe_op op_fdiv (pv 2) pe_int) (pe_op op_mul (pv 0) (pv 3))) pe_int) (fun _ _ => rfl))))
    (pss_one (ps_ret (pe_op op_add_str (pe_ix ix_str (pv 1) (pe_op op_mod (pe_op op_fdiv (pv 0) pe_int) pe_int) (fun _ _ => rfl)) (pe_bm PySem.F.plainAttrs_str PySem.F.slot_str_join PySem.F.type_str_join mt_join pe_str (pa_cons (pv 6) pa_nil)))))))))), ?_⟩
  rw [show start ["_law_more", "_law_letters", "_law_size", "_law_at", "_law_word", "_law_by", "_law_signs_here"] [.int m] = [some (.int m), none, none, none, none, none, none] from rfl]
  walk_at "rd"
  intro p hp
  obtain ⟨v, hv, hm⟩ := atI_of (xs := [V.int 1, V.int (1 + m / 3 % 4), V.int (1 + m / 3 % 12)]) (i := m % 3) (by omega) (by simp only [List.length_cons, List.length_nil]; omega)
  obtain ⟨n, rfl, n1, n12⟩ : ∃ n : Int, v = .int n ∧ 1 ≤ n ∧ n ≤ 12 := by
    simp only [List.mem_cons, List.not_mem_nil, or_false] at hm
    rcases hm with rfl | rfl | rfl <;> exact ⟨_, rfl, by omega, by omega⟩
  refine rIxL_i (SqL.of upd_same) hv ?_
  simp only [ts_a, rep_one, of_nil]
  split
  · have a0 := Int.emod_nonneg (m / 72) (show n ≠ 0 by omega)
    have a1 := Int.emod_lt_of_pos (m / 72) (show 0 < n by omega)
    obtain ⟨c, hc, hcl⟩ := at_l26 (i := m / 864 % 26) (by omega) (by omega)
    refine ⟨n, rfl, by omega, by decide, by omega, by omega, rIxS_i (by decide) (by rw [ts_l36]; exact hc) ⟨_, rfl, ?_, n, rfl, by decide, by omega, by omega, ?_, ?_⟩⟩
    · rw [tx_len, tx_len]; simp only [List.length_replicate, List.length_singleton]; omega
    · rw [app_tx, tx_len, tx_len]; simp only [List.length_append, List.length_replicate, List.length_singleton]; omega
    · have e : tx (List.replicate (m / 72 % n).toNat 97) ++ tx [c] ++ tx (List.replicate (n - m / 72 % n - 1).toNat 97) = tx (List.replicate (m / 72 % n).toNat 97 ++ [c] ++ List.replicate (n - m / 72 % n - 1).toNat 97) := by rw [app_tx, app_tx]
      rw [e]
      refine q _ (okName_of ?_ ?_ ?_) _ (same_new hp _)
      · simp only [List.length_append, List.length_replicate, List.length_singleton]; omega
      · cases e : (m / 72 % n).toNat with
        | zero => exact ⟨c, _, rfl, hcl⟩
        | succ k => exact ⟨97, _, rfl, a_letL⟩
      · intro d hd
        simp only [List.mem_append, List.mem_replicate, List.mem_singleton] at hd
        rcases hd with (⟨_, rfl⟩ | rfl) | ⟨_, rfl⟩
        · exact letL_sub a_letL
        · exact letL_sub hcl
        · exact letL_sub a_letL
  · refine ⟨n, rfl, by omega, by omega, comp_rng (fun i ys H' => Same (upd H p (.lst [V.int 1, V.int (1 + m / 3 % 4), V.int (1 + m / 3 % 12)])) H' ∧ ∃ cs : List Nat, ys = (cs.map fun c => tx [c]).map V.str ∧ cs.length = i ∧ ∀ c ∈ cs, c ∈ letL ++ figL) (by rw [sizeLine_eq]; omega) ⟨Same.refl _, [], rfl, rfl, fun _ h => nomatch h⟩ ?_ ?_⟩
    · rintro i ys H' hi _ ⟨hs, cs, rfl, hl, hcs⟩
      walk_at "rd"
      obtain ⟨c, hc, hcl⟩ := at_l36 (i := (m / 7 + (0 + (i : Int)) * (1 + m / 11 % 35)) % 36) (by omega) (by omega)
      refine ⟨.inl (by omega), rIxS_i (by decide) (by rw [ts_l36]; exact hc) ⟨hs, cs ++ [c], by simp, by simp [hl], ?_⟩⟩
      intro d hd
      rcases List.mem_append.mp hd with z | z
      · exact hcs d z
      · rw [List.mem_singleton.mp z]; exact hcl
    · rintro ys H' hl ⟨hs, cs, rfl, hlen, hcs⟩ p' hp'
      obtain ⟨c, hc, hcl⟩ := at_l26 (i := m / 72 % 26) (by omega) (by omega)
      have hfl : ((cs.map fun c => tx [c]).map ts).flatten = cs := by
        clear hlen hl hcs
        induction cs with
        | nil => rfl
        | cons d r ih => simp only [List.map_cons, List.flatten_cons, ih, ts_tx]; rfl
      refine rIxS_i (by decide) (by rw [ts_l36]; exact hc) ⟨rfl, p', cs.map fun c => tx [c], rfl, rfl, SqL.of upd_same, by rw [hfl]; omega, _, rfl, _, rfl, ?_, ?_⟩
      · rw [hfl, tx_len, tx_len, List.length_singleton]; omega
      · rw [hfl, app_tx]
        refine q _ (okName_of ?_ ⟨c, cs, rfl, hcl⟩ ?_) _ ((same_new hp _).trans (hs.trans (same_new hp' _)))
        · show (c :: cs).length ≤ 12
          rw [List.length_cons]; omega
        · intro d hd
          rcases List.mem_cons.mp hd with z | z
          · rw [z]; exact letL_sub hcl
          · exact hcs d z
abbrev sSigns : Stmt := top 25
abbrev sText : Stmt := top 26
def spSigns : Sp := fun vs H Q _ => vs = [] ∧ Q (.str (tx sgnL)) H
theorem scSigns : FnScope ["_law_some"] [] (defScope sSigns) := ⟨rfl, rfl, rfl, by decide +kernel, rfl, by decide +kernel, by decide +kernel⟩
theorem ok_signs (F : Fun K "_law_signs" "_law_signs" sSigns f fd) : FnOk P w K mg base CX0 1 f fd [] spSigns := by
  refine F.ok scSigns (fun vs H Q E h => ?_) (fun cdv A outer s H vs Q E hr h => ?_)
  · obtain ⟨rfl, _⟩ := h
    rfl
  obtain ⟨rfl, q⟩ := h
  have nd := scSigns.nd
  refine ⟨_, (pss_cons (ps_set (i := 0) nd rfl (Or.inl rfl) pe_str)
    (pss_one (ps_ret (pe_op op_add_str (pv 0) pe_str)))), ?_⟩
  rw [show start ["_law_some"] [] = [none] from rfl]
  walk_at "rd"
  refine ⟨by decide, ?_⟩
  rw [ts_sgn]; exact q
def spText : Sp := fun vs H Q _ => ∃ (m : Int), vs = [.int m] ∧ 0 ≤ m ∧ m < 2000000 ∧ ∀ (x : List Nat), okText x = true → ∀ H', Same H H' → Q (.str (tx x)) H'
theorem scText : FnScope ["_law_more", "_law_signs_here", "_law_size", "_law_half", "_law_by"] ["_law_more"] (defScope sText) := ⟨rfl, rfl, rfl, by decide +kernel, rfl, by decide +kernel, by decide +kernel⟩
theorem ok_text (F : Fun K "_law_text_by" "_law_text_by" sText f fd) (B : Bl mg) (G_law_signs : Dn P w K mg base 1 "_law_signs" [] spSigns) : FnOk P w K mg base CX0 2 f fd ["_law_more"] spText := by
  refine F.ok scText (fun vs H Q E h => ?_) (fun cdv A outer s H vs Q E hr h => ?_)
  · obtain ⟨m, rfl, _⟩ := h
    rfl
  obtain ⟨m, rfl, h0, h1, q⟩ := h
  have nd := scText.nd
  refine ⟨_, (pss_cons (ps_set (i := 1) nd rfl (Or.inr rfl) (pe_cd0 G_law_signs hr (by omega) rfl))
    (pss_cons (ps_set (i := 2) nd rfl (Or.inl rfl) (pe_ix ix_list (pe_lst (pa_cons (pe_op op_mod (pe_op op_fdiv (pv 0) pe_int) pe_int) (pa_cons (pe_op op_mod (pe_op op_fdiv (pv 0) pe_int) pe_int) (pa_cons (pe_op op_mod (pe_op op_fdiv (pv 0) pe_int) pe_int) pa_nil)))) (pe_op op_mod (pv 0) pe_int) (fun _ _ => rfl)))
    (pss_cons (ps_if (pt_cmpR op_eq (pe_op op_mod (pe_op op_fdiv (pv 0) pe_int) pe_int) pe_int (nomark _)) (pss_cons (ps_set (i := 3) nd rfl (Or.inl rfl) (pe_op op_fdiv (pv 2) pe_int))
    (pss_one (ps_ret (pe_op op_add_str (pe_op op_mul_str pe_str (pv 3)) (pe_op op_mul_str (pe_ix ix_str (pv 1) (pe_op op_mod (pe_op op_fdiv (pv 0) pe_int) pe_int) (fun _ _ => rfl)) (pe_op op_sub (pv 2) (pv 3))))))) pss_nil)
    (pss_cons (ps_set (i := 4) nd rfl (Or.inr rfl) (pe_op op_add pe_int (pe_op op_mod (pe_op op_fdiv (pv 0) pe_int) pe_int)))
    (pss_one (ps_ret (pe_bm PySem.F.plainAttrs_str PySem.F.slot_str_join PySem.F.type_str_join mt_join pe_str (pa_cons (pe_comp (own := ["_law_j"]) (F := [("_law_signs_here", 1), ("_law_more", 0), ("_law_by", 4)]) ⟨rfl, by with_unfolding_all rfl, by with_unfolding_all rfl, by with_unfolding_all rfl, (.cons rfl rfl rfl (.cons rfl rfl rfl (.cons rfl rfl rfl .nil)))⟩ rfl (pi_range1 rfl B.range (pa_cons (pv 2) pa_nil)) (fun _ _ _ _ => pg_name (i := 0) (by show (compN ["_law_j"] [("_law_signs_here", 1), ("_law_more", 0), ("_law_by", 4)]).Nodup; decide +kernel) rfl (Or.inl rfl)) (fun _ _ _ _ => pts_nil) (fun _ _ _ _ => (pe_ix ix_str (pv 1) (pe_op op_mod (pe_op op_add (pe_op op_fdiv (pv 2) pe_int) (pe_op op_mul (pv 0) (pv 3))) pe_int) (fun _ _ => rfl)))) pa_nil)))))))), ?_⟩
  rw [show start ["_law_more", "_law_signs_here", "_law_size", "_law_half", "_law_by"] [.int m] = [some (.int m), none, none, none, none] from rfl]
  walk_at "rd"
  refine ⟨rfl, fun p hp => ?_⟩
  obtain ⟨v, hv, hm⟩ := atI_of (xs := [V.int (m / 5 % 4), V.int (m / 5 % 9), V.int (m / 5 % 31)]) (i := m % 3) (by omega) (by simp only [List.length_cons, List.length_nil]; omega)
  obtain ⟨n, rfl, n0, n30⟩ : ∃ n : Int, v = .int n ∧ 0 ≤ n ∧ n ≤ 30 := by
    simp only [List.mem_cons, List.not_mem_nil, or_false] at hm
    rcases hm with rfl | rfl | rfl <;> exact ⟨_, rfl, by omega, by omega⟩
  refine rIxL_i (SqL.of upd_same) hv ?_
  simp only [ts_q, rep_one, of_nil]
  split
  · obtain ⟨c, hc, hcl⟩ := at_sgn (i := m / 465 % 94) (by omega) (by omega)
    refine ⟨n, rfl, by decide, by omega, by omega, rIxS_i (by decide) hc ⟨n, rfl, _, rfl, (show (1 : Nat) ≤ 1000 by decide), by omega, by omega, ?_, ?_⟩⟩
    · rw [ts_tx, rep_one, tx_len, tx_len]; simp only [List.length_replicate]; omega
    · rw [ts_tx, rep_one, app_tx]
      refine q _ (okText_of ?_ ?_) _ (same_new hp _)
      · simp only [List.length_append, List.length_replicate]; omega
      · intro d hd
        simp only [List.mem_append, List.mem_replicate] at hd
        rcases hd with ⟨_, rfl⟩ | ⟨_, rfl⟩
        · exact q_sgnL
        · exact hcl
  · refine ⟨rfl, n, rfl, by omega, by omega, comp_rng (fun i ys H' => Same (upd H p (.lst [V.int (m / 5 % 4), V.int (m / 5 % 9), V.int (m / 5 % 31)])) H' ∧ ∃ cs : List Nat, ys = (cs.map fun c => tx [c]).map V.str ∧ cs.length = i ∧ ∀ c ∈ cs, c ∈ sgnL) (by rw [sizeLine_eq]; omega) ⟨Same.refl _, [], rfl, rfl, fun _ h => nomatch h⟩ ?_ ?_⟩
    · rintro i ys H' hi _ ⟨hs, cs, rfl, hl, hcs⟩
      walk_at "rd"
      obtain ⟨c, hc, hcl⟩ := at_sgn (i := (m / 7 + (0 + (i : Int)) * (1 + m / 13 % 93)) % 94) (by omega) (by omega)
      refine ⟨.inl (by omega), rIxS_i (by decide) hc ⟨hs, cs ++ [c], by simp, by simp [hl], ?_⟩⟩
      intro d hd
      rcases List.mem_append.mp hd with z | z
      · exact hcs d z
      · rw [List.mem_singleton.mp z]; exact hcl
    · rintro ys H' hl ⟨hs, cs, rfl, hlen, hcs⟩ p' hp'
      refine ⟨p', cs.map fun c => tx [c], rfl, rfl, SqL.of upd_same, by rw [flat_one]; omega, ?_⟩
      rw [flat_one]
      exact q _ (okText_of (by omega) hcs) _ ((same_new hp _).trans (hs.trans (same_new hp' _)))
end
abbrev sThing : Stmt := top 28
def spThing (K : PySem.W.Frag) (d : Nat) : Sp := fun vs H Q _ => ∃ (a : Addr) (ns : List Int) (k : Int), vs = [.ref a, .int k, .int d] ∧ SqL K H a (ns.map V.int) ∧ ns.length ≤ 63 ∧ 0 ≤ k ∧ (k + 2) * 5 ^ d ≤ 1000000 ∧
  ∀ v H' t, Same H H' → Rep H' v t → Nice d t → Q v H'
section
variable {P : Program} {w : World} {K : PySem.W.Frag} {mg : Str → Option Value} {base : Heap} {f : Addr} {fd : FuncData}
theorem scThing : FnScope ["_law_script", "_law_k", "_law_deep", "_law_more", "_law_kind_here", "_law_some", "_law_result", "_law_j"] ["_law_script", "_law_k", "_law_deep"] (defScope sThing) := ⟨rfl, rfl, rfl, by decide +kernel, rfl, by decide +kernel, by decide +kernel⟩
def DInv (Hl : Hp) (p2 : Addr) (ts : List T) (i : Nat) (H2 : Hp) : Prop := ∃ (ps : List (Key × V)) (ks : List (List Nat)) (us : List T), H2 p2 = some (.dK ps) ∧ ps.map (·.1) = ks.map nK ∧ Reps Hl (ps.map (·.2)) us ∧ ks.Nodup ∧ (∀ n ∈ ks, okName n = true) ∧ (∀ u ∈ us, u ∈ ts) ∧ ks.length ≤ i
theorem pow5 (e : Nat) : (1 : Int) ≤ 5 ^ e := by
  induction e with
  | zero => decide
  | succ n ih => rw [Int.pow_succ]; omega
theorem ok_thing0 (F : Fun K "_law_thing_by" "_law_thing_by" sThing f fd) (B : Bl mg) (G_law_cell : Dn P w K mg base 1 "_law_cell" ["_law_script", "_law_k"] (spCell K)) (G_law_number_by : Dn P w K mg base 1 "_law_number_by" ["_law_more"] spNum)
    (G_law_text_by : Dn P w K mg base 2 "_law_text_by" ["_law_more"] spText) : FnOk P w K mg base CX0 3 f fd ["_law_script", "_law_k", "_law_deep"] (spThing K 0) := by
  refine F.ok scThing (fun vs H Q E h => ?_) (fun cdv A outer s H vs Q E hr h => ?_)
  · obtain ⟨a, ns, k, rfl, _⟩ := h
    rfl
  obtain ⟨a, ns, k, rfl, hS, h63, h0, h1, q⟩ := h
  have nd := scThing.nd
  refine ⟨_, (pss_cons (ps_set (i := 3) nd rfl (Or.inl rfl) (pe_cd G_law_cell hr (by omega) rfl (pa_cons (pv 0) (pa_cons (pv 1) pa_nil))))
    (pss_cons (ps_set (i := 4) nd rfl (Or.inl rfl) (pe_op op_mod (pv 3) (pe_ix ix_list (pe_lst (pa_cons pe_int (pa_cons pe_int pa_nil))) (pe_callTy call_intB rfl B.int bt_int (pa_cons (pe_cmpR op_gt (pv 2) pe_int (nomark _)) pa_nil)) (fun _ _ => rfl))))
    (pss_cons (ps_if (pt_cmpR op_eq (pv 4) pe_int (nomark _)) (pss_one (ps_ret (pe_ix ix_list (pe_lst (pa_cons pe_non (pa_cons pe_bl (pa_cons pe_bl pa_nil)))) (pe_op op_mod (pe_op op_fdiv (pv 3) pe_int) pe_int) (fun _ _ => rfl)))) pss_nil)
    (pss_cons (ps_if (pt_cmpR op_lt (pv 4) pe_int (nomark _)) (pss_one (ps_ret (pe_cd G_law_number_by hr (by omega) rfl (pa_cons (pe_op op_fdiv (pv 3) pe_int) pa_nil)))) pss_nil)
    (pss_cons (ps_if (pt_cmpR op_lt (pv 4) pe_int (nomark _)) (pss_one (ps_ret (pe_cd G_law_text_by hr (by omega) rfl (pa_cons (pe_op op_fdiv (pv 3) pe_int) pa_nil)))) pss_nil)
    pss_never))))), ?_⟩
  rw [show start ["_law_script", "_law_k", "_law_deep", "_law_more", "_law_kind_here", "_law_some", "_law_result", "_law_j"] [.ref a, .int k, .int ((0 : Nat) : Int)] = [some (.ref a), some (.int k), some (.int ((0 : Nat) : Int)), none, none, none, none, none] from rfl]
  walk_at "rd"
  refine spCell_i hS h63 h0 (by omega) fun H1 g1 p hp => rIxL_i (SqL.of upd_same) (v := .int 5) rfl ⟨_, rfl, 5, rfl, by decide, ?_⟩
  have c0 := cellF_lo ns k
  have c1 := cellF_hi ns k
  have gp := g1.trans (same_new hp (.lst [V.int 5, V.int 9]))
  split
  · intro p2 hp2
    refine ⟨_, rfl, ?_⟩
    obtain ⟨v, hv, hm⟩ := atI_of (xs := [V.non, V.bl true, V.bl false]) (i := cellF ns k / 9 % 3) (by omega) (by simp only [List.length_cons, List.length_nil]; omega)
    refine rIxL_i (SqL.of upd_same) hv ?_
    simp only [List.mem_cons, List.not_mem_nil, or_false] at hm
    rcases hm with rfl | rfl | rfl
    · exact q _ _ .non (gp.trans (same_new hp2 _)) rfl trivial
    · exact q _ _ (.bl true) (gp.trans (same_new hp2 _)) rfl trivial
    · exact q _ _ (.bl false) (gp.trans (same_new hp2 _)) rfl trivial
  · split
    · exact ⟨_, rfl, _, rfl, by omega, by omega, fun i i0 i1 H2 g2 => q _ _ (.int i) (gp.trans g2) rfl ⟨i0, i1⟩⟩
    · rw [if_pos (by omega)]
      exact ⟨_, rfl, _, rfl, by omega, by omega, fun x hx H2 g2 => q _ _ (.str x) (gp.trans g2) rfl hx⟩
theorem ok_thingS {e : Nat} (F : Fun K "_law_thing_by" "_law_thing_by" sThing f fd) (B : Bl mg) (G_law_cell : Dn P w K mg base 1 "_law_cell" ["_law_script", "_law_k"] (spCell K)) (G_law_number_by : Dn P w K mg base 1 "_law_number_by" ["_law_more"] spNum)
    (G_law_text_by : Dn P w K mg base 2 "_law_text_by" ["_law_more"] spText) (G_law_name_by : Dn P w K mg base 1 "_law_name_by" ["_law_more"] spName)
    (G_law_thing_by : Dn P w K mg base (3 + e) "_law_thing_by" ["_law_script", "_law_k", "_law_deep"] (spThing K e)) : FnOk P w K mg base CX0 (3 + e + 1) f fd ["_law_script", "_law_k", "_law_deep"] (spThing K (e + 1)) := by
  refine F.ok scThing (fun vs H Q E h => ?_) (fun cdv A outer s H vs Q E hr h => ?_)
  · obtain ⟨a, ns, k, rfl, _⟩ := h
    rfl
  obtain ⟨a, ns, k, rfl, hS, h63, h0, h1, q⟩ := h
  have nd := scThing.nd
  have hu := hu_of hr
  refine ⟨_, (pss_cons (ps_set (i := 3) nd rfl (Or.inl rfl) (pe_cd G_law_cell hr (by omega) rfl (pa_cons (pv 0) (pa_cons (pv 1) pa_nil))))
    (pss_cons (ps_set (i := 4) nd rfl (Or.inl rfl) (pe_op op_mod (pv 3) (pe_ix ix_list (pe_lst (pa_cons pe_int (pa_cons pe_int pa_nil))) (pe_callTy call_intB rfl B.int bt_int (pa_cons (pe_cmpR op_gt (pv 2) pe_int (nomark _)) pa_nil)) (fun _ _ => rfl))))
    (pss_cons (ps_if (pt_cmpR op_eq (pv 4) pe_int (nomark _)) (pss_one (ps_ret (pe_ix ix_list (pe_lst (pa_cons pe_non (pa_cons pe_bl (pa_cons pe_bl pa_nil)))) (pe_op op_mod (pe_op op_fdiv (pv 3) pe_int) pe_int) (fun _ _ => rfl)))) pss_nil)
    (pss_cons (ps_if (pt_cmpR op_lt (pv 4) pe_int (nomark _)) (pss_one (ps_ret (pe_cd G_law_number_by hr (by omega) rfl (pa_cons (pe_op op_fdiv (pv 3) pe_int) pa_nil)))) pss_nil)
    (pss_cons (ps_if (pt_cmpR op_lt (pv 4) pe_int (nomark _)) (pss_one (ps_ret (pe_cd G_law_text_by hr (by omega) rfl (pa_cons (pe_op op_fdiv (pv 3) pe_int) pa_nil)))) pss_nil)
    (pss_cons (ps_comp (i := 5) nd rfl (Or.inl rfl) (own := ["_law_j"]) (F := [("_law_script", 0), ("_law_k", 1), ("_law_deep", 2)]) ⟨rfl, by with_unfolding_all rfl, by with_unfolding_all rfl, by with_unfolding_all rfl, (.cons rfl rfl rfl (.cons rfl rfl rfl (.cons rfl rfl rfl .nil)))⟩ rfl (pi_range1 rfl B.range (pa_cons (pe_op op_mod (pe_op op_fdiv (pv 3) pe_int) pe_int) pa_nil)) (fun _ _ _ _ => pg_name (i := 0) (by show (compN ["_law_j"] [("_law_script", 0), ("_law_k", 1), ("_law_deep", 2)]).Nodup; decide +kernel) rfl (Or.inl rfl)) (fun _ _ _ _ => pts_nil) (fun _ _ _ _ => (pe_cd G_law_thing_by hr (by omega) rfl (pa_cons (pv 1) (pa_cons (pe_op op_add (pe_op op_add (pe_op op_mul (pv 2) pe_int) pe_int) (pv 0)) (pa_cons (pe_op op_sub (pv 3) pe_int) pa_nil))))))
    (pss_cons (ps_if (pt_cmpR op_lt (pv 4) pe_int (nomark _)) (pss_one (ps_ret (pv 5))) pss_nil)
    (pss_cons (ps_set (i := 6) nd rfl (Or.inl rfl) pe_dnewK)
    (pss_cons (ps_for PassesOwn.never rfl (pi_range1 rfl B.range (pa_cons (pe_callB call_len_l rfl B.len bt_len (pa_cons (pv 5) pa_nil)) pa_nil)) (pg_name (i := 7) nd rfl (Or.inl rfl)) (pss_one (ps_dput hu (pv 6) (pe_cd G_law_name_by hr (by omega) rfl (pa_cons (pe_op op_add (pe_op op_fdiv (pe_cd G_law_cell hr (by omega) rfl (pa_cons (pv 0) (pa_cons (pe_op op_add (pe_op op_add (pe_op op_mul (pv 1) pe_int) pe_int) (pv 7)) pa_nil))) pe_int) (pv 7)) pa_nil)) (pe_ix ix_list (pv 5) (pv 7) (fun _ _ => rfl)) rfl)))
    (pss_one (ps_ret (pv 6)))))))))))), ?_⟩
  rw [show start ["_law_script", "_law_k", "_law_deep", "_law_more", "_law_kind_here", "_law_some", "_law_result", "_law_j"] [.ref a, .int k, .int ((e + 1 : Nat) : Int)] = [some (.ref a), some (.int k), some (.int ((e + 1 : Nat) : Int)), none, none, none, none, none] from rfl]
  walk_at "rd"
  have hpow : (1 : Int) ≤ 5 ^ e := pow5 e
  have hpow2 : (5 : Int) ^ (e + 1) = 5 ^ e * 5 := Int.pow_succ ..
  have h2 : (k + 2) * 5 * 5 ^ e ≤ 1000000 := by rw [Int.mul_assoc, Int.mul_comm 5 (5 ^ e), ← hpow2]; exact h1
  have h3 : (k + 2) * 5 ≤ 1000000 := by
    have : (k + 2) * 5 * 1 ≤ (k + 2) * 5 * 5 ^ e := Int.mul_le_mul_of_nonneg_left hpow (by omega)
    omega
  refine spCell_i hS h63 h0 (by omega) fun H1 g1 p hp => rIxL_i (SqL.of upd_same) (v := .int 9) ?_ ⟨_, rfl, 9, rfl, by decide, ?_⟩
  · rw [if_pos (by omega)]; rfl
  have c0 := cellF_lo ns k
  have c1 := cellF_hi ns k
  have gp := g1.trans (same_new hp (.lst [V.int 5, V.int 9]))
  split
  · intro p2 hp2
    refine ⟨_, rfl, ?_⟩
    obtain ⟨v, hv, hm⟩ := atI_of (xs := [V.non, V.bl true, V.bl false]) (i := cellF ns k / 9 % 3) (by omega) (by simp only [List.length_cons, List.length_nil]; omega)
    refine rIxL_i (SqL.of upd_same) hv ?_
    simp only [List.mem_cons, List.not_mem_nil, or_false] at hm
    rcases hm with rfl | rfl | rfl
    · exact q _ _ .non (gp.trans (same_new hp2 _)) rfl trivial
    · exact q _ _ (.bl true) (gp.trans (same_new hp2 _)) rfl trivial
    · exact q _ _ (.bl false) (gp.trans (same_new hp2 _)) rfl trivial
  · split
    · exact ⟨_, rfl, _, rfl, by omega, by omega, fun i i0 i1 H2 g2 => q _ _ (.int i) (gp.trans g2) rfl ⟨i0, i1⟩⟩
    · split
      · exact ⟨_, rfl, _, rfl, by omega, by omega, fun x hx H2 g2 => q _ _ (.str x) (gp.trans g2) rfl hx⟩
      · refine ⟨_, rfl, by omega, by omega, comp_rng (fun i ys H' => Same (upd H1 p (.lst [V.int 5, V.int 9])) H' ∧ ∃ ts, Reps H' ys ts ∧ ts.length = i ∧ NiceL e ts) (by rw [sizeLine_eq]; omega) ⟨Same.refl _, [], rfl, rfl, trivial⟩ ?_ ?_⟩
        · rintro i ys H' hi _ ⟨hs, ts, hR, hl, hN⟩
          walk_at "rd"
          refine ⟨a, ns, k * 5 + 1 + (0 + (i : Int)), ?_, hs.seq (gp.seq hS), h63, by omega, ?_, fun v H2 t g2 hv hn => ⟨hs.trans g2, ts ++ [t], Reps.snoc hv (Reps.same g2 _ _ hR), by simp [hl], NiceL.snoc hn hN⟩⟩
          · rw [show ((e + 1 : Nat) : Int) - 1 = (e : Int) by omega]
          · have : (k * 5 + 1 + (0 + (i : Int)) + 2) * 5 ^ e ≤ (k + 2) * 5 * 5 ^ e := Int.mul_le_mul_of_nonneg_right (by omega) (by omega)
            omega
        · rintro ys H' hl ⟨hs, ts, hR, hlen, hN⟩ p' hp'
          have gl := gp.trans (hs.trans (same_new hp' (.lst ys)))
          have hR' : Reps (upd H' p' (.lst ys)) ys ts := Reps.same (same_new hp' _) _ _ hR
          by_cases h7 : cellF ns k % 9 < 7
          · rw [if_pos h7]
            exact q _ _ (.lst ts) gl ⟨p', ys, rfl, upd_same, hR'⟩ ⟨by omega, by omega, hN⟩
          rw [if_neg h7]
          intro p2 hp2
          have gd := same_new hp2 (.dK [])
          have hys := hR.length
          have hSl : SqL K (upd (upd H' p' (.lst ys)) p2 (.dK [])) p' ys := SqL.of (gd _ _ upd_same)
          refine ⟨p', rfl, ys, hSl, by omega, by omega, ?_⟩
          rw [Int.toNat_natCast]
          refine forB_rng (fun i σ H2 => (∃ o, σ = [some (V.ref a), some (V.int k), some (V.int ((e + 1 : Nat) : Int)), some (V.int (cellF ns k)), some (V.int (cellF ns k % 9)), some (V.ref p'), some (V.ref p2), o]) ∧ Same (upd H' p' (.lst ys)) H2 ∧ DInv (upd H' p' (.lst ys)) p2 ts i H2) ⟨⟨_, rfl⟩, gd, [], [], [], upd_same, rfl, rfl, List.nodup_nil, fun _ h => (nomatch h), fun _ h => (nomatch h), Nat.le_refl _⟩ ?_ ?_
          · rintro i σ H2 hi ⟨⟨o, rfl⟩, g2, ps, ks, us, hd, hk, hU, hnd, hok, hsub, hlk⟩
            walk_at "rd"
            obtain ⟨v, hv⟩ : ∃ v, ys[i]? = some v := ⟨ys[i], by simp [hi]⟩
            obtain ⟨t, ht, hvt⟩ := hR'.get hv
            refine rIxL_i (SqL.of (g2 _ _ upd_same)) (by rw [Int.zero_add]; exact atI_nat hv) (spCell_i (g2.seq (gl.seq hS)) h63 (by omega) (by omega) fun H3 g3 => ?_)
            have c0' := cellF_lo ns (k * 5 + 1 + (0 + (i : Int)))
            have c1' := cellF_hi ns (k * 5 + 1 + (0 + (i : Int)))
            refine ⟨_, rfl, _, rfl, by omega, by omega, fun x hx H4 g4 => ⟨_, DPut.k (k := nK x) (g4 _ _ (g3 _ _ hd)) ?_, ⟨_, rfl⟩, ?_, ?_⟩⟩
            · have := congrArg List.length hk
              simp only [List.length_map] at this
              rw [sizeLine_eq]; omega
            · intro b o' hb
              have hne : b ≠ p2 := fun z => by rw [z, hp2] at hb; cases hb
              rw [upd_ne hne]
              exact g4 _ _ (g3 _ _ (g2 _ _ hb))
            · obtain ⟨ks', us', e1, e2, e3, e4, e5, e6⟩ := put_rep (n := x) hk hU hnd hvt
              refine ⟨_, ks', us', upd_same, e1, e2, e3, fun n hn => ?_, fun u hu => ?_, by omega⟩
              · rcases e4 n hn with z | z
                · exact hok n z
                · rw [z]; exact hx
              · rcases e5 u hu with z | z
                · exact hsub u z
                · rw [z]; exact List.mem_of_getElem? ht
          · rintro σ H2 ⟨⟨o, rfl⟩, g2, ps, ks, us, hd, hk, hU, hnd, hok, hsub, hlk⟩
            walk_at "rd"
            have l1 := congrArg List.length hk
            simp only [List.length_map] at l1
            have l2 := hU.length
            simp only [List.length_map] at l2
            refine q _ _ (.dic ks us) (gl.trans g2) ⟨p2, ps, rfl, hd, hk, Reps.same g2 _ _ hU⟩ ⟨by omega, by omega, by omega, hnd, hok, NiceL_iff.mpr fun u hu => NiceL_iff.mp hN u (hsub u hu)⟩
abbrev sHeld : Stmt := top 31
def spHeld (e : Nat) : Sp := fun vs H Q _ => ∃ (v : V) (t : T), vs = [v] ∧ Rep H v t ∧ T.pure t ∧ T.dep t ≤ e ∧ T.sz t ≤ 100000 ∧ ∀ v' H', Same H H' → Rep H' v' t → Q v' H'
theorem scHeld : FnScope ["_law_thing"] ["_law_thing"] (defScope sHeld) := ⟨rfl, rfl, rfl, by decide +kernel, rfl, by decide +kernel, by decide +kernel⟩
theorem ok_heldS {e : Nat} (F : Fun K "_law_held" "_law_held" sHeld f fd) (B : Bl mg) (G_law_held : Dn P w K mg base (1 + e) "_law_held" ["_law_thing"] (spHeld e)) : FnOk P w K mg base CX0 (1 + e + 1) f fd ["_law_thing"] (spHeld (e + 1)) := by
  refine F.ok scHeld (fun vs H Q E h => ?_) (fun cdv A outer s H vs Q E hr h => ?_)
  · obtain ⟨v, t, rfl, _⟩ := h
    rfl
  obtain ⟨v, t, rfl, hv, hp, hd, hz, q⟩ := h
  have nd := scHeld.nd
  have hu := hu_of hr
  refine ⟨_, (pss_cons (ps_if (pt_val (pe_callB (call_isi (T := "list") (by decide)) rfl B.isinstance bt_isinstance (pa_cons (pv 0) (pa_cons (pe_bltn (v := .ty "list") rfl B.list bt_list rfl) pa_nil)))) (pss_one (ps_ret (pe_comp (own := ["_law_one"]) (F := []) ⟨rfl, by with_unfolding_all rfl, by with_unfolding_all rfl, by with_unfolding_all rfl, .nil⟩ rfl (pi_list (pv 0)) (fun _ _ _ _ => pg_name (i := 0) (by show (compN ["_law_one"] []).Nodup; decide +kernel) rfl (Or.inl rfl)) (fun _ _ _ _ => pts_nil) (fun _ _ _ _ => (pe_cd G_law_held hr (by omega) rfl (pa_cons (pv 0) pa_nil)))))) pss_nil)
    (pss_cons (ps_if (pt_val (pe_callB (call_isi (T := "dict") (by decide)) rfl B.isinstance bt_isinstance (pa_cons (pv 0) (pa_cons (pe_bltn (v := .ty "dict") rfl B.dict bt_dict rfl) pa_nil)))) (pss_one (ps_ret (pe_callTy (call_dict_p rfl) rfl B.dict bt_dict (pa_cons (pe_thaw (pe_comp (own := ["_law_name"]) (F := [("_law_thing", 0)]) ⟨rfl, by with_unfolding_all rfl, by with_unfolding_all rfl, by with_unfolding_all rfl, (.cons rfl rfl rfl .nil)⟩ rfl (pi_dict (pv 0)) (fun _ _ _ _ => pg_name (i := 0) (by show (compN ["_law_name"] [("_law_thing", 0)]).Nodup; decide +kernel) rfl (Or.inl rfl)) (fun _ _ _ _ => pts_nil) (fun _ _ _ _ => (pe_tup (pa_cons (pv 0) (pa_cons (pe_cd G_law_held hr (by omega) rfl (pa_cons (pe_dget hu (pv 1) (pv 0) (fun _ _ => rfl)) pa_nil)) pa_nil)))))) pa_nil)))) pss_nil)
    (pss_one (ps_ret (pv 0))))), ?_⟩
  rw [show start ["_law_thing"] [v] = [some v] from rfl]
  walk_at "rd2"
  cases t with
  | lst us =>
    obtain ⟨a, xs, rfl, ha, hs⟩ := hv
    have hl0 := T.szs_len us
    have hz' : T.szs us + 1 ≤ 100000 := hz
    have hd' : T.deps us + 1 ≤ e + 1 := hd
    refine ⟨"list", tyS_lst ha, ?_⟩
    rw [if_pos (by decide)]
    refine ⟨a, rfl, ⟨xs, SqL.of ha⟩, comp_list (K := K) (xs := xs) (fun i ys H' => Same H H' ∧ Reps H' ys (us.take i)) ?_ ⟨Same.refl _, rfl⟩ (fun i ys H' _ h => SqL.of (h.1 _ _ ha)) ?_ ?_⟩
    · have := hs.length
      rw [sizeLine_eq]; omega
    · rintro i u ys H' hu' _ ⟨g, hR⟩
      obtain ⟨t', ht', hr'⟩ := hs.get hu'
      have hm := List.mem_of_getElem? ht'
      have d1 := T.deps_le hm
      have d2 := T.szs_le hm
      walk_at "rd2"
      refine ⟨u, t', rfl, Rep.same g u t' hr', T.pures_mem hp hm, by omega, by omega, fun v' H4 g4 hv' => ⟨g.trans g4, ?_⟩⟩
      rw [take_succ_of ht']
      exact Reps.snoc hv' (Reps.same g4 _ _ hR)
    · rintro ys H' _ ⟨g, hR⟩ p hp'
      rw [hs.length, List.take_length] at hR
      exact q (.ref p) _ (g.trans (same_new hp' _)) ⟨p, ys, rfl, upd_same, Reps.same (same_new hp' _) _ _ hR⟩
  | dic ks us =>
    obtain ⟨d, ps, rfl, hdd, hk, hs⟩ := hv
    obtain ⟨nk, hp⟩ := hp
    have hl0 := T.szs_len us
    have hz' : T.szs us + 1 ≤ 100000 := hz
    have hd' : T.deps us + 1 ≤ e + 1 := hd
    have hpl : ps.length = us.length := by have := hs.length; rwa [List.length_map] at this
    have nkp : (ps.map (·.1)).Nodup := by rw [hk]; exact nodup_nK nk
    refine ⟨"dict", tyS_dK hdd, ?_⟩
    rw [if_neg (by decide)]
    refine ⟨"dict", tyS_dK hdd, ?_⟩
    rw [if_pos (by decide)]
    refine ⟨d, rfl, ps, .inl ⟨hdd, fun o => ?_⟩⟩
    have hsf : Reps (upd H d (.frz o (.dK ps))) (ps.map (·.2)) us := Reps.dic_away hdd hk hs
    refine comp_dict (fun i ys H' => Same (upd H d (.frz o (.dK ps))) H' ∧ ∃ kvs : List (Key × V), kvs.length = ys.length ∧ kvs.map (·.1) = (ps.take i).map (·.1) ∧ Reps H' (kvs.map (·.2)) (us.take i) ∧ ∀ (j : Nat) kv, kvs[j]? = some kv → ∃ a, ys[j]? = some (.ref a) ∧ H' a = some (.tup [kV kv.1, kv.2])) ?_ ⟨Same.refl _, [], rfl, rfl, rfl, by intro j kv h; simp at h⟩ (fun i ys H' h => h.1 _ _ upd_same) ?_ ?_
    · rw [sizeLine_eq]; omega
    · rintro i kv ys H' hkv _ ⟨g, kvs, l1, l2, hR, ht⟩
      walk_at "rd2"
      obtain ⟨t', ht', hr'⟩ := hsf.get (i := i) (v := kv.2) (by rw [List.getElem?_map, hkv]; rfl)
      have hm := List.mem_of_getElem? ht'
      have d1 := T.deps_le hm
      have d2 := T.szs_le hm
      refine ⟨kv.2, .inl ⟨ps, kv.1, .inr ⟨o, g _ _ upd_same⟩, rfl, (valV_ix nkp hkv).symm⟩, kv.2, t', rfl, Rep.same g _ t' hr', T.pures_mem hp hm, by omega, by omega, fun v' H1 g1 hv' p hp1 => ⟨(g.trans g1).trans (same_new hp1 _), kvs ++ [(kv.1, v')], by simp [l1], ?_, ?_, ?_⟩⟩
      · rw [take_succ_of hkv, List.map_append, List.map_append, l2]; rfl
      · rw [take_succ_of ht', List.map_append]
        exact Reps.snoc (Rep.same (same_new hp1 _) _ _ hv') (Reps.same (g1.trans (same_new hp1 _)) _ _ hR)
      · intro j kv1 hj
        by_cases hlt : j < kvs.length
        · rw [List.getElem?_append_left hlt] at hj
          obtain ⟨a, e1, e2⟩ := ht j kv1 hj
          exact ⟨a, by rw [List.getElem?_append_left (by omega)]; exact e1, same_new hp1 _ _ _ (g1 _ _ e2)⟩
        · rw [List.getElem?_append_right (by omega)] at hj
          have hj0 : j - kvs.length = 0 := by
            have := (List.getElem?_eq_some_iff.mp hj).1
            simpa using this
          rw [hj0] at hj
          simp only [List.getElem?_cons_zero, Option.some.injEq] at hj
          subst hj
          exact ⟨p, by rw [List.getElem?_append_right (by omega), ← l1, hj0]; rfl, upd_same⟩
    · rintro ys H' _ ⟨g, kvs, l1, l2, hR, ht⟩ p hp'
      rw [hpl, List.take_length] at hR
      rw [List.take_length] at l2
      have gs : Same H (thaw H (upd H' p (.lst ys))) := thaw_walk (o := o) hdd (g.trans (same_new hp' _))
      refine ⟨p, rfl, ys, thaw_of upd_same (by intro o v z; cases z), kvs, l1, fun j kv hj => ?_, fun l hl => ?_⟩
      · obtain ⟨a, e1, e2⟩ := ht j kv hj
        exact ⟨a, e1, thaw_of (same_new hp' _ _ _ e2) (by intro o v z; cases z)⟩
      · have em : mergeK [] kvs = kvs := mergeK_nodup kvs [] (by rw [List.nil_append, l2]; exact nkp)
        rw [em]
        refine q (.ref l) _ (gs.trans (same_new hl _)) ⟨l, kvs, rfl, upd_same, l2.trans hk, ?_⟩
        exact Reps.same (same_new hl _) _ _ (Reps.thaw (Reps.same (same_new hp' _) _ _ hR))
  | tup us => exact hp.elim
  | non => exact ⟨_, hv.ty, by rw [if_neg (by simp [tyT, isSub])]; exact ⟨_, hv.ty, by rw [if_neg (by simp [tyT, isSub])]; exact q _ _ (Same.refl _) hv⟩⟩
  | bl b => exact ⟨_, hv.ty, by rw [if_neg (by simp [tyT, isSub])]; exact ⟨_, hv.ty, by rw [if_neg (by simp [tyT, isSub])]; exact q _ _ (Same.refl _) hv⟩⟩
  | int b => exact ⟨_, hv.ty, by rw [if_neg (by simp [tyT, isSub])]; exact ⟨_, hv.ty, by rw [if_neg (by simp [tyT, isSub])]; exact q _ _ (Same.refl _) hv⟩⟩
  | str b => exact ⟨_, hv.ty, by rw [if_neg (by simp [tyT, isSub])]; exact ⟨_, hv.ty, by rw [if_neg (by simp [tyT, isSub])]; exact q _ _ (Same.refl _) hv⟩⟩
theorem ok_held0 (F : Fun K "_law_held" "_law_held" sHeld f fd) (B : Bl mg) : FnOk P w K mg base CX0 1 f fd ["_law_thing"] (spHeld 0) := by
  refine F.ok scHeld (fun vs H Q E h => ?_) (fun cdv A outer s H vs Q E hr h => ?_)
  · obtain ⟨v, t, rfl, _⟩ := h
    rfl
  obtain ⟨v, t, rfl, hv, hp, hd, hz, q⟩ := h
  have nd := scHeld.nd
  refine ⟨_, (pss_cons (ps_if (pt_val (pe_callB (call_isi (T := "list") (by decide)) rfl B.isinstance bt_isinstance (pa_cons (pv 0) (pa_cons (pe_bltn (v := .ty "list") rfl B.list bt_list rfl) pa_nil)))) pss_never pss_nil)
    (pss_cons (ps_if (pt_val (pe_callB (call_isi (T := "dict") (by decide)) rfl B.isinstance bt_isinstance (pa_cons (pv 0) (pa_cons (pe_bltn (v := .ty "dict") rfl B.dict bt_dict rfl) pa_nil)))) pss_never pss_nil)
    (pss_one (ps_ret (pv 0))))), ?_⟩
  rw [show start ["_law_thing"] [v] = [some v] from rfl]
  walk_at "rd2"
  refine ⟨_, hv.ty, ?_⟩
  rcases hold_cases t hp with ⟨hc, h0, _⟩ | ⟨us, ht, hps, hdt, hst, hc⟩
  · rw [Bool.or_eq_false_iff] at hc
    rw [if_neg (by rw [hc.1]; decide)]
    refine ⟨_, hv.ty, ?_⟩
    rw [if_neg (by rw [hc.2]; decide)]
    exact q _ _ (Same.refl _) hv
  · omega
theorem thing_all (F : Fun K "_law_thing_by" "_law_thing_by" sThing f fd) (B : Bl mg) (Gc : Dn P w K mg base 1 "_law_cell" ["_law_script", "_law_k"] (spCell K)) (Gn : Dn P w K mg base 1 "_law_number_by" ["_law_more"] spNum)
    (Gt : Dn P w K mg base 2 "_law_text_by" ["_law_more"] spText) (Gm : Dn P w K mg base 1 "_law_name_by" ["_law_more"] spName) (b : Binds K fd ["_law_script", "_law_k", "_law_deep"] []) (kp : PySem.W.keepIn K (.ref f) = true) (m : mg "_law_thing_by" = some (.ref f)) :
    ∀ d : Nat, FnOk P w K mg base CX0 (3 + d) f fd ["_law_script", "_law_k", "_law_deep"] (spThing K d)
  | 0 => ok_thing0 F B Gc Gn Gt
  | d + 1 => ok_thingS F B Gc Gn Gt Gm ⟨_, _, thing_all F B Gc Gn Gt Gm b kp m d, b, kp, m⟩
def spThingAny (K : PySem.W.Frag) (n : Nat) : Sp := fun vs H Q E => ∃ d, d ≤ n ∧ spThing K d vs H Q E
theorem thing_any {n : Nat} (h : ∀ d : Nat, FnOk P w K mg base CX0 (3 + d) f fd ["_law_script", "_law_k", "_law_deep"] (spThing K d)) : FnOk P w K mg base CX0 (3 + n) f fd ["_law_script", "_law_k", "_law_deep"] (spThingAny K n) :=
  ⟨fun vs H Q E ⟨d, _, q⟩ => (h d).len vs H Q E q, fun A outer s H args us vs Q E hr he hb hv ⟨d, hd, hs⟩ => (h d).run A outer s H args us vs Q E (hr.mono (by omega)) he hb hv hs⟩
theorem held_all (F : Fun K "_law_held" "_law_held" sHeld f fd) (B : Bl mg) (b : Binds K fd ["_law_thing"] []) (kp : PySem.W.keepIn K (.ref f) = true) (m : mg "_law_held" = some (.ref f)) : ∀ e : Nat, FnOk P w K mg base CX0 (1 + e) f fd ["_law_thing"] (spHeld e)
  | 0 => ok_held0 F B
  | e + 1 => ok_heldS F B ⟨_, _, held_all F B b kp m e, b, kp, m⟩
end
abbrev sKind : Stmt := top 30
abbrev sKindOf : Stmt := top 9
def kindV (t : String) : V := if t = "NoneType" then .str "nothing" else if t = "bool" then .str "truth" else if t = "int" then .str "number" else if t = "str" then .str "text" else if t = "list" then .str "row" else if t = "dict" then .str "record" else .non
def spKind : Sp := fun vs H Q _ => ∃ (v : V) (t : String), vs = [v] ∧ tyS H v = some t ∧ ∀ H', Same H H' → Q (kindV t) H'
section
variable {P : Program} {w : World} {K : PySem.W.Frag} {mg : Str → Option Value} {base : Heap} {f : Addr} {fd : FuncData}
theorem tyS_non {H : Hp} {v : V} (h : tyS H v = some "NoneType") : v = .non := by
  cases v with
  | non => rfl
  | ref a =>
    have h' : (match H a with | some (.lst _) => some "list" | some (.tup _) => some "tuple" | some (.dK _) => some "dict" | _ => none) = some "NoneType" := h
    split at h' <;> first | exact absurd (Option.some.inj h') (by decide) | cases h'
  | bl b => exact absurd (Option.some.inj h) (by decide)
  | int b => exact absurd (Option.some.inj h) (by decide)
  | str b => exact absurd (Option.some.inj h) (by decide)
  | byt b => cases h
  | flt b => cases h
  | ty b => cases h
theorem kind_end {H : Hp} {v : V} {t : String} {Q : VK} (ht : tyS H v = some t) (q : Q (kindV t) H) :
    if v = V.non then Q (V.str (Str.ofString "nothing")) H else ∃ x, tyS H v = some x ∧ if isSub x "bool" = true then Q (V.str (Str.ofString "truth")) H else
      ∃ x, tyS H v = some x ∧ if isSub x "int" = true then Q (V.str (Str.ofString "number")) H else ∃ x, tyS H v = some x ∧ if isSub x "str" = true then Q (V.str (Str.ofString "text")) H else
      ∃ x, tyS H v = some x ∧ if isSub x "list" = true then Q (V.str (Str.ofString "row")) H else ∃ x, tyS H v = some x ∧ if isSub x "dict" = true then Q (V.str (Str.ofString "record")) H else Q V.non H := by
  have hm := tyS_mem ht
  simp only [ht, Option.some.injEq, exists_eq_left']
  by_cases hv : v = .non
  · subst hv; cases ht; rw [if_pos rfl]; exact q
  · rw [if_neg hv]
    simp only [tyL, List.mem_cons, List.not_mem_nil, or_false] at hm
    rcases hm with rfl | rfl | rfl | rfl | rfl | rfl | rfl
    · exact absurd (tyS_non ht) hv
    all_goals (simpa [isSub, kindV] using q)
theorem scKind : FnScope ["_law_thing"] ["_law_thing"] (defScope sKind) := ⟨rfl, rfl, rfl, by decide +kernel, rfl, by decide +kernel, by decide +kernel⟩
theorem ok_kind (F : Fun K "_law_kind" "_law_kind" sKind f fd) (B : Bl mg) : FnOk P w K mg base CX0 1 f fd ["_law_thing"] spKind := by
  refine F.ok scKind (fun vs H Q E h => ?_) (fun cdv A outer s H vs Q E hr h => ?_)
  · obtain ⟨v, t, rfl, _⟩ := h
    rfl
  obtain ⟨v, t, rfl, ht, q⟩ := h
  have nd := scKind.nd
  refine ⟨_, (pss_cons (ps_if (pt_cmp (pc_isN (pv 0))) (pss_one (ps_ret pe_str)) pss_nil)
    (pss_cons (ps_if (pt_val (pe_callB (call_isi (T := "bool") (by decide)) rfl B.isinstance bt_isinstance (pa_cons (pv 0) (pa_cons (pe_bltn (v := .ty "bool") rfl B.bool bt_bool rfl) pa_nil)))) (pss_one (ps_ret pe_str)) pss_nil)
    (pss_cons (ps_if (pt_val (pe_callB (call_isi (T := "int") (by decide)) rfl B.isinstance bt_isinstance (pa_cons (pv 0) (pa_cons (pe_bltn (v := .ty "int") rfl B.int bt_int rfl) pa_nil)))) (pss_one (ps_ret pe_str)) pss_nil)
    (pss_cons (ps_if (pt_val (pe_callB (call_isi (T := "str") (by decide)) rfl B.isinstance bt_isinstance (pa_cons (pv 0) (pa_cons (pe_bltn (v := .ty "str") rfl B.str bt_str rfl) pa_nil)))) (pss_one (ps_ret pe_str)) pss_nil)
    (pss_cons (ps_if (pt_val (pe_callB (call_isi (T := "list") (by decide)) rfl B.isinstance bt_isinstance (pa_cons (pv 0) (pa_cons (pe_bltn (v := .ty "list") rfl B.list bt_list rfl) pa_nil)))) (pss_one (ps_ret pe_str)) pss_nil)
    (pss_cons (ps_if (pt_val (pe_callB (call_isi (T := "dict") (by decide)) rfl B.isinstance bt_isinstance (pa_cons (pv 0) (pa_cons (pe_bltn (v := .ty "dict") rfl B.dict bt_dict rfl) pa_nil)))) (pss_one (ps_ret pe_str)) pss_nil)
    (pss_one (ps_ret pe_non)))))))), ?_⟩
  rw [show start ["_law_thing"] [v] = [some v] from rfl]
  walk_at "rd"
  exact kind_end ht (q H (Same.refl H))
abbrev sRows : Stmt := top 34
abbrev sCmp : Stmt := top 35
def spCmp (n : Nat) : Sp := fun vs H Q _ => ∃ (v u : V) (t t' : T), vs = [v, u] ∧ Rep H v t ∧ Rep H u t' ∧ T.few t ∧ T.few t' ∧ T.wt t ≤ n ∧ T.wt t' ≤ n ∧ ∀ H', Same H H' → Q (.int (cmpC (canon t) (canon t'))) H'
def spRows (n : Nat) : Sp := fun vs H Q _ => ∃ (a b : Addr) (xs ys : List V) (us ws : List T), vs = [.ref a, .ref b] ∧ H a = some (.lst xs) ∧ H b = some (.lst ys) ∧ Reps H xs us ∧ Reps H ys ws ∧ T.fews us ∧ T.fews ws ∧ us.length ≤ 100000 ∧ ws.length ≤ 100000 ∧ T.wts us ≤ n ∧ T.wts ws ≤ n ∧ ∀ H', Same H H' → Q (.int (cmpCs (canons us) (canons ws))) H'
theorem scRows : FnScope ["_law_one", "_law_other", "_law_k", "_law_result"] ["_law_one", "_law_other"] (defScope sRows) := ⟨rfl, rfl, rfl, by decide +kernel, rfl, by decide +kernel, by decide +kernel⟩
theorem ok_rows {n : Nat} (F : Fun K "_law_rows_compare" "_law_rows_compare" sRows f fd) (B : Bl2 mg) (G_law_compare : Dn P w K mg base (2 + 2 * n) "_law_compare" ["_law_one", "_law_other"] (spCmp n)) :
    FnOk P w K mg base CX0 (2 + 2 * n + 1) f fd ["_law_one", "_law_other"] (spRows n) := by
  refine F.ok scRows (fun vs H Q E h => ?_) (fun cdv A outer s H vs Q E hr h => ?_)
  · obtain ⟨a, b, xs, ys, us, ws, rfl, _⟩ := h
    rfl
  obtain ⟨a, b, xs, ys, us, ws, rfl, ha, hb, hx, hy, fx, fy, lx, ly, wx, wy, q⟩ := h
  have nd := scRows.nd
  refine ⟨_, (pss_cons (ps_for PassesOwn.never rfl (pi_range1 rfl B.range (pa_cons (pe_callB (call_min2 rfl) rfl B.min bt_min (pa_cons (pe_callB call_len_l rfl B.len bt_len (pa_cons (pv 0) pa_nil)) (pa_cons (pe_callB call_len_l rfl B.len bt_len (pa_cons (pv 1) pa_nil)) pa_nil))) pa_nil)) (pg_name (i := 2) nd rfl (Or.inl rfl)) (pss_cons (ps_set (i := 3) nd rfl (Or.inl rfl) (pe_cd G_law_compare hr (by omega) rfl (pa_cons (pe_ix ix_list (pv 0) (pv 2) (fun _ _ => rfl)) (pa_cons (pe_ix ix_list (pv 1) (pv 2) (fun _ _ => rfl)) pa_nil))))
    (pss_one (ps_if (pt_cmpR op_ne (pv 3) pe_int (nomark _)) (pss_one (ps_ret (pv 3))) pss_nil))))
    (pss_one (ps_ret (pe_op op_sub (pe_callTy call_intB rfl B.int bt_int (pa_cons (pe_cmpR op_gt (pe_callB call_len_l rfl B.len bt_len (pa_cons (pv 0) pa_nil)) (pe_callB call_len_l rfl B.len bt_len (pa_cons (pv 1) pa_nil)) (nomark _)) pa_nil)) (pe_callTy call_intB rfl B.int bt_int (pa_cons (pe_cmpR op_lt (pe_callB call_len_l rfl B.len bt_len (pa_cons (pv 0) pa_nil)) (pe_callB call_len_l rfl B.len bt_len (pa_cons (pv 1) pa_nil)) (nomark _)) pa_nil)))))), ?_⟩
  rw [show start ["_law_one", "_law_other", "_law_k", "_law_result"] [.ref a, .ref b] = [some (.ref a), some (.ref b), none, none] from rfl]
  walk_at "rd2"
  have hxl := hx.length
  have hyl := hy.length
  refine ⟨xs, SqL.of ha, ys, SqL.of hb, xs.length, ys.length, ⟨rfl, rfl⟩, by split <;> omega, by split <;> omega, ?_⟩
  have em : (if (ys.length : Int) < xs.length then (ys.length : Int) else xs.length).toNat = min (canons us).length (canons ws).length := by
    rw [canons_len, canons_len]
    split <;> omega
  rw [em]
  have hmn : min (canons us).length (canons ws).length ≤ us.length ∧ min (canons us).length (canons ws).length ≤ ws.length := by
    rw [canons_len, canons_len]
    exact ⟨Nat.min_le_left _ _, Nat.min_le_right _ _⟩
  generalize hm : min (canons us).length (canons ws).length = m at hmn ⊢
  refine forB_rng (fun i σ H2 => (∃ o2 o3, σ = [some (V.ref a), some (V.ref b), o2, o3]) ∧ Same H H2 ∧ cmpCs (canons us) (canons ws) = cmpCs ((canons us).drop i) ((canons ws).drop i)) ⟨⟨_, _, rfl⟩, Same.refl _, rfl⟩ ?_ ?_
  · rintro i σ H2 hi ⟨⟨o2, o3, rfl⟩, g, e⟩
    walk_at "rd2"
    have h1 : i < xs.length := by omega
    have h2 : i < ys.length := by omega
    obtain ⟨t1, ht1, hr1⟩ := hx.get (i := i) (v := xs[i]) (by simp [h1])
    obtain ⟨t2, ht2, hr2⟩ := hy.get (i := i) (v := ys[i]) (by simp [h2])
    have hm1 := List.mem_of_getElem? ht1
    have hm2 := List.mem_of_getElem? ht2
    have w1 := T.wts_le hm1
    have w2 := T.wts_le hm2
    have hd := cmpCs_drop (canons_get ht1) (canons_get ht2)
    refine ⟨a, xs, i, xs[i], rfl, by simp, SqL.of (g _ _ ha), ?_, b, ys, i, ys[i], rfl, by simp, SqL.of (g _ _ hb), ?_, xs[i], ys[i], t1, t2, rfl, Rep.same g _ _ hr1, Rep.same g _ _ hr2, T.fews_mem fx hm1, T.fews_mem fy hm2, by omega, by omega, fun H3 g3 => ?_⟩
    · exact atI_nat (by simp [h1])
    · exact atI_nat (by simp [h2])
    · rw [e, hd] at q
      by_cases hz : cmpC (canon t1) (canon t2) = 0
      · exact ⟨rfl, false, by rw [hz]; rfl, iteF ⟨⟨_, rfl⟩, g.trans g3, by rw [e, hd, if_pos hz]⟩⟩
      · rw [if_neg hz] at q
        refine ⟨rfl, true, ?_, iteT (q _ (g.trans g3))⟩
        simp [hz]
  · rintro σ H2 ⟨⟨o2, o3, rfl⟩, g, e⟩
    walk_at "rd2"
    have he := cmpCs_end (xs := canons us) (ys := canons ws) hm.symm
    rw [canons_len, canons_len] at he
    have z := q H2 g
    rw [e, he, sgI, ← hxl, ← hyl] at z
    exact ⟨xs, SqL.of (g _ _ ha), ys, SqL.of (g _ _ hb), xs, SqL.of (g _ _ ha), ys, SqL.of (g _ _ hb), z⟩
theorem iP {c A B : Prop} [Decidable c] (h : c) (a : A) : if c then A else B := by rw [if_pos h]; exact a
theorem iN {c A B : Prop} [Decidable c] (h : ¬c) (b : B) : if c then A else B := by rw [if_neg h]; exact b
def wordsS : List Str := ["nothing", "truth", "number", "text", "row", "record"]
theorem word_ix (t : T) (h : T.few t) : ∃ k, kindV (tyT t) = .str k ∧ wordsS[(canon t).ord]? = some k ∧ ∀ i, i < (canon t).ord → wordsS[i]? ≠ some k := by
  cases t with
  | non => exact ⟨"nothing", by decide +kernel, rfl, fun i h => absurd h (Nat.not_lt_zero i)⟩
  | bl b => exact ⟨"truth", by show kindV "bool" = _; decide +kernel, rfl, by show ∀ i, i < 1 → _; decide +kernel⟩
  | int b => exact ⟨"number", by show kindV "int" = _; decide +kernel, rfl, by show ∀ i, i < 2 → _; decide +kernel⟩
  | str b => exact ⟨"text", by show kindV "str" = _; decide +kernel, rfl, by show ∀ i, i < 3 → _; decide +kernel⟩
  | lst b => exact ⟨"row", by show kindV "list" = _; decide +kernel, rfl, by show ∀ i, i < 4 → _; decide +kernel⟩
  | dic a b => exact ⟨"record", by show kindV "dict" = _; decide +kernel, rfl, by show ∀ i, i < 5 → _; decide +kernel⟩
  | tup b => exact h.elim
theorem names_comp {x n : Str} {j : Nat} {d l : Addr} {ps : List (Key × V)} {ks : List (List Nat)} {us : List T} {ss : List Str} {σ : St} {Q : VK} {H1 : Hp} (hd : H1 d = some (.dK ps)) (hl : H1 l = none) (h64 : ks.length < 64) (nk : ks.Nodup)
    (hk : ps.map (·.1) = ks.map fun k => (Sum.inr (tx k) : Key)) (hs : Reps H1 (ps.map (·.2)) us) (hp : ss.Perm (ks.map tx)) (hss : PyProof.Rows.sortedS ss = true) (hj : (σ[j]?).join = some (.ref d))
    (q : ∀ p zs H', Same H1 H' → H' p = some (.lst zs) → Reps H' zs (rowsT ks us) → Q (.ref p) H') :
    CompBody [x] [(n, j)] (gName 0) tTrue (tLst (tCons (tVar 0) (tCons (tDGet (tVar 1) (tVar 0)) tNil))) σ Q (Itl K l) (upd H1 l (.lst (ss.map V.str))) := by
  have es := sorted_names hp hss
  have g0 : Same H1 (upd H1 l (.lst (ss.map V.str))) := same_new hl _
  have hll : upd H1 l (.lst (ss.map V.str)) l = some (.lst (ss.map V.str)) := upd_same
  have hlen : (ss.map V.str).length = ks.length := by rw [List.length_map, hp.length_eq, List.length_map]
  generalize upd H1 l (.lst (ss.map V.str)) = H2 at g0 hll ⊢
  refine comp_list (K := K) (xs := ss.map V.str) (fun i zs H' => Same H2 H' ∧ Reps H' zs ((rowsT ks us).take i)) ?_ ⟨Same.refl _, rfl⟩ (fun i zs H' _ h => SqL.of (h.1 _ _ hll)) ?_ ?_
  · rw [sizeLine_eq, hlen]; omega
  · rintro i y zs H' hy _ ⟨g, hR⟩
    rw [es, List.map_map, List.getElem?_map] at hy
    cases hki : (sortK ks)[i]? with
    | none => rw [hki] at hy; cases hy
    | some k =>
      rw [hki] at hy
      have ey : V.str (tx k) = y := Option.some.inj hy
      subst ey
      have hrow : (rowsT ks us)[i]? = some (.lst [.str k, lookT k ks us]) := by rw [rowsT, List.getElem?_map, hki]; rfl
      have gg := g0.trans g
      obtain ⟨v, hv1, hv2⟩ := Rep.at_name nk hk (Reps.same gg _ _ hs) (mem_sortK.mp (List.mem_of_getElem? hki))
      walk_at "rd2"
      rw [hj]
      refine ⟨.ref d, rfl, d, rfl, v, .inl ⟨ps, Sum.inr (tx k), .inl (gg _ _ hd), rfl, hv1.symm⟩, fun p hp => ⟨g.trans (same_new hp _), ?_⟩⟩
      rw [take_succ_of hrow]
      have hrep : Rep (upd H' p (.lst [V.str (tx k), v])) (.ref p) (.lst [.str k, lookT k ks us]) := ⟨p, _, rfl, upd_same, _, _, rfl, rfl, _, _, rfl, Rep.same (same_new hp _) _ _ hv2, rfl⟩
      exact Reps.snoc hrep (Reps.same (same_new hp _) _ _ hR)
  · rintro zs H' _ ⟨g, hR⟩ p hp'
    rw [hlen, ← rows_len ks us, List.take_length] at hR
    exact q p zs _ (g0.trans (g.trans (same_new hp' _))) upd_same (Reps.same (same_new hp' _) _ _ hR)
theorem scCmp : FnScope ["_law_one", "_law_other", "_law_words", "_law_first", "_law_second", "_law_left", "_law_right_here"] ["_law_one", "_law_other"] (defScope sCmp) := ⟨rfl, rfl, rfl, by decide +kernel, rfl, by decide +kernel, by decide +kernel⟩
theorem ok_cmpS {n : Nat} (F : Fun K "_law_compare" "_law_compare" sCmp f fd) (B : Bl2 mg) (G_law_kind : Dn P w K mg base 1 "_law_kind" ["_law_thing"] spKind) (G_law_rows_compare : Dn P w K mg base (2 + 2 * n + 1) "_law_rows_compare" ["_law_one", "_law_other"] (spRows n)) :
    FnOk P w K mg base CX0 (2 + 2 * n + 1 + 1) f fd ["_law_one", "_law_other"] (spCmp (n + 1)) := by
  refine F.ok scCmp (fun vs H Q E h => ?_) (fun cdv A outer s H vs Q E hr h => ?_)
  · obtain ⟨v, u, t, t', rfl, _⟩ := h
    rfl
  obtain ⟨v, u, t, t', rfl, hv, hu', f1, f2, w1, w2, q⟩ := h
  have nd := scCmp.nd
  have hu := hu_of hr
  refine ⟨_, (pss_cons (ps_set (i := 2) nd rfl (Or.inl rfl) (pe_lst (pa_cons pe_str (pa_cons pe_str (pa_cons pe_str (pa_cons pe_str (pa_cons pe_str (pa_cons pe_str pa_nil))))))))
    (pss_cons (ps_set (i := 3) nd rfl (Or.inl rfl) (pe_bm PySem.F.plainAttrs_list PySem.F.slot_list_index PySem.F.type_list_index mt_index (pv 2) (pa_cons (pe_cd G_law_kind hr (by omega) rfl (pa_cons (pv 0) pa_nil)) pa_nil)))
    (pss_cons (ps_set (i := 4) nd rfl (Or.inl rfl) (pe_bm PySem.F.plainAttrs_list PySem.F.slot_list_index PySem.F.type_list_index mt_index (pv 2) (pa_cons (pe_cd G_law_kind hr (by omega) rfl (pa_cons (pv 1) pa_nil)) pa_nil)))
    (pss_cons (ps_if (pt_cmpR op_ne (pv 3) (pv 4) (nomark _)) (pss_one (ps_ret (pe_op op_sub (pe_callTy call_intB rfl B.int bt_int (pa_cons (pe_cmpR op_gt (pv 3) (pv 4) (nomark _)) pa_nil)) (pe_callTy call_intB rfl B.int bt_int (pa_cons (pe_cmpR op_lt (pv 3) (pv 4) (nomark _)) pa_nil))))) pss_nil)
    (pss_cons (ps_if (pt_cmpR op_eq (pv 3) pe_int (nomark _)) (pss_one (ps_ret pe_int)) pss_nil)
    (pss_cons (ps_if (pt_cmpR op_lt (pv 3) pe_int (nomark _)) (pss_one (ps_ret (pe_op op_sub (pe_callTy call_intB rfl B.int bt_int (pa_cons (pe_cmpR op_gt_A (pv 0) (pv 1) (nomark _)) pa_nil)) (pe_callTy call_intB rfl B.int bt_int (pa_cons (pe_cmpR op_lt_A (pv 0) (pv 1) (nomark _)) pa_nil))))) pss_nil)
    (pss_cons (ps_if (pt_cmpR op_eq (pv 3) pe_int (nomark _)) (pss_one (ps_ret (pe_cd G_law_rows_compare hr (by omega) rfl (pa_cons (pv 0) (pa_cons (pv 1) pa_nil))))) pss_nil)
    (pss_cons (ps_comp (i := 5) nd rfl (Or.inl rfl) (own := ["_law_name"]) (F := [("_law_one", 0)]) ⟨rfl, by with_unfolding_all rfl, by with_unfolding_all rfl, by with_unfolding_all rfl, (.cons rfl rfl rfl .nil)⟩ rfl (pi_list (pe_callB (call_sorted_d rfl) rfl B.sorted bt_sorted (pa_cons (pv 0) pa_nil))) (fun _ _ _ _ => pg_name (i := 0) (by show (compN ["_law_name"] [("_law_one", 0)]).Nodup; decide +kernel) rfl (Or.inl rfl)) (fun _ _ _ _ => pts_nil) (fun _ _ _ _ => (pe_lst (pa_cons (pv 0) (pa_cons (pe_dget hu (pv 1) (pv 0) (fun _ _ => rfl)) pa_nil)))))
    (pss_cons (ps_comp (i := 6) nd rfl (Or.inl rfl) (own := ["_law_name"]) (F := [("_law_other", 1)]) ⟨rfl, by with_unfolding_all rfl, by with_unfolding_all rfl, by with_unfolding_all rfl, (.cons rfl rfl rfl .nil)⟩ rfl (pi_list (pe_callB (call_sorted_d rfl) rfl B.sorted bt_sorted (pa_cons (pv 1) pa_nil))) (fun _ _ _ _ => pg_name (i := 0) (by show (compN ["_law_name"] [("_law_other", 1)]).Nodup; decide +kernel) rfl (Or.inl rfl)) (fun _ _ _ _ => pts_nil) (fun _ _ _ _ => (pe_lst (pa_cons (pv 0) (pa_cons (pe_dget hu (pv 1) (pv 0) (fun _ _ => rfl)) pa_nil)))))
    (pss_one (ps_ret (pe_cd G_law_rows_compare hr (by omega) rfl (pa_cons (pv 5) (pa_cons (pv 6) pa_nil)))))))))))))), ?_⟩
  rw [show start ["_law_one", "_law_other", "_law_words", "_law_first", "_law_second", "_law_left", "_law_right_here"] [v, u] = [some v, some u, none, none, none, none, none] from rfl]
  walk_at "rd2"
  intro p hp
  obtain ⟨k1, e1, i1, n1⟩ := word_ix t f1
  obtain ⟨k2, e2, i2, n2⟩ := word_ix t' f2
  have o1 : (canon t).ord < 1000000 := by cases (canon t) <;> simp [C.ord]
  have o2 : (canon t').ord < 1000000 := by cases (canon t') <;> simp [C.ord]
  have g0 : Same H (upd H p (.lst (wordsS.map V.str))) := same_new hp _
  have hpp : upd H p (.lst (wordsS.map V.str)) p = some (.lst (wordsS.map V.str)) := upd_same
  rw [show [V.str (Str.ofString "nothing"), V.str (Str.ofString "truth"), V.str (Str.ofString "number"), V.str (Str.ofString "text"), V.str (Str.ofString "row"), V.str (Str.ofString "record")] = wordsS.map V.str from rfl]
  generalize upd H p (.lst (wordsS.map V.str)) = H1 at g0 hpp ⊢
  refine ⟨Or.inl ⟨rfl, _, SqL.of hpp⟩, v, _, rfl, (Rep.same g0 _ _ hv).ty, fun H2 g2 => ?_⟩
  refine ⟨p, wordsS, k1, _, rfl, by rw [e1], SqL.of (g2 _ _ hpp), i1, n1, o1, Or.inl ⟨rfl, _, SqL.of (g2 _ _ hpp)⟩, u, _, rfl, (Rep.same (g0.trans g2) _ _ hu').ty, fun H3 g3 => ?_⟩
  have gH := g0.trans (g2.trans g3)
  refine ⟨p, wordsS, k2, _, rfl, by rw [e2], SqL.of (g3 _ _ (g2 _ _ hpp)), i2, n2, o2, rfl, ?_⟩
  by_cases ho : (canon t).ord = (canon t').ord
  · refine ⟨false, by simp [ho], iteF ⟨rfl, ?_⟩⟩
    have zq := q
    cases t with
    | non =>
      cases t' with
      | non => exact iP (by simp [canon, C.ord]) (q _ gH)
      | _ => exact absurd ho (by simp [canon, C.ord])
    | bl b =>
      cases t' with
      | bl b' =>
        cases (show v = _ from hv); cases (show u = _ from hu')
        refine iN (by simp [canon, C.ord]) ⟨_, rfl, iP (by simp [canon, C.ord]) ⟨_, rfl, _, rfl, _, rfl, _, rfl, ?_⟩⟩
        have z := q _ gH
        rw [show cmpC (canon (.bl b)) (canon (.bl b')) = (if (b && !b') = true then 1 else 0) - (if (b' && !b) = true then 1 else 0) by cases b <;> cases b' <;> rfl] at z
        exact z
      | _ => exact absurd ho (by simp [canon, C.ord])
    | int b =>
      cases t' with
      | int b' =>
        cases (show v = _ from hv); cases (show u = _ from hu')
        refine iN (by simp [canon, C.ord]) ⟨_, rfl, iP (by simp [canon, C.ord]) ⟨_, rfl, _, rfl, _, rfl, _, rfl, ?_⟩⟩
        have z := q _ gH
        rw [show cmpC (canon (.int b)) (canon (.int b')) = (if b' < b then 1 else 0) - (if b < b' then 1 else 0) by rw [canon, canon, cmpC]; rfl] at z
        simpa using z
      | _ => exact absurd ho (by simp [canon, C.ord])
    | str b =>
      cases t' with
      | str b' =>
        cases (show v = _ from hv); cases (show u = _ from hu')
        refine iN (by simp [canon, C.ord]) ⟨_, rfl, iP (by simp [canon, C.ord]) ⟨_, rfl, _, rfl, _, rfl, _, rfl, ?_⟩⟩
        have z := q _ gH
        rw [show cmpC (canon (.str b)) (canon (.str b')) = (if b' < b then 1 else 0) - (if b < b' then 1 else 0) by rw [canon, canon, cmpC]; rfl] at z
        simp only [ts_tx, decide_eq_true_eq]
        exact z
      | _ => exact absurd ho (by simp [canon, C.ord])
    | lst us =>
      cases t' with
      | lst ws =>
        obtain ⟨a, xs, rfl, ha, hx⟩ := hv
        obtain ⟨b, ys, rfl, hb, hy⟩ := hu'
        refine iN (by simp [canon, C.ord]) ⟨_, rfl, iN (by simp [canon, C.ord]) ⟨rfl, iP (by simp [canon, C.ord]) ?_⟩⟩
        have w1' : T.wts us + 1 ≤ n + 1 := w1
        have w2' : T.wts ws + 1 ≤ n + 1 := w2
        refine ⟨a, b, xs, ys, us, ws, rfl, gH _ _ ha, gH _ _ hb, Reps.same gH _ _ hx, Reps.same gH _ _ hy, f1.2, f2.2, f1.1, f2.1, by omega, by omega, fun H4 g4 => ?_⟩
        have z := q _ (gH.trans g4)
        rw [canon, canon, cmpC] at z
        exact z
      | _ => exact absurd ho (by simp [canon, C.ord])
    | dic ks us =>
      cases t' with
      | dic ks' ws =>
        obtain ⟨a, ps, rfl, ha, hk, hx⟩ := hv
        obtain ⟨b, ps', rfl, hb, hk', hy⟩ := hu'
        obtain ⟨nk, h64, hle, fx⟩ := f1
        obtain ⟨nk', h64', hle', fy⟩ := f2
        have w1' : T.wts us + 2 ≤ n + 1 := w1
        have w2' : T.wts ws + 2 ≤ n + 1 := w2
        have r1 := rows_wt hle
        have r2 := rows_wt hle'
        have l1 := rows_len ks us
        have l2 := rows_len ks' ws
        refine iN (by simp [canon, C.ord]) ⟨_, rfl, iN (by simp [canon, C.ord]) ⟨rfl, iN (by simp [canon, C.ord]) ?_⟩⟩
        refine ⟨a, rfl, ps, .inl (gH _ _ ha), ks.map tx, by rw [hk, List.map_map]; rfl, by rw [List.length_map]; exact h64, fun l ss hl hp1 hs1 => ⟨⟨_, SqL.of upd_same⟩, names_comp (gH _ _ ha) hl h64 nk hk (Reps.same gH _ _ hx) hp1 hs1 rfl fun p1 zs1 H4 g4 hp4 hr4 => ?_⟩⟩
        have gH4 := gH.trans g4
        refine ⟨b, rfl, ps', .inl (gH4 _ _ hb), ks'.map tx, by rw [hk', List.map_map]; rfl, by rw [List.length_map]; exact h64', fun l ss hl hp1 hs1 => ⟨⟨_, SqL.of upd_same⟩, names_comp (gH4 _ _ hb) hl h64' nk' hk' (Reps.same gH4 _ _ hy) hp1 hs1 rfl fun p2 zs2 H5 g5 hp5 hr5 => ?_⟩⟩
        refine ⟨p1, p2, zs1, zs2, rowsT ks us, rowsT ks' ws, rfl, g5 _ _ hp4, hp5, Reps.same g5 _ _ hr4, hr5, rows_few hle fx, rows_few hle' fy, by omega, by omega, by omega, by omega, fun H6 g6 => ?_⟩
        have z := q _ (gH4.trans (g5.trans g6))
        rw [canon, canon, cmpC, ← rows_canon, ← rows_canon] at z
        exact z
      | _ => exact absurd ho (by simp [canon, C.ord])
    | tup us => exact f1.elim
  · refine ⟨true, ?_, iteT ⟨_, rfl, _, rfl, _, rfl, _, rfl, ?_⟩⟩
    · simpa [Int.ofNat_inj] using ho
    · have z := q H3 gH
      rw [cmpC_ord _ _ ho, sgI] at z
      exact z
theorem ok_cmp0 (F : Fun K "_law_compare" "_law_compare" sCmp f fd) (B : Bl2 mg) (G_law_kind : Dn P w K mg base 1 "_law_kind" ["_law_thing"] spKind) :
    FnOk P w K mg base CX0 2 f fd ["_law_one", "_law_other"] (spCmp 0) := by
  refine F.ok scCmp (fun vs H Q E h => ?_) (fun cdv A outer s H vs Q E hr h => ?_)
  · obtain ⟨v, u, t, t', rfl, _⟩ := h
    rfl
  obtain ⟨v, u, t, t', rfl, hv, hu', f1, f2, w1, w2, q⟩ := h
  have nd := scCmp.nd
  have hu := hu_of hr
  refine ⟨_, (pss_cons (ps_set (i := 2) nd rfl (Or.inl rfl) (pe_lst (pa_cons pe_str (pa_cons pe_str (pa_cons pe_str (pa_cons pe_str (pa_cons pe_str (pa_cons pe_str pa_nil))))))))
    (pss_cons (ps_set (i := 3) nd rfl (Or.inl rfl) (pe_bm PySem.F.plainAttrs_list PySem.F.slot_list_index PySem.F.type_list_index mt_index (pv 2) (pa_cons (pe_cd G_law_kind hr (by omega) rfl (pa_cons (pv 0) pa_nil)) pa_nil)))
    (pss_cons (ps_set (i := 4) nd rfl (Or.inl rfl) (pe_bm PySem.F.plainAttrs_list PySem.F.slot_list_index PySem.F.type_list_index mt_index (pv 2) (pa_cons (pe_cd G_law_kind hr (by omega) rfl (pa_cons (pv 1) pa_nil)) pa_nil)))
    (pss_cons (ps_if (pt_cmpR op_ne (pv 3) (pv 4) (nomark _)) (pss_one (ps_ret (pe_op op_sub (pe_callTy call_intB rfl B.int bt_int (pa_cons (pe_cmpR op_gt (pv 3) (pv 4) (nomark _)) pa_nil)) (pe_callTy call_intB rfl B.int bt_int (pa_cons (pe_cmpR op_lt (pv 3) (pv 4) (nomark _)) pa_nil))))) pss_nil)
    (pss_cons (ps_if (pt_cmpR op_eq (pv 3) pe_int (nomark _)) (pss_one (ps_ret pe_int)) pss_nil)
    (pss_cons (ps_if (pt_cmpR op_lt (pv 3) pe_int (nomark _)) (pss_one (ps_ret (pe_op op_sub (pe_callTy call_intB rfl B.int bt_int (pa_cons (pe_cmpR op_gt_A (pv 0) (pv 1) (nomark _)) pa_nil)) (pe_callTy call_intB rfl B.int bt_int (pa_cons (pe_cmpR op_lt_A (pv 0) (pv 1) (nomark _)) pa_nil))))) pss_nil)
    pss_never)))))), ?_⟩
  rw [show start ["_law_one", "_law_other", "_law_words", "_law_first", "_law_second", "_law_left", "_law_right_here"] [v, u] = [some v, some u, none, none, none, none, none] from rfl]
  walk_at "rd2"
  intro p hp
  obtain ⟨k1, e1, i1, n1⟩ := word_ix t f1
  obtain ⟨k2, e2, i2, n2⟩ := word_ix t' f2
  have o1 : (canon t).ord < 1000000 := by cases (canon t) <;> simp [C.ord]
  have o2 : (canon t').ord < 1000000 := by cases (canon t') <;> simp [C.ord]
  have g0 : Same H (upd H p (.lst (wordsS.map V.str))) := same_new hp _
  have hpp : upd H p (.lst (wordsS.map V.str)) p = some (.lst (wordsS.map V.str)) := upd_same
  rw [show [V.str (Str.ofString "nothing"), V.str (Str.ofString "truth"), V.str (Str.ofString "number"), V.str (Str.ofString "text"), V.str (Str.ofString "row"), V.str (Str.ofString "record")] = wordsS.map V.str from rfl]
  generalize upd H p (.lst (wordsS.map V.str)) = H1 at g0 hpp ⊢
  refine ⟨Or.inl ⟨rfl, _, SqL.of hpp⟩, v, _, rfl, (Rep.same g0 _ _ hv).ty, fun H2 g2 => ?_⟩
  refine ⟨p, wordsS, k1, _, rfl, by rw [e1], SqL.of (g2 _ _ hpp), i1, n1, o1, Or.inl ⟨rfl, _, SqL.of (g2 _ _ hpp)⟩, u, _, rfl, (Rep.same (g0.trans g2) _ _ hu').ty, fun H3 g3 => ?_⟩
  have gH := g0.trans (g2.trans g3)
  refine ⟨p, wordsS, k2, _, rfl, by rw [e2], SqL.of (g3 _ _ (g2 _ _ hpp)), i2, n2, o2, rfl, ?_⟩
  by_cases ho : (canon t).ord = (canon t').ord
  · refine ⟨false, by simp [ho], iteF ⟨rfl, ?_⟩⟩
    have zq := q
    cases t with
    | non =>
      cases t' with
      | non => exact iP (by simp [canon, C.ord]) (q _ gH)
      | _ => exact absurd ho (by simp [canon, C.ord])
    | bl b =>
      cases t' with
      | bl b' =>
        cases (show v = _ from hv); cases (show u = _ from hu')
        refine iN (by simp [canon, C.ord]) ⟨_, rfl, iP (by simp [canon, C.ord]) ⟨_, rfl, _, rfl, _, rfl, _, rfl, ?_⟩⟩
        have z := q _ gH
        rw [show cmpC (canon (.bl b)) (canon (.bl b')) = (if (b && !b') = true then 1 else 0) - (if (b' && !b) = true then 1 else 0) by cases b <;> cases b' <;> rfl] at z
        exact z
      | _ => exact absurd ho (by simp [canon, C.ord])
    | int b =>
      cases t' with
      | int b' =>
        cases (show v = _ from hv); cases (show u = _ from hu')
        refine iN (by simp [canon, C.ord]) ⟨_, rfl, iP (by simp [canon, C.ord]) ⟨_, rfl, _, rfl, _, rfl, _, rfl, ?_⟩⟩
        have z := q _ gH
        rw [show cmpC (canon (.int b)) (canon (.int b')) = (if b' < b then 1 else 0) - (if b < b' then 1 else 0) by rw [canon, canon, cmpC]; rfl] at z
        simpa using z
      | _ => exact absurd ho (by simp [canon, C.ord])
    | str b =>
      cases t' with
      | str b' =>
        cases (show v = _ from hv); cases (show u = _ from hu')
        refine iN (by simp [canon, C.ord]) ⟨_, rfl, iP (by simp [canon, C.ord]) ⟨_, rfl, _, rfl, _, rfl, _, rfl, ?_⟩⟩
        have z := q _ gH
        rw [show cmpC (canon (.str b)) (canon (.str b')) = (if b' < b then 1 else 0) - (if b < b' then 1 else 0) by rw [canon, canon, cmpC]; rfl] at z
        simp only [ts_tx, decide_eq_true_eq]
        exact z
      | _ => exact absurd ho (by simp [canon, C.ord])
    | lst us => exact absurd w1 (Nat.not_succ_le_zero _)
    | dic ks us => exact absurd w1 (Nat.not_succ_le_zero _)
    | tup us => exact f1.elim
  · refine ⟨true, ?_, iteT ⟨_, rfl, _, rfl, _, rfl, _, rfl, ?_⟩⟩
    · simpa [Int.ofNat_inj] using ho
    · have z := q H3 gH
      rw [cmpC_ord _ _ ho, sgI] at z
      exact z
theorem cmp_all {f' : Addr} {fd' : FuncData} (F : Fun K "_law_compare" "_law_compare" sCmp f fd) (F' : Fun K "_law_rows_compare" "_law_rows_compare" sRows f' fd') (B : Bl2 mg) (Gk : Dn P w K mg base 1 "_law_kind" ["_law_thing"] spKind)
    (b : Binds K fd ["_law_one", "_law_other"] []) (kp : PySem.W.keepIn K (.ref f) = true) (m : mg "_law_compare" = some (.ref f)) (b' : Binds K fd' ["_law_one", "_law_other"] []) (kp' : PySem.W.keepIn K (.ref f') = true) (m' : mg "_law_rows_compare" = some (.ref f')) :
    ∀ n : Nat, FnOk P w K mg base CX0 (2 + 2 * n) f fd ["_law_one", "_law_other"] (spCmp n)
  | 0 => ok_cmp0 F B Gk
  | n + 1 => ok_cmpS F B Gk ⟨_, _, ok_rows F' B ⟨_, _, cmp_all F F' B Gk b kp m b' kp' m' n, b, kp, m⟩, b', kp', m'⟩
abbrev sSame : Stmt := top 33
def spSame (n : Nat) : Sp := fun vs H Q _ => ∃ (v u : V) (t t' : T), vs = [v, u] ∧ Rep H v t ∧ Rep H u t' ∧ T.few t ∧ T.few t' ∧ T.wt t ≤ n ∧ T.wt t' ≤ n ∧ ∀ H', Same H H' → Q (.bl (decide (cmpC (canon t) (canon t') = 0))) H'
theorem scSame : FnScope ["_law_one", "_law_other"] ["_law_one", "_law_other"] (defScope sSame) := ⟨rfl, rfl, rfl, by decide +kernel, rfl, by decide +kernel, by decide +kernel⟩
theorem cmpC_kind : ∀ {t t' : T}, T.few t → T.few t' → kindV (tyT t) ≠ kindV (tyT t') → cmpC (canon t) (canon t') ≠ 0 := by
  intro t t' h h' ne
  have ho : (canon t).ord ≠ (canon t').ord := by
    intro e
    apply ne
    cases t <;> cases t' <;> first | rfl | exact h.elim | exact h'.elim | exact absurd e (by simp [canon, C.ord])
  rw [cmpC_ord _ _ ho, sgI]
  split <;> split <;> omega
theorem ok_same {n : Nat} (F : Fun K "_law_same" "_law_same" sSame f fd) (B : Bl2 mg) (G_law_kind : Dn P w K mg base 1 "_law_kind" ["_law_thing"] spKind) (G_law_compare : Dn P w K mg base (2 + 2 * n) "_law_compare" ["_law_one", "_law_other"] (spCmp n)) :
    FnOk P w K mg base CX0 (2 + 2 * n + 1) f fd ["_law_one", "_law_other"] (spSame n) := by
  refine F.ok scSame (fun vs H Q E h => ?_) (fun cdv A outer s H vs Q E hr h => ?_)
  · obtain ⟨v, u, t, t', rfl, _⟩ := h
    rfl
  obtain ⟨v, u, t, t', rfl, hv, hu', f1, f2, w1, w2, q⟩ := h
  have nd := scSame.nd
  refine ⟨_, (pss_one (ps_ret (pe_and (pe_cmp (pc_notN (pe_cd G_law_kind hr (by omega) rfl (pa_cons (pv 0) pa_nil)))) (pe_and (pe_cmpR op_eq (pe_cd G_law_kind hr (by omega) rfl (pa_cons (pv 0) pa_nil)) (pe_cd G_law_kind hr (by omega) rfl (pa_cons (pv 1) pa_nil)) (nomark _)) (pe_one (pe_cmpR op_eq (pe_cd G_law_compare hr (by omega) rfl (pa_cons (pv 0) (pa_cons (pv 1) pa_nil))) pe_int (nomark _))))))), ?_⟩
  rw [show start ["_law_one", "_law_other"] [v, u] = [some v, some u] from rfl]
  walk_at "rd2"
  obtain ⟨k1, e1, -, -⟩ := word_ix t f1
  obtain ⟨k2, e2, -, -⟩ := word_ix t' f2
  refine ⟨v, _, rfl, hv.ty, fun H1 g1 => ⟨true, by rw [e1]; rfl, iteT ⟨v, _, rfl, (Rep.same g1 _ _ hv).ty, fun H2 g2 => ⟨u, _, rfl, (Rep.same (g1.trans g2) _ _ hu').ty, fun H3 g3 => ?_⟩⟩⟩⟩
  have gH := g1.trans (g2.trans g3)
  rw [e1, e2]
  refine ⟨rfl, ?_⟩
  by_cases he : V.str k1 = V.str k2
  · refine iP he ⟨v, u, t, t', rfl, Rep.same gH _ _ hv, Rep.same gH _ _ hu', f1, f2, w1, w2, fun H4 g4 => ⟨rfl, ?_⟩⟩
    have z := q _ (gH.trans g4)
    simpa using z
  · have z := q _ gH
    rw [decide_eq_false (cmpC_kind f1 f2 (by rw [e1, e2]; exact he))] at z
    exact iN he z
end
abbrev sRank : Stmt := top 20
structure MG (mg : Str → Option Value) (ka : Addr) : Prop where
  KINDS : mg "KINDS" = some (.ref ka)
section
variable {P : Program} {w : World} {K : PySem.W.Frag} {mg : Str → Option Value} {base : Heap} {f : Addr} {fd : FuncData}
theorem scKindOf : FnScope ["thing"] ["thing"] (defScope sKindOf) := ⟨rfl, rfl, rfl, by decide +kernel, rfl, by decide +kernel, by decide +kernel⟩
theorem ok_kind_of (F : Fun K "kind_of" "kind_of" sKindOf f fd) (B : Bl mg) : FnOk P w K mg base CX0 1 f fd ["thing"] spKind := by
  refine F.ok scKindOf (fun vs H Q E h => ?_) (fun cdv A outer s H vs Q E hr h => ?_)
  · obtain ⟨v, t, rfl, _⟩ := h
    rfl
  obtain ⟨v, t, rfl, ht, q⟩ := h
  have nd := scKindOf.nd
  refine ⟨_, (pss_cons (ps_if (pt_cmp (pc_isN (pv 0))) (pss_one (ps_ret pe_str)) pss_nil)
    (pss_cons (ps_if (pt_val (pe_callB (call_isi (T := "bool") (by decide)) rfl B.isinstance bt_isinstance (pa_cons (pv 0) (pa_cons (pe_bltn (v := .ty "bool") rfl B.bool bt_bool rfl) pa_nil)))) (pss_one (ps_ret pe_str)) pss_nil)
    (pss_cons (ps_if (pt_val (pe_callB (call_isi (T := "int") (by decide)) rfl B.isinstance bt_isinstance (pa_cons (pv 0) (pa_cons (pe_bltn (v := .ty "int") rfl B.int bt_int rfl) pa_nil)))) (pss_one (ps_ret pe_str)) pss_nil)
    (pss_cons (ps_if (pt_val (pe_callB (call_isi (T := "str") (by decide)) rfl B.isinstance bt_isinstance (pa_cons (pv 0) (pa_cons (pe_bltn (v := .ty "str") rfl B.str bt_str rfl) pa_nil)))) (pss_one (ps_ret pe_str)) pss_nil)
    (pss_cons (ps_if (pt_val (pe_callB (call_isi (T := "list") (by decide)) rfl B.isinstance bt_isinstance (pa_cons (pv 0) (pa_cons (pe_bltn (v := .ty "list") rfl B.list bt_list rfl) pa_nil)))) (pss_one (ps_ret pe_str)) pss_nil)
    (pss_cons (ps_if (pt_val (pe_callB (call_isi (T := "dict") (by decide)) rfl B.isinstance bt_isinstance (pa_cons (pv 0) (pa_cons (pe_bltn (v := .ty "dict") rfl B.dict bt_dict rfl) pa_nil)))) (pss_one (ps_ret pe_str)) pss_nil)
    (pss_one (ps_ret pe_non)))))))), ?_⟩
  rw [show start ["thing"] [v] = [some v] from rfl]
  walk_at "rd2"
  exact kind_end ht (q H (Same.refl H))
def spRank (n : Nat) : Sp := fun vs H Q _ => ∃ (v : V) (t : T), vs = [v] ∧ Rep H v t ∧ T.few t ∧ T.dep t < n ∧ ∀ r H', Same H H' → Rep H' r (rk (canon t)) → Q r H'
theorem scRank : FnScope ["thing", "kind", "place"] ["thing"] (defScope sRank) := ⟨rfl, rfl, rfl, by decide +kernel, rfl, by decide +kernel, by decide +kernel⟩
theorem ok_rankS {n : Nat} {ka : Addr} (F : Fun K "rank" "rank" sRank f fd) (B : Bl2 mg) (hG : TupG K mg "KINDS" wordsS ka) (Gkind_of : Dn P w K mg base 1 "kind_of" ["thing"] spKind) (Grank : Dn P w K mg base (2 + n) "rank" ["thing"] (spRank n)) :
    FnOk P w K mg base CX0 (2 + n + 1) f fd ["thing"] (spRank (n + 1)) := by
  refine F.ok scRank (fun vs H Q E h => ?_) (fun cdv A outer s H vs Q E hr h => ?_)
  · obtain ⟨v, t, rfl, _⟩ := h
    rfl
  obtain ⟨v, t, rfl, hv, hf, hd, q⟩ := h
  have nd := scRank.nd
  have hu := hu_of hr
  have M : MG mg ka := ⟨hG.1⟩
  refine ⟨_, (pss_cons (ps_set (i := 1) nd rfl (Or.inl rfl) (pe_cd Gkind_of hr (by omega) rfl (pa_cons (pv 0) pa_nil)))
    (pss_cons (ps_set (i := 2) nd rfl (Or.inl rfl) (pe_bm PySem.F.plainAttrs_tuple PySem.F.slot_tuple_index PySem.F.type_tuple_index mt_index_t (pe_gt rfl M.KINDS) (pa_cons (pv 1) pa_nil)))
    (pss_cons (ps_if (pt_cmpR op_eq (pv 1) pe_str (nomark _)) (pss_one (ps_ret (pe_tup (pa_cons (pv 2) pa_nil)))) pss_nil)
    (pss_cons (ps_if (pt_cmpR op_eq (pv 1) pe_str (nomark _)) (pss_one (ps_ret (pe_tup (pa_cons (pv 2) (pa_cons (pe_callTy call_tuple_of rfl B.tuple bt_tuple (pa_cons (pe_comp (own := ["part"]) (F := []) ⟨rfl, by with_unfolding_all rfl, by with_unfolding_all rfl, by with_unfolding_all rfl, .nil⟩ rfl (pi_list (pv 0)) (fun _ _ _ _ => pg_name (i := 0) (by show (compN ["part"] []).Nodup; decide +kernel) rfl (Or.inl rfl)) (fun _ _ _ _ => pts_nil) (fun _ _ _ _ => (pe_cd Grank hr (by omega) rfl (pa_cons (pv 0) pa_nil)))) pa_nil)) pa_nil))))) pss_nil)
    (pss_cons (ps_if (pt_cmpR op_eq (pv 1) pe_str (nomark _)) (pss_one (ps_ret (pe_tup (pa_cons (pv 2) (pa_cons (pe_callTy call_tuple_of rfl B.tuple bt_tuple (pa_cons (pe_comp (own := ["name"]) (F := [("thing", 0)]) ⟨rfl, by with_unfolding_all rfl, by with_unfolding_all rfl, by with_unfolding_all rfl, (.cons rfl rfl rfl .nil)⟩ rfl (pi_list (pe_callB (call_sorted_d rfl) rfl B.sorted bt_sorted (pa_cons (pv 0) pa_nil))) (fun _ _ _ _ => pg_name (i := 0) (by show (compN ["name"] [("thing", 0)]).Nodup; decide +kernel) rfl (Or.inl rfl)) (fun _ _ _ _ => pts_nil) (fun _ _ _ _ => (pe_tup (pa_cons (pv 0) (pa_cons (pe_cd Grank hr (by omega) rfl (pa_cons (pe_dget hu (pv 1) (pv 0) (fun _ _ => rfl)) pa_nil)) pa_nil))))) pa_nil)) pa_nil))))) pss_nil)
    (pss_one (ps_ret (pe_tup (pa_cons (pv 2) (pa_cons (pv 0) pa_nil)))))))))), ?_⟩
  rw [show start ["thing", "kind", "place"] [v] = [some v, none, none] from rfl]
  walk_at "rd2"
  cases t with
  | non =>
    refine ⟨v, _, rfl, hv.ty, fun H1 g1 => ?_⟩
    rw [show kindV (tyT T.non) = .str "nothing" from by decide +kernel]
    refine ⟨hG.ty, ka, wordsS, "nothing", 0, rfl, rfl, hG.sq, rfl, fun i h => absurd h (Nat.not_lt_zero i), rfl, iP rfl fun p hp => ?_⟩
    refine q _ _ (g1.trans (same_new hp _)) ?_
    rw [canon, rk]
    exact ⟨p, _, rfl, upd_same, _, _, rfl, rfl, rfl⟩
  | bl b =>
    refine ⟨v, _, rfl, hv.ty, fun H1 g1 => ?_⟩
    rw [show kindV (tyT (T.bl b)) = .str "truth" from by show kindV "bool" = _; decide +kernel]
    refine ⟨hG.ty, ka, wordsS, "truth", 1, rfl, rfl, hG.sq, rfl, by decide +kernel, rfl, iN (by decide +kernel) ⟨rfl, iN (by decide +kernel) ⟨rfl, iN (by decide +kernel) fun p hp => ?_⟩⟩⟩
    cases (show v = _ from hv)
    refine q _ _ (g1.trans (same_new hp _)) ?_
    rw [canon, rk]
    exact ⟨p, _, rfl, upd_same, _, _, rfl, rfl, _, _, rfl, rfl, rfl⟩
  | int b =>
    refine ⟨v, _, rfl, hv.ty, fun H1 g1 => ?_⟩
    rw [show kindV (tyT (T.int b)) = .str "number" from by show kindV "int" = _; decide +kernel]
    refine ⟨hG.ty, ka, wordsS, "number", 2, rfl, rfl, hG.sq, rfl, by decide +kernel, rfl, iN (by decide +kernel) ⟨rfl, iN (by decide +kernel) ⟨rfl, iN (by decide +kernel) fun p hp => ?_⟩⟩⟩
    cases (show v = _ from hv)
    refine q _ _ (g1.trans (same_new hp _)) ?_
    rw [canon, rk]
    exact ⟨p, _, rfl, upd_same, _, _, rfl, rfl, _, _, rfl, rfl, rfl⟩
  | str b =>
    refine ⟨v, _, rfl, hv.ty, fun H1 g1 => ?_⟩
    rw [show kindV (tyT (T.str b)) = .str "text" from by show kindV "str" = _; decide +kernel]
    refine ⟨hG.ty, ka, wordsS, "text", 3, rfl, rfl, hG.sq, rfl, by decide +kernel, rfl, iN (by decide +kernel) ⟨rfl, iN (by decide +kernel) ⟨rfl, iN (by decide +kernel) fun p hp => ?_⟩⟩⟩
    cases (show v = _ from hv)
    refine q _ _ (g1.trans (same_new hp _)) ?_
    rw [canon, rk]
    exact ⟨p, _, rfl, upd_same, _, _, rfl, rfl, _, _, rfl, rfl, rfl⟩
  | lst us =>
    refine ⟨v, _, rfl, hv.ty, fun H1 g1 => ?_⟩
    rw [show kindV (tyT (T.lst us)) = .str "row" from by show kindV "list" = _; decide +kernel]
    refine ⟨hG.ty, ka, wordsS, "row", 4, rfl, rfl, hG.sq, rfl, by decide +kernel, rfl, iN (by decide +kernel) ⟨rfl, iP rfl ?_⟩⟩
    obtain ⟨a, xs, rfl, ha, hx⟩ := hv
    have hd' : T.deps us + 1 < n + 1 := hd
    have hxl := hx.length
    have hfl := hf.1
    refine ⟨a, rfl, ⟨_, SqL.of (g1 _ _ ha)⟩, comp_list (K := K) (xs := xs) (fun i zs H' => Same H1 H' ∧ Reps H' zs ((us.take i).map fun t => rk (canon t))) ?_ ⟨Same.refl _, rfl⟩ (fun i zs H' _ h => SqL.of (h.1 _ _ (g1 _ _ ha))) ?_ ?_⟩
    · rw [sizeLine_eq]; omega
    · rintro i u zs H' hu' _ ⟨g, hR⟩
      obtain ⟨t', ht', hr'⟩ := hx.get hu'
      have hm := List.mem_of_getElem? ht'
      have d1 := T.deps_le hm
      walk_at "rd2"
      refine ⟨u, t', rfl, Rep.same (g1.trans g) u t' hr', T.fews_mem hf.2 hm, by omega, fun r H4 g4 hr4 => ⟨g.trans g4, ?_⟩⟩
      rw [take_succ_of ht', List.map_append]
      exact Reps.snoc hr4 (Reps.same g4 _ _ hR)
    · rintro zs H' _ ⟨g, hR⟩ p hp'
      rw [hxl, List.take_length] at hR
      refine ⟨p, rfl, zs, .inl ⟨SqL.of upd_same, fun l hl p2 hp2 => ?_⟩⟩
      refine q _ _ (g1.trans (g.trans ((same_new hp' _).trans ((same_new hl _).trans (same_new hp2 _))))) ?_
      rw [rk_lst]
      exact ⟨p2, _, rfl, upd_same, _, _, rfl, rfl, _, _, rfl, ⟨l, zs, rfl, same_new hp2 _ _ _ upd_same, Reps.same ((same_new hp' _).trans ((same_new hl _).trans (same_new hp2 _))) _ _ hR⟩, rfl⟩
  | dic ks us =>
    refine ⟨v, _, rfl, hv.ty, fun H1 g1 => ?_⟩
    rw [show kindV (tyT (T.dic ks us)) = .str "record" from by show kindV "dict" = _; decide +kernel]
    refine ⟨hG.ty, ka, wordsS, "record", 5, rfl, rfl, hG.sq, rfl, by decide +kernel, rfl, iN (by decide +kernel) ⟨rfl, iN (by decide +kernel) ⟨rfl, iP rfl ?_⟩⟩⟩
    obtain ⟨a, ps, rfl, ha, hk, hx⟩ := hv
    obtain ⟨nk, h64, hle, hf⟩ := hf
    have hd' : T.deps us + 1 < n + 1 := hd
    refine ⟨a, rfl, ps, .inl (g1 _ _ ha), ks.map tx, by rw [hk, List.map_map]; rfl, by rw [List.length_map]; exact h64, fun l ss hl hp1 hs1 => ⟨⟨_, SqL.of upd_same⟩, ?_⟩⟩
    have es := sorted_names hp1 hs1
    have hlen : (ss.map V.str).length = (sortK ks).length := by rw [es, List.length_map, List.length_map]
    have hlk : (sortK ks).length = ks.length := (sortK_perm ks).length_eq
    have g0 : Same H (upd H1 l (.lst (ss.map V.str))) := g1.trans (same_new hl _)
    have hll : upd H1 l (.lst (ss.map V.str)) l = some (.lst (ss.map V.str)) := upd_same
    generalize upd H1 l (.lst (ss.map V.str)) = H2 at g0 hll ⊢
    refine comp_list (K := K) (xs := ss.map V.str) (fun i zs H' => Same H2 H' ∧ Reps H' zs (((sortK ks).take i).map fun k => T.tup [.str k, rk (canon (lookT k ks us))])) ?_ ⟨Same.refl _, rfl⟩ (fun i zs H' _ h => SqL.of (h.1 _ _ hll)) ?_ ?_
    · rw [sizeLine_eq, hlen]; omega
    · rintro i y zs H' hy _ ⟨g, hR⟩
      rw [es, List.map_map, List.getElem?_map] at hy
      cases hki : (sortK ks)[i]? with
      | none => rw [hki] at hy; cases hy
      | some k =>
        rw [hki] at hy
        have ey : V.str (tx k) = y := Option.some.inj hy
        subst ey
        have gg := g0.trans g
        have hmk := mem_sortK.mp (List.mem_of_getElem? hki)
        have hm := lookT_mem hmk hle
        have d1 := T.deps_le hm
        obtain ⟨v, hv1, hv2⟩ := Rep.at_name nk hk (Reps.same gg _ _ hx) hmk
        walk_at "rd2"
        refine ⟨v, .inl ⟨ps, Sum.inr (tx k), .inl (gg _ _ ha), rfl, hv1.symm⟩, v, lookT k ks us, rfl, hv2, T.fews_mem hf hm, by omega, fun r H4 g4 hr4 p hp => ⟨(g.trans g4).trans (same_new hp _), ?_⟩⟩
        rw [take_succ_of hki, List.map_append]
        have hrep : Rep (upd H4 p (.tup [V.str (tx k), r])) (.ref p) (.tup [.str k, rk (canon (lookT k ks us))]) := ⟨p, _, rfl, upd_same, _, _, rfl, rfl, _, _, rfl, Rep.same (same_new hp _) _ _ hr4, rfl⟩
        exact Reps.snoc hrep (Reps.same (g4.trans (same_new hp _)) _ _ hR)
    · rintro zs H' _ ⟨g, hR⟩ p hp'
      rw [hlen, List.take_length] at hR
      refine ⟨p, rfl, zs, .inl ⟨SqL.of upd_same, fun l hl p2 hp2 => ?_⟩⟩
      refine q _ _ (g0.trans (g.trans ((same_new hp' _).trans ((same_new hl _).trans (same_new hp2 _))))) ?_
      rw [rk_dic]
      exact ⟨p2, _, rfl, upd_same, _, _, rfl, rfl, _, _, rfl, ⟨l, zs, rfl, same_new hp2 _ _ _ upd_same, Reps.same ((same_new hp' _).trans ((same_new hl _).trans (same_new hp2 _))) _ _ hR⟩, rfl⟩
  | tup us => exact hf.elim
theorem ok_rank0 (F : Fun K "rank" "rank" sRank f fd) : FnOk P w K mg base CX0 2 f fd ["thing"] (spRank 0) := by
  refine F.ok scRank (fun vs H Q E h => ?_) (fun cdv A outer s H vs Q E hr h => ?_)
  · obtain ⟨v, t, rfl, _⟩ := h
    rfl
  · obtain ⟨v, t, rfl, hv, hf, hd, q⟩ := h
    exact absurd hd (Nat.not_lt_zero _)
theorem rank_all {ka : Addr} (F : Fun K "rank" "rank" sRank f fd) (B : Bl2 mg) (hG : TupG K mg "KINDS" wordsS ka) (Gk : Dn P w K mg base 1 "kind_of" ["thing"] spKind) (b : Binds K fd ["thing"] []) (kp : PySem.W.keepIn K (.ref f) = true) (m : mg "rank" = some (.ref f)) :
    ∀ n : Nat, FnOk P w K mg base CX0 (2 + n) f fd ["thing"] (spRank n)
  | 0 => ok_rank0 F
  | n + 1 => ok_rankS F B hG Gk ⟨_, _, rank_all F B hG Gk b kp m n, b, kp, m⟩
def nameV : V → Bool
  | .str x => okName (ts x)
  | _ => false
def spGood : Sp := fun vs H Q _ => ∃ (v : V) (t : String), vs = [v] ∧ tyS H v = some t ∧ (∀ x, v = .str x → x.length ≤ 1000) ∧ ∀ H', Same H H' → Q (.bl (nameV v)) H'
theorem not_str {H : Hp} {v : V} {t : String} (ht : tyS H v = some t) (h : isSub t "str" = false) : nameV v = false := by
  cases v with
  | str x => cases ht; exact absurd h (by decide)
  | _ => rfl
theorem str_of {H : Hp} {v : V} {t : String} (ht : tyS H v = some t) (h : ¬ isSub t "str" = false) : ∃ x, v = .str x := by
  cases v with
  | str x => exact ⟨x, rfl⟩
  | ref a =>
    have h' : (match H a with | some (.lst _) => some "list" | some (.tup _) => some "tuple" | some (.dK _) => some "dict" | _ => none) = some t := ht
    split at h' <;> first | (cases h'; exact absurd (by decide) h) | cases h'
  | non => cases ht; exact absurd (by decide) h
  | bl b => cases ht; exact absurd (by decide) h
  | int b => cases ht; exact absurd (by decide) h
  | byt b => cases ht
  | flt b => cases ht
  | ty b => cases ht
structure Ms (mg : Str → Option Value) : Prop where
  LETTERS : ∃ t, mg "LETTERS" = some (.str (Str.ofString "abcdefghijklmnopqrstuvwxyz") t)
  NAME_SIGNS : ∃ t, mg "NAME_SIGNS" = some (.str (Str.ofString "abcdefghijklmnopqrstuvwxyz0123456789") t)
  MOST_IN_NAME : ∃ t, mg "MOST_IN_NAME" = some (.int 12 t)
  MOST_IN_TEXT : ∃ t, mg "MOST_IN_TEXT" = some (.int 30 t)
  MOST_IN_ROW : ∃ t, mg "MOST_IN_ROW" = some (.int 60 t)
  MOST_IN_RECORD : ∃ t, mg "MOST_IN_RECORD" = some (.int 30 t)
  MOST_DEPTH : ∃ t, mg "MOST_DEPTH" = some (.int 8 t)
  MOST_SIZE : ∃ t, mg "MOST_SIZE" = some (.int 200 t)
abbrev sIsName : Stmt := top 10
theorem scIsName : FnScope ["thing"] ["thing"] (defScope sIsName) := ⟨rfl, rfl, rfl, by decide +kernel, rfl, by decide +kernel, by decide +kernel⟩
theorem ok_is_name (F : Fun K "is_name" "is_name" sIsName f fd) (B : Bl mg) (M : Ms mg) : FnOk P w K mg base CX0 1 f fd ["thing"] spGood := by
  refine F.ok scIsName (fun vs H Q E h => ?_) (fun cdv A outer s H vs Q E hr h => ?_)
  · obtain ⟨v, t, rfl, _⟩ := h
    rfl
  obtain ⟨v, t, rfl, ht, hl, q⟩ := h
  have nd := scIsName.nd
  refine ⟨_, (pss_cons (ps_if (PW.pt (pw_or (pt_not (pt_val (pe_callB (call_isi (T := "str") (by decide)) rfl B.isinstance bt_isinstance (pa_cons (pv 0) (pa_cons (pe_bltn (v := .ty "str") rfl B.str bt_str rfl) pa_nil))))) (pw_or1 (pt_not (pt_chain op_le op_le pe_int (pe_callB call_len_str rfl B.len bt_len (pa_cons (pv 0) pa_nil)) (pe_gi rfl M.MOST_IN_NAME)))))) (pss_one (ps_ret pe_bl)) pss_nil)
    (pss_one (ps_ret (pe_and (pe_cmpR op_in_c (pe_ix ix_str (pv 0) pe_int (fun _ _ => rfl)) (pe_gs rfl M.LETTERS) (by with_unfolding_all rfl)) (pe_one (pe_callB (call_all rfl) rfl B.all bt_all (pa_cons (pe_comp (own := ["sign"]) (F := []) ⟨rfl, by with_unfolding_all rfl, by with_unfolding_all rfl, by with_unfolding_all rfl, .nil⟩ rfl (pi_str (pv 0)) (fun _ _ _ _ => pg_name (i := 0) (by show (compN ["sign"] []).Nodup; decide +kernel) rfl (Or.inl rfl)) (fun _ _ _ _ => pts_nil) (fun _ _ _ _ => (pe_cmpR op_in_c (pv 0) (pe_gs rfl M.NAME_SIGNS) (by with_unfolding_all rfl)))) pa_nil))))))), ?_⟩
  rw [show start ["thing"] [v] = [some v] from rfl]
  walk_at "rd"
  refine ⟨t, ht, ?_⟩
  by_cases hs : isSub t "str" = false
  · rw [if_pos hs]
    have e : nameV v = false := not_str ht hs
    rw [← e]; exact q H (Same.refl H)
  · rw [if_neg hs]
    obtain ⟨x, rfl⟩ := str_of ht hs
    have hx := hl x rfl
    have hlen := ts_len x
    refine ⟨x, rfl, by omega, ?_⟩
    by_cases h1 : (1 : Int) ≤ (x.length : Int)
    · rw [if_pos h1]
      by_cases h12 : ¬ (x.length : Int) ≤ 12
      · rw [if_pos h12]
        have e : nameV (.str x) = false := by
          show okName (ts x) = false
          unfold okName
          rw [show decide ((ts x).length ≤ 12) = false from decide_eq_false (by omega)]
          simp
        rw [← e]; exact q H (Same.refl H)
      rw [if_neg h12]
      obtain ⟨c, r, hc⟩ : ∃ c r, ts x = c :: r := by
        cases e : ts x with
        | nil => rw [e] at hlen; simp at hlen; omega
        | cons c r => exact ⟨c, r, rfl⟩
      refine rIxS_i (by rw [sizeLine_eq]; omega) (c := c) (by rw [hc]; exact atI_nat (j := 0) rfl) ⟨c, rfl, ?_⟩
      have en : nameV (.str x) = (decide (c ∈ letL) && (ts x).all fun c => decide (c ∈ letL ++ figL)) := by
        show okName (ts x) = _
        unfold okName
        rw [show decide ((ts x).length ≤ 12) = true from decide_eq_true (by omega), show decide (1 ≤ (ts x).length) = true from decide_eq_true (by omega), hc]
        simp
      simp only [ts_l26]
      by_cases hcl : c ∈ letL
      · rw [if_pos hcl]
        refine ⟨x, rfl, comp_str (fun i ys H' => Same H H' ∧ ys = (((ts x).take i).map fun c => decide (c ∈ letL ++ figL)).map V.bl) (by rw [sizeLine_eq]; omega) ⟨Same.refl _, rfl⟩ ?_ ?_⟩
        · rintro i d ys H' hd _ ⟨hS, rfl⟩
          walk_at "rd"
          refine ⟨d, rfl, hS, ?_⟩
          have e : (ts x).take (i + 1) = (ts x).take i ++ [d] := by rw [List.take_add_one, hd]; rfl
          rw [e, ts_l36]
          simp only [List.map_append, List.map_cons, List.map_nil]
        · rintro ys H' hl' ⟨hS, rfl⟩ p hp
          refine ⟨p, rfl, _, SqL.of upd_same, ?_⟩
          have e : nameV (.str x) = ((((ts x).take (ts x).length).map fun c => decide (c ∈ letL ++ figL)).all id) := by
            rw [en, decide_eq_true hcl, Bool.true_and, List.take_length, List.all_map]; rfl
          rw [← e]
          exact q _ (hS.trans (same_new hp _))
      · rw [if_neg hcl]
        have e : nameV (.str x) = false := by rw [en, decide_eq_false hcl]; rfl
        rw [← e]; exact q H (Same.refl H)
    · rw [if_neg h1]
      have e : nameV (.str x) = false := by
        have : ts x = [] := List.eq_nil_of_length_eq_zero (by omega)
        show okName (ts x) = false
        rw [this]; rfl
      rw [← e]; exact q H (Same.refl H)
abbrev sSgn : Stmt := top 11
abbrev sSnd : Stmt := top 13
def spKindR : Sp := fun vs H Q _ => ∃ (v : V) (t : String), vs = [v] ∧ tyR H v = some t ∧ ∀ H', Same H H' → Q (kindV t) H'
theorem tyR_non {H : Hp} {v : V} (h : tyR H v = some "NoneType") : v = .non := by
  cases v with
  | ref a =>
    have h' : (match H a with | some (.frz _ (.dK _)) => some "dict" | _ => tyS H (.ref a)) = some "NoneType" := h
    split at h'
    · exact absurd (Option.some.inj h') (by decide)
    · exact tyS_non h'
  | non => rfl
  | bl b => exact tyS_non (H := H) (show tyS H (.bl b) = _ from h)
  | int b => exact tyS_non (H := H) (show tyS H (.int b) = _ from h)
  | str b => exact tyS_non (H := H) (show tyS H (.str b) = _ from h)
  | byt b => exact tyS_non (H := H) (show tyS H (.byt b) = _ from h)
  | flt b => exact tyS_non (H := H) (show tyS H (.flt b) = _ from h)
  | ty b => exact tyS_non (H := H) (show tyS H (.ty b) = _ from h)
theorem ok_kind_ofR (F : Fun K "kind_of" "kind_of" sKindOf f fd) (B : Bl mg) : FnOk P w K mg base CX0 1 f fd ["thing"] spKindR := by
  refine F.ok scKindOf (fun vs H Q E h => ?_) (fun cdv A outer s H vs Q E hr h => ?_)
  · obtain ⟨v, t, rfl, _⟩ := h
    rfl
  obtain ⟨v, t, rfl, ht, q⟩ := h
  have nd := scKindOf.nd
  refine ⟨_, (pss_cons (ps_if (pt_cmp (pc_isN (pv 0))) (pss_one (ps_ret pe_str)) pss_nil)
    (pss_cons (ps_if (pt_val (pe_callB (call_isiR (T := "bool") (by decide)) rfl B.isinstance bt_isinstance (pa_cons (pv 0) (pa_cons (pe_bltn (v := .ty "bool") rfl B.bool bt_bool rfl) pa_nil)))) (pss_one (ps_ret pe_str)) pss_nil)
    (pss_cons (ps_if (pt_val (pe_callB (call_isiR (T := "int") (by decide)) rfl B.isinstance bt_isinstance (pa_cons (pv 0) (pa_cons (pe_bltn (v := .ty "int") rfl B.int bt_int rfl) pa_nil)))) (pss_one (ps_ret pe_str)) pss_nil)
    (pss_cons (ps_if (pt_val (pe_callB (call_isiR (T := "str") (by decide)) rfl B.isinstance bt_isinstance (pa_cons (pv 0) (pa_cons (pe_bltn (v := .ty "str") rfl B.str bt_str rfl) pa_nil)))) (pss_one (ps_ret pe_str)) pss_nil)
    (pss_cons (ps_if (pt_val (pe_callB (call_isiR (T := "list") (by decide)) rfl B.isinstance bt_isinstance (pa_cons (pv 0) (pa_cons (pe_bltn (v := .ty "list") rfl B.list bt_list rfl) pa_nil)))) (pss_one (ps_ret pe_str)) pss_nil)
    (pss_cons (ps_if (pt_val (pe_callB (call_isiR (T := "dict") (by decide)) rfl B.isinstance bt_isinstance (pa_cons (pv 0) (pa_cons (pe_bltn (v := .ty "dict") rfl B.dict bt_dict rfl) pa_nil)))) (pss_one (ps_ret pe_str)) pss_nil)
    (pss_one (ps_ret pe_non)))))))), ?_⟩
  rw [show start ["thing"] [v] = [some v] from rfl]
  walk_at "rd2"
  have q := q H (Same.refl H)
  have hm := tyR_mem ht
  simp only [ht, Option.some.injEq, exists_eq_left']
  by_cases hv : v = .non
  · subst hv; cases ht; rw [if_pos rfl]; exact q
  · rw [if_neg hv]
    simp only [tyL, List.mem_cons, List.not_mem_nil, or_false] at hm
    rcases hm with rfl | rfl | rfl | rfl | rfl | rfl | rfl
    · exact absurd (tyR_non ht) hv
    all_goals (simpa [isSub, kindV] using q)
def spSgn : Sp := fun vs H Q _ => ∃ c : Nat, vs = [.str (tx [c])] ∧ ∀ H', Same H H' → Q (.bl (decide (c ∈ sgnL))) H'
theorem mem_sgn (c : Nat) : c ∈ sgnL ↔ 32 ≤ c ∧ c ≤ 126 ∧ c ≠ 37 := by
  unfold sgnL
  rw [List.mem_filter, List.mem_map]
  constructor
  · rintro ⟨⟨i, hi, rfl⟩, h⟩
    have := List.mem_range.mp hi
    simp at h
    omega
  · rintro ⟨h1, h2, h3⟩
    exact ⟨⟨c - 32, List.mem_range.mpr (by omega), by omega⟩, by simp [h3]⟩
theorem scSgn : FnScope ["sign"] ["sign"] (defScope sSgn) := ⟨rfl, rfl, rfl, by decide +kernel, rfl, by decide +kernel, by decide +kernel⟩
theorem ok_sgn (F : Fun K "is_text_sign" "is_text_sign" sSgn f fd) (B : Bl5 mg) : FnOk P w K mg base CX0 1 f fd ["sign"] spSgn := by
  refine F.ok scSgn (fun vs H Q E h => ?_) (fun cdv A outer s H vs Q E hr h => ?_)
  · obtain ⟨c, rfl, _⟩ := h
    rfl
  obtain ⟨c, rfl, q⟩ := h
  have nd := scSgn.nd
  refine ⟨_, (pss_one (ps_ret (pe_and (pe_chain op_le_str op_le_str pe_str (pv 0) pe_str) (pe_one (pe_cmpR op_ne (pe_callB call_ord rfl B.ord bt_ord (pa_cons (pv 0) pa_nil)) pe_int (nomark _)))))), ?_⟩
  rw [show start ["sign"] [.str (tx [c])] = [some (.str (tx [c]))] from rfl]
  walk_at "rd2"
  have e1 : ts (Str.ofString " ") = [32] := by decide +kernel
  have e2 : ts (Str.ofString "~") = [126] := by decide +kernel
  have e3 : ts (tx [c]) = [c] := rfl
  have e4 : (↑((#[c] : Array Nat).getD 0 0) : Int) = (c : Int) := rfl
  have l1 : ∀ a b : Nat, ([a] : List Nat) < [b] ↔ a < b := fun a b => by
    constructor
    · intro h
      cases h with
      | rel h => exact h
      | cons h => cases h
    · exact fun h => .rel h
  have z := q H (Same.refl H)
  rw [e1, e2, e3, e4]
  by_cases c1 : c < 32
  · refine ⟨false, by rw [decide_eq_true ((l1 _ _).mpr c1)]; rfl, iteF ?_⟩
    rw [decide_eq_false (fun h => by have := (mem_sgn c).mp h; omega)] at z
    exact z
  · refine ⟨true, by rw [decide_eq_false (fun h => c1 ((l1 _ _).mp h))]; rfl, iteT ?_⟩
    by_cases c2 : 126 < c
    · refine ⟨false, by rw [decide_eq_true ((l1 _ _).mpr c2)]; rfl, iteF ?_⟩
      rw [decide_eq_false (fun h => by have := (mem_sgn c).mp h; omega)] at z
      exact z
    · refine ⟨true, by rw [decide_eq_false (fun h => c2 ((l1 _ _).mp h))]; rfl, iteT ⟨rfl, ?_⟩⟩
      have e : decide (c ∈ sgnL) = !decide ((c : Int) = 37) := by
        rw [Bool.eq_iff_iff, decide_eq_true_iff, mem_sgn]
        simp
        omega
      rw [e] at z
      exact z
def tyK : Key → String
  | .inl _ => "int"
  | .inr _ => "str"
theorem tyK_of {H : Hp} : ∀ k : Key, tyS H (kV k) = some (tyK k)
  | .inl _ => rfl
  | .inr _ => rfl
theorem kV_inr {k : Key} {x : Str} (h : kV k = .str x) : k = Sum.inr x := by
  cases k with
  | inl i => cases h
  | inr y => cases h; rfl
def leafOk : V → Bool
  | .non => true
  | .bl _ => true
  | .int i => decide (-(10 ^ 12) ≤ i ∧ i ≤ 10 ^ 12)
  | .str x => decide (x.length ≤ 30) && (ts x).all fun c => decide (c ∈ sgnL)
  | _ => false
def soundU : U → Bool
  | .leaf v => leafOk v
  | .lst us => decide (us.length ≤ 60)
  | .dic ks _ => decide (ks.length ≤ 30) && ks.all fun k => nameV (kV k)
def spSnd : Sp := fun vs H Q _ => ∃ (v : V) (u : U), vs = [v] ∧ Ru H v u ∧ U.ok u ∧ U.sz u ≤ 1000 ∧ ∀ H', Same H H' → Q (.bl (soundU u)) H'
theorem scSnd : FnScope ["thing", "kind"] ["thing"] (defScope sSnd) := ⟨rfl, rfl, rfl, by decide +kernel, rfl, by decide +kernel, by decide +kernel⟩
theorem ok_snd (F : Fun K "is_sound_outside" "is_sound_outside" sSnd f fd) (B : Bl5 mg) (M : Ms mg) (Gkind_of : Dn P w K mg base 1 "kind_of" ["thing"] spKindR) (Gis_text_sign : Dn P w K mg base 1 "is_text_sign" ["sign"] spSgn) (Gis_name : Dn P w K mg base 1 "is_name" ["thing"] spGood) : FnOk P w K mg base CX0 2 f fd ["thing"] spSnd := by
  refine F.ok scSnd (fun vs H Q E h => ?_) (fun cdv A outer s H vs Q E hr h => ?_)
  · obtain ⟨v, u, rfl, _⟩ := h
    rfl
  obtain ⟨v, u, rfl, hv, hok, hz, q⟩ := h
  have nd := scSnd.nd
  refine ⟨_, (pss_cons (ps_set (i := 1) nd rfl (Or.inl rfl) (pe_cd Gkind_of hr (by omega) rfl (pa_cons (pv 0) pa_nil)))
    (pss_cons (ps_if (pt_cmpR op_eq (pv 1) pe_str (nomark _)) (pss_one (ps_ret (pe_cmpR op_le (pe_callB call_abs rfl B.abs bt_abs (pa_cons (pv 0) pa_nil)) (pe_op op_pow pe_int pe_int) (nomark _)))) pss_nil)
    (pss_cons (ps_if (pt_cmpR op_eq (pv 1) pe_str (nomark _)) (pss_one (ps_ret (pe_and (pe_cmpR op_le (pe_callB call_len_str rfl B.len bt_len (pa_cons (pv 0) pa_nil)) (pe_gi rfl M.MOST_IN_TEXT) (nomark _)) (pe_one (pe_callB (call_all rfl) rfl B.all bt_all (pa_cons (pe_comp (own := ["sign"]) (F := []) ⟨rfl, by with_unfolding_all rfl, by with_unfolding_all rfl, by with_unfolding_all rfl, .nil⟩ rfl (pi_str (pv 0)) (fun _ _ _ _ => pg_name (i := 0) (by show (compN ["sign"] []).Nodup; decide +kernel) rfl (Or.inl rfl)) (fun _ _ _ _ => pts_nil) (fun _ _ _ _ => (pe_cd Gis_text_sign hr (by omega) rfl (pa_cons (pv 0) pa_nil)))) pa_nil)))))) pss_nil)
    (pss_cons (ps_if (pt_cmpR op_eq (pv 1) pe_str (nomark _)) (pss_one (ps_ret (pe_cmpR op_le (pe_callB call_len_l rfl B.len bt_len (pa_cons (pv 0) pa_nil)) (pe_gi rfl M.MOST_IN_ROW) (nomark _)))) pss_nil)
    (pss_cons (ps_if (pt_cmpR op_eq (pv 1) pe_str (nomark _)) (pss_one (ps_ret (pe_and (pe_cmpR op_le (pe_callB call_lenR rfl B.len bt_len (pa_cons (pv 0) pa_nil)) (pe_gi rfl M.MOST_IN_RECORD) (nomark _)) (pe_one (pe_callB (call_all rfl) rfl B.all bt_all (pa_cons (pe_thaw (pe_comp (own := ["name"]) (F := []) ⟨rfl, by with_unfolding_all rfl, by with_unfolding_all rfl, by with_unfolding_all rfl, .nil⟩ rfl (pi_dict (pv 0)) (fun _ _ _ _ => pg_name (i := 0) (by show (compN ["name"] []).Nodup; decide +kernel) rfl (Or.inl rfl)) (fun _ _ _ _ => pts_nil) (fun _ _ _ _ => (pe_cd Gis_name hr (by omega) rfl (pa_cons (pv 0) pa_nil))))) pa_nil)))))) pss_nil)
    (pss_one (ps_ret (pe_cmp (pc_notN (pv 1)))))))))), ?_⟩
  rw [show start ["thing", "kind"] [v] = [some v, none] from rfl]
  walk_at "rd2"
  refine ⟨v, _, rfl, hv.ty, fun H1 g1 => ?_⟩
  have hv := hv.same g1
  cases u with
  | lst us =>
    rw [show kindV (tyU (U.lst us)) = .str "row" from by show kindV "list" = _; decide +kernel]
    obtain ⟨a, vs, rfl, ha, hs⟩ := hv
    have hl := hs.length
    refine ⟨rfl, iN (by decide +kernel) ⟨rfl, iN (by decide +kernel) ⟨rfl, iP rfl ⟨a, rfl, vs, SqL.of ha, ?_⟩⟩⟩⟩
    have z := q _ g1
    rw [show soundU (.lst us) = decide ((vs.length : Int) ≤ 60) from by show decide _ = _; rw [decide_eq_decide, hl]; omega] at z
    exact z
  | dic ks us =>
    rw [show kindV (tyU (U.dic ks us)) = .str "record" from by show kindV "dict" = _; decide +kernel]
    obtain ⟨a, ps, rfl, ha, hk, hs⟩ := hv
    obtain ⟨nk, hle, hsh, hok⟩ := hok
    have hpl : ps.length = ks.length := by have := congrArg List.length hk; simpa using this
    have hul := U.szs_len us
    have hz' : U.szs us + 1 ≤ 1000 := hz
    refine ⟨rfl, iN (by decide +kernel) ⟨rfl, iN (by decide +kernel) ⟨rfl, iN (by decide +kernel) ⟨rfl, iP rfl ⟨a, rfl, ps, ha, ?_⟩⟩⟩⟩⟩
    by_cases h30 : ks.length ≤ 30
    · rw [if_pos (by rw [hpl]; omega)]
      refine ⟨a, rfl, ps, ?_⟩
      have body : ∀ (o : Obj) (H2 : Hp) (th : Hp → Hp), H2 a = some (.frz o (.dK ps)) → (∀ H', Same H2 H' → ∀ p xs, H' p = some (.lst xs) → th H' p = some (.lst xs)) → (∀ H', Same H2 H' → Same H1 (th H')) →
          CompBody [Str.ofString "name"] [] (gName 0) tTrue (tCall spGood [] E0 (tCons (tVar 0) tNil)) [some (V.ref a), some (V.str (Str.ofString "record"))]
            (fun v H'_1 => ∃ p, v = V.ref p ∧ ∃ x, SqL K (th H'_1) p (List.map V.bl x) ∧ Q (V.bl (x.all id)) (th H'_1)) (Itd a o ps) H2 := by
        intro o H2 th ha2 hth hgth
        refine comp_dict (fun i zs H' => Same H2 H' ∧ zs = ((ks.take i).map fun k => nameV (kV k)).map V.bl) (by rw [sizeLine_eq]; omega) ⟨Same.refl _, rfl⟩ (fun i zs H' h => h.1 _ _ ha2) ?_ ?_
        · rintro i kv zs H' hkv _ ⟨g, rfl⟩
          have hki : ks[i]? = some kv.1 := by rw [← hk, List.getElem?_map, hkv]; rfl
          have hmk := List.mem_of_getElem? hki
          walk_at "rd2"
          refine ⟨kV kv.1, tyK kv.1, rfl, tyK_of kv.1, fun x e => ?_, fun H3 g3 => ⟨g.trans g3, ?_⟩⟩
          · refine hsh x ?_
            rw [← kV_inr e]; exact hmk
          · rw [take_succ_of hki, List.map_append, List.map_append]; rfl
        · rintro zs H' _ ⟨g, rfl⟩ p hp
          have g2 := g.trans (same_new hp (.lst (List.map V.bl ((ks.take ps.length).map fun k => nameV (kV k)))))
          refine ⟨p, rfl, _, SqL.of (hth _ g2 p _ upd_same), ?_⟩
          have z := q _ (g1.trans (hgth _ g2))
          rw [hpl, List.take_length] at z ⊢
          rw [show soundU (.dic ks us) = (ks.map fun k => nameV (kV k)).all id from by
            show (decide _ && _) = _
            rw [decide_eq_true h30, Bool.true_and, List.all_map]; rfl] at z
          exact z
      rcases ha with ha | ⟨o, ha⟩
      · exact .inl ⟨ha, fun o => body o _ (thaw H1) upd_same (fun H' g p xs e => thaw_of e (by intro o v z; cases z)) fun H' g => thaw_walk (o := o) ha g⟩
      · exact .inr ⟨o, ha, body o H1 (thaw H1) ha (fun H' g p xs e => thaw_of e (by intro o v z; cases z)) fun H' g => thaw_same fun b u e => .inl (g b u e)⟩
    · rw [if_neg (by rw [hpl]; omega)]
      have z := q _ g1
      rw [show soundU (.dic ks us) = false from by show (decide _ && _) = _; rw [decide_eq_false h30]; rfl] at z
      exact z
  | leaf x =>
    obtain ⟨rfl, hx⟩ := hv
    have z := q _ g1
    cases v with
    | non =>
      rw [show kindV (tyU (U.leaf .non)) = .str "nothing" from by decide +kernel]
      exact ⟨rfl, iN (by decide +kernel) ⟨rfl, iN (by decide +kernel) ⟨rfl, iN (by decide +kernel) ⟨rfl, iN (by decide +kernel) z⟩⟩⟩⟩
    | bl b =>
      rw [show kindV (tyU (U.leaf (.bl b))) = .str "truth" from by show kindV "bool" = _; decide +kernel]
      exact ⟨rfl, iN (by decide +kernel) ⟨rfl, iN (by decide +kernel) ⟨rfl, iN (by decide +kernel) ⟨rfl, iN (by decide +kernel) z⟩⟩⟩⟩
    | int i =>
      rw [show kindV (tyU (U.leaf (.int i))) = .str "number" from by show kindV "int" = _; decide +kernel]
      refine ⟨rfl, iP rfl ⟨i, rfl, ?_⟩⟩
      rw [show soundU (.leaf (.int i)) = decide ((if i < 0 then -i else i) ≤ 1000000000000) from by
        show decide _ = _
        rw [decide_eq_decide]
        split <;> omega] at z
      exact z
    | str x =>
      rw [show kindV (tyU (U.leaf (.str x))) = .str "text" from by show kindV "str" = _; decide +kernel]
      have hx1 := hok x rfl
      have hlen := ts_len x
      refine ⟨rfl, iN (by decide +kernel) ⟨rfl, iP rfl ⟨x, rfl, by omega, ?_⟩⟩⟩
      by_cases h30 : x.length ≤ 30
      · rw [if_pos (by omega)]
        refine ⟨x, rfl, comp_str (fun i ys H' => Same H1 H' ∧ ys = (((ts x).take i).map fun c => decide (c ∈ sgnL)).map V.bl) (by rw [sizeLine_eq]; omega) ⟨Same.refl _, rfl⟩ ?_ ?_⟩
        · rintro i d ys H' hd _ ⟨hS, rfl⟩
          walk_at "rd2"
          refine ⟨d, rfl, fun H3 g3 => ⟨hS.trans g3, ?_⟩⟩
          have e : (ts x).take (i + 1) = (ts x).take i ++ [d] := by rw [List.take_add_one, hd]; rfl
          rw [e]
          simp only [List.map_append, List.map_cons, List.map_nil]
        · rintro ys H' hl' ⟨hS, rfl⟩ p hp
          refine ⟨p, rfl, _, SqL.of upd_same, ?_⟩
          have z := q _ (g1.trans (hS.trans (same_new hp (.lst ((((ts x).take (ts x).length).map fun c => decide (c ∈ sgnL)).map V.bl)))))
          rw [List.take_length] at z ⊢
          rw [show soundU (.leaf (.str x)) = ((ts x).map fun c => decide (c ∈ sgnL)).all id from by
            show (decide _ && _) = _
            rw [decide_eq_true h30, Bool.true_and, List.all_map]; rfl] at z
          exact z
      · rw [if_neg (by omega)]
        rw [show soundU (.leaf (.str x)) = false from by show (decide _ && _) = _; rw [decide_eq_false h30]; rfl] at z
        exact z
    | ref a =>
      rw [show kindV (tyU (U.leaf (.ref a))) = .non from by show kindV "tuple" = _; decide +kernel]
      exact ⟨rfl, iN (by decide +kernel) ⟨rfl, iN (by decide +kernel) ⟨rfl, iN (by decide +kernel) ⟨rfl, iN (by decide +kernel) z⟩⟩⟩⟩
    | byt b => rcases hx with h | ⟨a, xs, h, _⟩ <;> cases h
    | flt b => rcases hx with h | ⟨a, xs, h, _⟩ <;> cases h
    | ty b => rcases hx with h | ⟨a, xs, h, _⟩ <;> cases h
abbrev sHp : Stmt := top 14
abbrev sPo : Stmt := top 15
abbrev sPa : Stmt := top 16
abbrev sTh : Stmt := top 12
def kids : U → List U
  | .lst us => us
  | .dic _ us => us
  | .leaf _ => []
def isH : U → Bool
  | .leaf _ => false
  | _ => true
def nextU (us : List U) : List U := (us.map kids).flatten
def spHp : Sp := fun vs H Q _ => ∃ (v : V) (u : U), vs = [v] ∧ Ru H v u ∧ ∀ H', Same H H' → Q (.bl (isH u)) H'
theorem ty_hold : ∀ u : U, (isSub (tyU u) "list" || isSub (tyU u) "dict") = isH u
  | .leaf .non => by decide +kernel
  | .leaf (.bl _) => by show (isSub "bool" "list" || isSub "bool" "dict") = false; decide +kernel
  | .leaf (.int _) => by show (isSub "int" "list" || isSub "int" "dict") = false; decide +kernel
  | .leaf (.str _) => by show (isSub "str" "list" || isSub "str" "dict") = false; decide +kernel
  | .leaf (.byt _) => by show (isSub "tuple" "list" || isSub "tuple" "dict") = false; decide +kernel
  | .leaf (.flt _) => by show (isSub "tuple" "list" || isSub "tuple" "dict") = false; decide +kernel
  | .leaf (.ref _) => by show (isSub "tuple" "list" || isSub "tuple" "dict") = false; decide +kernel
  | .leaf (.ty _) => by show (isSub "tuple" "list" || isSub "tuple" "dict") = false; decide +kernel
  | .lst _ => by show (isSub "list" "list" || isSub "list" "dict") = true; decide +kernel
  | .dic _ _ => by show (isSub "dict" "list" || isSub "dict" "dict") = true; decide +kernel
theorem scHp : FnScope ["thing"] ["thing"] (defScope sHp) := ⟨rfl, rfl, rfl, by decide +kernel, rfl, by decide +kernel, by decide +kernel⟩
theorem ok_hp (F : Fun K "holds_parts" "holds_parts" sHp f fd) (B : Bl mg) : FnOk P w K mg base CX0 1 f fd ["thing"] spHp := by
  refine F.ok scHp (fun vs H Q E h => ?_) (fun cdv A outer s H vs Q E hr h => ?_)
  · obtain ⟨v, u, rfl, _⟩ := h
    rfl
  obtain ⟨v, u, rfl, hv, q⟩ := h
  have nd := scHp.nd
  refine ⟨_, (pss_one (ps_ret (pe_callB (call_isi2R (T := "list") (W := "dict") (by decide) (by decide)) rfl B.isinstance bt_isinstance (pa_cons (pv 0) (pa_cons (pe_tup (pa_cons (pe_bltn (v := .ty "list") rfl B.list bt_list rfl) (pa_cons (pe_bltn (v := .ty "dict") rfl B.dict bt_dict rfl) pa_nil))) pa_nil))))), ?_⟩
  rw [show start ["thing"] [v] = [some v] from rfl]
  walk_at "rd2"
  intro p hp
  have g := same_new hp (.tup [V.ty "list", V.ty "dict"])
  refine ⟨v, tyU u, p, ⟨rfl, rfl⟩, upd_same, (hv.same g).ty, ?_⟩
  have z := q _ g
  rw [← ty_hold] at z
  exact z
def spPo : Sp := fun vs H Q _ => ∃ (H0 : Hp) (v : V) (u : U), vs = [v] ∧ Same H0 H ∧ Ru H0 v u ∧ isH u = true ∧ ∀ l ys H', Same H H' → H' l = some (.lst ys) → Rus H0 ys (kids u) → Q (.ref l) H'
theorem scPo : FnScope ["thing"] ["thing"] (defScope sPo) := ⟨rfl, rfl, rfl, by decide +kernel, rfl, by decide +kernel, by decide +kernel⟩
theorem ok_po (F : Fun K "parts_of" "parts_of" sPo f fd) (B : Bl mg) : FnOk P w K mg base CX0 1 f fd ["thing"] spPo := by
  refine F.ok scPo (fun vs H Q E h => ?_) (fun cdv A outer s H vs Q E hr h => ?_)
  · obtain ⟨H0, v, u, rfl, _⟩ := h
    rfl
  obtain ⟨H0, v, u, rfl, g0, hv, hh, q⟩ := h
  have nd := scPo.nd
  refine ⟨_, (pss_cons (ps_if (pt_val (pe_callB (call_isiR (T := "dict") (by decide)) rfl B.isinstance bt_isinstance (pa_cons (pv 0) (pa_cons (pe_bltn (v := .ty "dict") rfl B.dict bt_dict rfl) pa_nil)))) (pss_one (ps_ret (pe_callTy (call_list_v rfl) rfl B.list bt_list (pa_cons (pe_bmR PySem.F.plainAttrs_dict PySem.F.slot_dict_values PySem.F.type_dict_values mt_values (pv 0)) pa_nil)))) pss_nil)
    (pss_one (ps_ret (pe_callTy call_list_of rfl B.list bt_list (pa_cons (pv 0) pa_nil))))), ?_⟩
  rw [show start ["thing"] [v] = [some v] from rfl]
  walk_at "rd2"
  cases u with
  | leaf _ => cases hh
  | lst us =>
    have hty : tyR H v = some "list" := (hv.same g0).ty
    obtain ⟨a, xs, rfl, ha, hs⟩ := hv
    exact ⟨"list", hty, iN (by decide +kernel) ⟨a, rfl, xs, .inl (SqL.of (g0 _ _ ha)), fun l hl => q l xs _ (same_new hl _) upd_same hs⟩⟩
  | dic ks us =>
    have hty : tyR H v = some "dict" := (hv.same g0).ty
    obtain ⟨a, ps, rfl, ha, hk, hs⟩ := hv
    refine ⟨"dict", hty, iP (by decide +kernel) ?_⟩
    have ha := ha.same g0
    refine ⟨.ref a, rfl, ⟨a, ps, rfl, ha⟩, a, ps, rfl, rfl, ha, fun p hp => ?_⟩
    have g := same_new hp (valsO p a)
    exact ⟨p, rfl, a, upd_same, ps, ha.same g, fun l hl => q l _ _ (g.trans (same_new hl _)) upd_same hs⟩
def spPa : Sp := fun vs H Q _ => ∃ (a : Addr) (xs : List V) (us : List U), vs = [.ref a] ∧ H a = some (.lst xs) ∧ Rus H xs us ∧ (∀ u ∈ us, isH u = true) ∧ U.szs us ≤ 10000 ∧ ∀ l ys H', Same H H' → H' l = some (.lst ys) → Rus H' ys (nextU us) → Q (.ref l) H'
theorem nextU_snoc (us : List U) (u : U) : nextU (us ++ [u]) = nextU us ++ kids u := by simp [nextU]
theorem kids_sz : ∀ u : U, U.szs (kids u) + 1 = U.sz u ∨ kids u = []
  | .leaf _ => .inr rfl
  | .lst _ => .inl rfl
  | .dic _ _ => .inl rfl
theorem next_len : ∀ us : List U, (nextU us).length ≤ U.szs us
  | [] => Nat.le_refl _
  | u :: us => by
    have := next_len us
    have e : nextU (u :: us) = kids u ++ nextU us := rfl
    rw [e, List.length_append]
    show _ ≤ U.sz u + U.szs us
    have h1 := U.szs_len (kids u)
    rcases kids_sz u with h | h
    · omega
    · rw [h]; simp only [List.length_nil]; omega
theorem scPa : FnScope ["holders", "parts", "holder"] ["holders"] (defScope sPa) := ⟨rfl, rfl, rfl, by decide +kernel, rfl, by decide +kernel, by decide +kernel⟩
theorem ok_pa (F : Fun K "parts_of_all" "parts_of_all" sPa f fd) (B : Bl mg) (Gparts_of : Dn P w K mg base 1 "parts_of" ["thing"] spPo) : FnOk P w K mg base CX0 2 f fd ["holders"] spPa := by
  refine F.ok scPa (fun vs H Q E h => ?_) (fun cdv A outer s H vs Q E hr h => ?_)
  · obtain ⟨a, xs, us, rfl, _⟩ := h
    rfl
  obtain ⟨a, xs, us, rfl, ha, hs, hh, hz, q⟩ := h
  have nd := scPa.nd
  refine ⟨_, (pss_cons (ps_set (i := 1) nd rfl (Or.inl rfl) (pe_lst pa_nil))
    (pss_cons (ps_for PassesOwn.never rfl (pi_list (pv 0)) (pg_name (i := 2) nd rfl (Or.inl rfl)) (pss_one (ps_expr (pe_bm PySem.F.plainAttrs_list PySem.F.slot_list_extend PySem.F.type_list_extend mt_extend (pv 1) (pa_cons (pe_cd Gparts_of hr (by omega) rfl (pa_cons (pv 2) pa_nil)) pa_nil)))))
    (pss_one (ps_ret (pv 1))))), ?_⟩
  rw [show start ["holders", "parts", "holder"] [.ref a] = [some (.ref a), none, none] from rfl]
  walk_at "rd2"
  intro p hp
  have g0 := same_new hp (.lst [])
  have hpa : p ≠ a := fun z => by rw [z, ha] at hp; cases hp
  refine ⟨⟨_, SqL.of (g0 _ _ ha)⟩, ?_⟩
  refine forB_list (K := K) (a := a) (xs := xs) (fun i σ H2 => (∃ o, σ = [some (V.ref a), some (V.ref p), o]) ∧ Same H H2 ∧ ∃ ys, H2 p = some (.lst ys) ∧ Rus H ys (nextU (us.take i))) ⟨⟨_, rfl⟩, g0, [], upd_same, rfl⟩ (fun i σ H2 _ h => SqL.of (h.2.1 _ _ ha)) ?_ ?_
  · rintro i x σ H2 hx ⟨⟨o, rfl⟩, g, ys, hp2, hR⟩
    obtain ⟨u, hu, hr'⟩ := hs.get hx
    have hm := List.mem_of_getElem? hu
    walk_at "rd2"
    refine ⟨Or.inl ⟨rfl, _, SqL.of hp2⟩, H, x, u, rfl, g, hr', hh u hm, fun l zs H3 g3 hl hZ => ?_⟩
    have h1 := hR.length
    have h2 := hZ.length
    have h3 := next_len (us.take (i + 1))
    have h4 : U.szs (us.take (i + 1)) ≤ U.szs us := by
      conv => rhs; rw [← List.take_append_drop (i + 1) us]
      rw [U.szs_append]; omega
    have e := nextU_snoc (us.take i) u
    rw [← take_succ_of hu] at e
    have h5 := congrArg List.length e
    rw [List.length_append] at h5
    refine ⟨p, l, ys, zs, rfl, rfl, g3 _ _ hp2, hl, by rw [sizeLine_eq]; omega, ⟨_, rfl⟩, (g.trans g3).put hp _, ys ++ zs, upd_same, ?_⟩
    rw [e]
    exact Rus.append hZ hR
  · rintro σ H2 ⟨⟨o, rfl⟩, g, ys, hp2, hR⟩
    walk_at "rd2"
    have hl := hs.length
    rw [hl, List.take_length] at hR
    exact q p ys H2 g hp2 (hR.same g)
def jd : Nat → Nat → List U → Bool
  | 0, _, _ => false
  | k + 1, z, us => if 200 < z + us.length ∨ us.all soundU = false then false else if us.any isH = false then true else jd k (z + us.length) (nextU us)
theorem next_szs : ∀ us : List U, U.szs (nextU us) ≤ U.szs us
  | [] => Nat.le_refl _
  | u :: us => by
    have := next_szs us
    have e : nextU (u :: us) = kids u ++ nextU us := rfl
    rw [e, U.szs_append]
    show _ ≤ U.sz u + U.szs us
    rcases kids_sz u with h | h
    · omega
    · rw [h]; show 0 + _ ≤ _; omega
theorem next_filter : ∀ us : List U, nextU (us.filter isH) = nextU us
  | [] => rfl
  | u :: us => by
    have ih := next_filter us
    cases u with
    | leaf v => rw [List.filter_cons_of_neg (by simp [isH])]; exact ih
    | lst ws =>
      rw [List.filter_cons_of_pos rfl]
      show ws ++ nextU (us.filter isH) = ws ++ nextU us
      rw [ih]
    | dic ks ws =>
      rw [List.filter_cons_of_pos rfl]
      show ws ++ nextU (us.filter isH) = ws ++ nextU us
      rw [ih]
theorem next_oks : ∀ {us : List U}, U.oks us → U.oks (nextU us)
  | [], _ => True.intro
  | u :: us, h => by
    have ih := next_oks h.2
    have e : nextU (u :: us) = kids u ++ nextU us := rfl
    rw [e]
    refine U.oks_of fun x hx => ?_
    rcases List.mem_append.mp hx with z | z
    · cases u with
      | leaf v => cases z
      | lst ws => exact U.oks_mem h.1 z
      | dic ks ws => exact U.oks_mem h.1.2.2.2 z
    · exact U.oks_mem ih z
theorem szs_filter : ∀ us : List U, U.szs (us.filter isH) ≤ U.szs us
  | [] => Nat.le_refl _
  | x :: r => by
    have ih := szs_filter r
    cases hx : isH x with
    | true => rw [List.filter_cons_of_pos hx]; show U.sz x + _ ≤ U.sz x + _; omega
    | false => rw [List.filter_cons_of_neg (by rw [hx]; decide)]; show _ ≤ U.sz x + _; omega
def spTh : Sp := fun vs H Q _ => ∃ (v : V) (u : U), vs = [v] ∧ Ru H v u ∧ U.ok u ∧ U.sz u ≤ 1000 ∧ ∀ H', Same H H' → Q (.bl (jd 9 0 [u])) H'
theorem scTh : FnScope ["thing", "level", "size", "depth", "holders"] ["thing"] (defScope sTh) := ⟨rfl, rfl, rfl, by decide +kernel, rfl, by decide +kernel, by decide +kernel⟩
theorem ok_th (F : Fun K "is_thing" "is_thing" sTh f fd) (B : Bl mg) (M : Ms mg) (Gis_sound_outside : Dn P w K mg base 2 "is_sound_outside" ["thing"] spSnd) (Gholds_parts : Dn P w K mg base 1 "holds_parts" ["thing"] spHp) (Gparts_of_all : Dn P w K mg base 2 "parts_of_all" ["holders"] spPa) : FnOk P w K mg base CX0 3 f fd ["thing"] spTh := by
  refine F.ok scTh (fun vs H Q E h => ?_) (fun cdv A outer s H vs Q E hr h => ?_)
  · obtain ⟨v, u, rfl, _⟩ := h
    rfl
  obtain ⟨v, u, rfl, hv, hok, hz, q⟩ := h
  have nd := scTh.nd
  refine ⟨_, (pss_cons (ps_set (i := 1) nd rfl (Or.inl rfl) (pe_lst (pa_cons (pv 0) pa_nil)))
    (pss_cons (ps_set (i := 2) nd rfl (Or.inl rfl) pe_int)
    (pss_cons (ps_set (i := 3) nd rfl (Or.inl rfl) pe_int)
    (pss_cons (ps_while PassesOwn.never (pt_cmpR op_le (pv 3) (pe_gi rfl M.MOST_DEPTH) (nomark _)) (pss_cons (ps_aug (i := 2) nd rfl (Or.inl rfl) (pe_callB call_len_l rfl B.len bt_len (pa_cons (pv 1) pa_nil)) ip_add)
    (pss_cons (ps_if (PW.pt (pw_or (pt_cmpR op_gt (pv 2) (pe_gi rfl M.MOST_SIZE) (nomark _)) (pw_or1 (pt_not (pt_val (pe_callB (call_all rfl) rfl B.all bt_all (pa_cons (pe_comp (own := ["part"]) (F := []) ⟨rfl, by with_unfolding_all rfl, by with_unfolding_all rfl, by with_unfolding_all rfl, .nil⟩ rfl (pi_list (pv 1)) (fun _ _ _ _ => pg_name (i := 0) (by show (compN ["part"] []).Nodup; decide +kernel) rfl (Or.inl rfl)) (fun _ _ _ _ => pts_nil) (fun _ _ _ _ => (pe_cd Gis_sound_outside hr (by omega) rfl (pa_cons (pv 0) pa_nil)))) pa_nil))))))) (pss_one (ps_ret pe_bl)) pss_nil)
    (pss_cons (ps_comp (i := 4) nd rfl (Or.inl rfl) (own := ["part"]) (F := []) ⟨rfl, by with_unfolding_all rfl, by with_unfolding_all rfl, by with_unfolding_all rfl, .nil⟩ rfl (pi_list (pv 1)) (fun _ _ _ _ => pg_name (i := 0) (by show (compN ["part"] []).Nodup; decide +kernel) rfl (Or.inl rfl)) (fun _ _ _ _ => (pts_one (pt_val (pe_cd Gholds_parts hr (by omega) rfl (pa_cons (pv 0) pa_nil))))) (fun _ _ _ _ => (pv 0)))
    (pss_cons (ps_if (pt_not (pt_truth (pv 4) (fun _ => rfl))) (pss_one (ps_ret pe_bl)) pss_nil)
    (pss_cons (ps_set (i := 1) nd rfl (Or.inl rfl) (pe_cd Gparts_of_all hr (by omega) rfl (pa_cons (pv 4) pa_nil)))
    (pss_one (ps_aug (i := 3) nd rfl (Or.inl rfl) pe_int ip_add))))))))
    (pss_one (ps_ret pe_bl)))))), ?_⟩
  rw [show start ["thing", "level", "size", "depth", "holders"] [v] = [some v, none, none, none, none] from rfl]
  walk_at "rd2"
  intro p hp
  have g0 := same_new hp (.lst [v])
  refine ⟨fun m σ H2 => ∃ (i z : Nat) (a : Addr) (xs : List V) (us : List U) (o : Option V), m = 9 - i ∧ i ≤ 9 ∧ σ = [some v, some (V.ref a), some (V.int z), some (V.int i), o] ∧ Same H H2 ∧ H2 a = some (.lst xs) ∧ Rus H2 xs us ∧ U.oks us ∧ U.szs us ≤ 1000 ∧ z ≤ 1000 * i ∧ jd 9 0 [u] = jd (9 - i) z us, ?_⟩
  refine ⟨⟨9, 0, 0, p, [v], [u], none, rfl, by decide, rfl, g0, upd_same, ⟨v, [], rfl, hv.same g0, rfl⟩, ⟨hok, True.intro⟩, ?_, by decide, rfl⟩, ?_⟩
  · show U.sz u + 0 ≤ 1000
    omega
  rintro m σ H2 ⟨i, z, a, xs, us, o, rfl, hi, rfl, g, ha, hs, hoks, hsz, hzi, hj⟩
  have hxl := hs.length
  have hul := U.szs_len us
  walk_at "rd2"
  by_cases h8 : i ≤ 8
  · rw [if_pos (by omega)]
    obtain ⟨k, hk⟩ : ∃ k, 9 - i = k + 1 := ⟨8 - i, by omega⟩
    rw [hk] at hj
    refine ⟨fun σ' H' => ∃ (a' : Addr) (xs' : List V) (o' : Option V), σ' = [some v, some (V.ref a'), some (V.int ((z + us.length : Nat) : Int)), some (V.int ((i + 1 : Nat) : Int)), o'] ∧ Same H H' ∧ H' a' = some (.lst xs') ∧ Rus H' xs' (nextU us) ∧ jd 9 0 [u] = jd k (z + us.length) (nextU us), ?_, ?_⟩
    · rintro σ' H' ⟨a', xs', o', rfl, g', ha', hs', hj'⟩
      refine ⟨9 - (i + 1), by omega, i + 1, rfl, by omega, z + us.length, a', ⟨o', rfl⟩, g', xs', ha', nextU us, hs', next_oks hoks, Nat.le_trans (next_szs us) hsz, by omega, ?_⟩
      rw [show 9 - (i + 1) = k by omega]; exact hj'
    · walk_at "rd2"
      simp only [tAug, ipI]
      walk_at "rd2"
      refine ⟨xs, SqL.of ha, ?_⟩
      have ej : jd (k + 1) z us = if 200 < z + us.length ∨ us.all soundU = false then false else if us.any isH = false then true else jd k (z + us.length) (nextU us) := rfl
      rw [ej] at hj
      by_cases h200 : 200 < z + us.length
      · rw [if_pos (by rw [hxl]; omega)]
        have zq := q _ g
        rw [hj, if_pos (.inl h200)] at zq
        exact zq
      · rw [if_neg (by rw [hxl]; omega)]
        refine ⟨⟨xs, SqL.of ha⟩, comp_list (K := K) (xs := xs) (fun j ys H' => Same H2 H' ∧ ys = ((us.take j).map soundU).map V.bl) (by rw [sizeLine_eq]; omega) ⟨Same.refl _, rfl⟩ (fun j ys H' _ h => SqL.of (h.1 _ _ ha)) ?_ ?_⟩
        · rintro j x ys H' hx _ ⟨g3, rfl⟩
          obtain ⟨u', hu, hr'⟩ := hs.get hx
          have hm := List.mem_of_getElem? hu
          walk_at "rd2"
          refine ⟨x, u', rfl, hr'.same g3, U.oks_mem hoks hm, Nat.le_trans (U.szs_le hm) hsz, fun H4 g4 => ⟨g3.trans g4, ?_⟩⟩
          rw [take_succ_of hu, List.map_append, List.map_append]; rfl
        · rintro ys H' _ ⟨g3, rfl⟩ p1 hp1
          have g4 := g3.trans (same_new hp1 (.lst (((us.take xs.length).map soundU).map V.bl)))
          refine ⟨p1, rfl, _, SqL.of upd_same, ?_⟩
          rw [hxl, List.take_length] at g4 ⊢
          have eall : (us.map soundU).all id = us.all soundU := by rw [List.all_map]; rfl
          rw [eall]
          generalize upd H' p1 (.lst ((us.map soundU).map V.bl)) = H3 at g4 ⊢
          by_cases hall : us.all soundU = false
          · rw [if_pos hall]
            have zq := q _ (g.trans g4)
            rw [hj, if_pos (.inr hall)] at zq
            exact zq
          · rw [if_neg hall]
            rw [if_neg (fun h => h.elim h200 hall)] at hj
            have ha3 := g4 _ _ ha
            have hs3 := hs.same g4
            refine ⟨⟨xs, SqL.of ha3⟩, comp_list (K := K) (xs := xs) (fun j ys H' => Same H3 H' ∧ Rus H3 ys ((us.take j).filter isH)) (by rw [sizeLine_eq]; omega) ⟨Same.refl _, rfl⟩ (fun j ys H' _ h => SqL.of (h.1 _ _ ha3)) ?_ ?_⟩
            · rintro j x ys H' hx _ ⟨g5, hys⟩
              obtain ⟨u', hu, hr'⟩ := hs3.get hx
              walk_at "rd2"
              refine ⟨x, u', rfl, hr'.same g5, fun H4 g6 => ⟨isH u', rfl, ?_⟩⟩
              rw [take_succ_of hu, List.filter_append]
              cases hh : isH u' with
              | true =>
                rw [if_pos rfl, List.filter_cons_of_pos hh]
                exact ⟨g5.trans g6, hys.snoc hr'⟩
              | false =>
                rw [if_neg (by decide), List.filter_cons_of_neg (by rw [hh]; decide), List.filter_nil, List.append_nil]
                exact ⟨g5.trans g6, hys⟩
            · rintro ys H' _ ⟨g5, hys⟩ p2 hp2
              rw [hxl, List.take_length] at hys
              have g6 := g5.trans (same_new hp2 (.lst ys))
              have hyl := hys.length
              refine ⟨!ys.isEmpty, .inl ⟨ys, SqL.of upd_same, rfl⟩, ?_⟩
              have eany : (!ys.isEmpty) = us.any isH := by
                have e1 : ys.isEmpty = (us.filter isH).isEmpty := by
                  cases ys with
                  | nil => cases hf : us.filter isH with
                    | nil => rfl
                    | cons _ _ => rw [hf] at hyl; cases hyl
                  | cons _ _ => cases hf : us.filter isH with
                    | nil => rw [hf] at hyl; cases hyl
                    | cons _ _ => rfl
                rw [e1, Bool.eq_iff_iff, List.any_eq_true]
                cases hf : us.filter isH with
                | nil =>
                  simp only [List.isEmpty_nil, Bool.not_true, Bool.false_eq_true, false_iff]
                  rintro ⟨x, h1, h2⟩
                  have : x ∈ us.filter isH := List.mem_filter.mpr ⟨h1, h2⟩
                  rw [hf] at this; cases this
                | cons x r =>
                  have : x ∈ us.filter isH := by rw [hf]; exact List.mem_cons_self
                  have := List.mem_filter.mp this
                  exact ⟨fun _ => ⟨x, this.1, this.2⟩, fun _ => rfl⟩
              rw [eany]
              have hp2' : upd H' p2 (.lst ys) p2 = some (.lst ys) := upd_same
              generalize upd H' p2 (.lst ys) = H4 at g6 hp2' ⊢
              cases hany : us.any isH with
              | false =>
                rw [if_pos rfl]
                have zq := q _ (g.trans (g4.trans g6))
                rw [hj, if_pos hany] at zq
                exact zq
              | true =>
                rw [if_neg (by decide)]
                rw [if_neg (by rw [hany]; decide)] at hj
                have hszf := szs_filter us
                refine ⟨p2, ys, us.filter isH, rfl, hp2', hys.same g6, fun u' hu' => (List.mem_filter.mp hu').2, by omega, fun l zs H5 g7 hl hz' => ?_⟩
                rw [next_filter] at hz'
                refine ⟨_, rfl, _, _, rfl, rfl, l, ⟨some (V.ref p2), ?_⟩, g.trans (g4.trans (g6.trans g7)), zs, hl, hz', hj⟩
                simp only [List.set_cons_zero, List.set_cons_succ, hxl, Int.natCast_add, Int.cast_ofNat_Int]
  · rw [if_neg (by omega)]
    have e9 : 9 - i = 0 := by omega
    rw [e9] at hj
    have zq := q _ g
    rw [hj] at zq
    exact zq
abbrev sCp : Stmt := top 17
def spCp (n : Nat) : Sp := fun vs H Q _ => ∃ (v : V) (t : T), vs = [v] ∧ Rep H v t ∧ T.pure t ∧ T.dep t < n ∧ T.sz t ≤ 100000 ∧ ∀ v' H' D, Same H H' → Sp1 H' v' t D → (∀ b ∈ D, H b = none) → Q v' H'
theorem scCp : FnScope ["thing"] ["thing"] (defScope sCp) := ⟨rfl, rfl, rfl, by decide +kernel, rfl, by decide +kernel, by decide +kernel⟩
theorem ok_cpS {n : Nat} (F : Fun K "copied" "copied" sCp f fd) (B : Bl mg) (Gcopied : Dn P w K mg base (1 + n) "copied" ["thing"] (spCp n)) : FnOk P w K mg base CX0 (1 + n + 1) f fd ["thing"] (spCp (n + 1)) := by
  refine F.ok scCp (fun vs H Q E h => ?_) (fun cdv A outer s H vs Q E hr h => ?_)
  · obtain ⟨v, t, rfl, _⟩ := h
    rfl
  obtain ⟨v, t, rfl, hv, hp, hd, hz, q⟩ := h
  have nd := scCp.nd
  have hu := hu_of hr
  refine ⟨_, (pss_cons (ps_if (pt_val (pe_callB (call_isi (T := "list") (by decide)) rfl B.isinstance bt_isinstance (pa_cons (pv 0) (pa_cons (pe_bltn (v := .ty "list") rfl B.list bt_list rfl) pa_nil)))) (pss_one (ps_ret (pe_comp (own := ["part"]) (F := []) ⟨rfl, by with_unfolding_all rfl, by with_unfolding_all rfl, by with_unfolding_all rfl, .nil⟩ rfl (pi_list (pv 0)) (fun _ _ _ _ => pg_name (i := 0) (by show (compN ["part"] []).Nodup; decide +kernel) rfl (Or.inl rfl)) (fun _ _ _ _ => pts_nil) (fun _ _ _ _ => (pe_cd Gcopied hr (by omega) rfl (pa_cons (pv 0) pa_nil)))))) pss_nil)
    (pss_cons (ps_if (pt_val (pe_callB (call_isi (T := "dict") (by decide)) rfl B.isinstance bt_isinstance (pa_cons (pv 0) (pa_cons (pe_bltn (v := .ty "dict") rfl B.dict bt_dict rfl) pa_nil)))) (pss_one (ps_ret (pe_callTy (call_dict_p rfl) rfl B.dict bt_dict (pa_cons (pe_thaw (pe_comp (own := ["name", "part"]) (F := []) ⟨rfl, by with_unfolding_all rfl, by with_unfolding_all rfl, by with_unfolding_all rfl, .nil⟩ rfl (pi_items (pe_bm0 PySem.F.plainAttrs_dict PySem.F.slot_dict_items PySem.F.type_dict_items mt_items (pv 0))) (fun _ _ _ _ => pg_tupC (K := K) (n := 2) rfl rfl (pgs_cons (pg_name (i := 0) (by show (compN ["name", "part"] []).Nodup; decide +kernel) rfl (Or.inl rfl)) (pgs_cons (pg_name (i := 1) (by show (compN ["name", "part"] []).Nodup; decide +kernel) rfl (Or.inl rfl)) pgs_nil))) (fun _ _ _ _ => pts_nil) (fun _ _ _ _ => (pe_tup (pa_cons (pv 0) (pa_cons (pe_cd Gcopied hr (by omega) rfl (pa_cons (pv 1) pa_nil)) pa_nil)))))) pa_nil)))) pss_nil)
    (pss_cons (ps_if (pt_val (pe_callB (call_isi (T := "tuple") (by decide)) rfl B.isinstance bt_isinstance (pa_cons (pv 0) (pa_cons (pe_bltn (v := .ty "tuple") rfl B.tuple bt_tuple rfl) pa_nil)))) (pss_one (ps_ret (pe_callTy call_tuple_of rfl B.tuple bt_tuple (pa_cons (pe_comp (own := ["part"]) (F := []) ⟨rfl, by with_unfolding_all rfl, by with_unfolding_all rfl, by with_unfolding_all rfl, .nil⟩ rfl (pi_list (pv 0)) (fun _ _ _ _ => pg_name (i := 0) (by show (compN ["part"] []).Nodup; decide +kernel) rfl (Or.inl rfl)) (fun _ _ _ _ => pts_nil) (fun _ _ _ _ => (pe_cd Gcopied hr (by omega) rfl (pa_cons (pv 0) pa_nil)))) pa_nil)))) pss_nil)
    (pss_one (ps_ret (pv 0)))))), ?_⟩
  rw [show start ["thing"] [v] = [some v] from rfl]
  walk_at "rd2"
  cases t with
  | lst us =>
    obtain ⟨a, xs, rfl, ha, hs⟩ := hv
    have hl0 := T.szs_len us
    have hz' : T.szs us + 1 ≤ 100000 := hz
    have hd' : T.deps us + 1 < n + 1 := hd
    refine ⟨"list", tyS_lst ha, ?_⟩
    rw [if_pos (by decide)]
    refine ⟨a, rfl, ⟨xs, SqL.of ha⟩, comp_list (K := K) (xs := xs) (fun i ys H' => Same H H' ∧ ∃ D, Sps H' ys (us.take i) D ∧ ∀ b ∈ D, H b = none) ?_ ⟨Same.refl _, [], ⟨rfl, rfl⟩, fun _ h => (nomatch h)⟩ (fun i ys H' _ h => SqL.of (h.1 _ _ ha)) ?_ ?_⟩
    · have := hs.length
      rw [sizeLine_eq]; omega
    · rintro i u ys H' hu' _ ⟨g, D, hR, hD⟩
      obtain ⟨t', ht', hr'⟩ := hs.get hu'
      have hm := List.mem_of_getElem? ht'
      have d1 := T.deps_le hm
      have d2 := T.szs_le hm
      walk_at "rd2"
      refine ⟨u, t', rfl, Rep.same g u t' hr', T.pures_mem hp hm, by omega, by omega, fun v' H4 D1 g4 hv' hD1 => ⟨g.trans g4, D ++ D1, ?_, fun b hb => ?_⟩⟩
      · rw [take_succ_of ht']
        refine Sps.snoc hv' (hR.same g4) fun b hb z => ?_
        obtain ⟨o, ho⟩ := Sps.there _ _ _ hR hb
        rw [hD1 b z] at ho; cases ho
      · rcases List.mem_append.mp hb with z | z
        · exact hD b z
        · exact none_back g (hD1 b z)
    · rintro ys H' _ ⟨g, D, hR, hD⟩ p hp'
      rw [hs.length, List.take_length] at hR
      have hpD : p ∉ D := fun z => by
        obtain ⟨o, ho⟩ := Sps.there _ _ _ hR z
        rw [hp'] at ho; cases ho
      refine q (.ref p) _ (p :: D) (g.trans (same_new hp' _)) ⟨p, ys, D, rfl, upd_same, rfl, hpD, hR.same (same_new hp' _)⟩ fun b hb => ?_
      rcases List.mem_cons.mp hb with z | z
      · rw [z]; exact none_back g hp'
      · exact hD b z
  | dic ks us =>
    obtain ⟨d, ps, rfl, hdd, hk, hs⟩ := hv
    obtain ⟨nk, hp⟩ := hp
    have hl0 := T.szs_len us
    have hz' : T.szs us + 1 ≤ 100000 := hz
    have hd' : T.deps us + 1 < n + 1 := hd
    have hpl : ps.length = us.length := by have := hs.length; rwa [List.length_map] at this
    have nkp : (ps.map (·.1)).Nodup := by rw [hk]; exact nodup_nK nk
    refine ⟨"dict", tyS_dK hdd, ?_⟩
    rw [if_neg (by decide)]
    refine ⟨"dict", tyS_dK hdd, ?_⟩
    rw [if_pos (by decide)]
    refine ⟨.ref d, rfl, .inr (.inr (.inl ⟨rfl, .inl ⟨ps, hdd⟩⟩)), d, ps, rfl, rfl, .inl hdd, fun pv hpv => ?_⟩
    have s1 := same_new hpv (itmO pv d)
    have hd1 := s1 _ _ hdd
    refine ⟨pv, d, ps, rfl, upd_same, .inl ⟨hd1, fun o => ?_⟩⟩
    have gf : Same (upd H d (.frz o (.dK ps))) (upd (upd H pv (itmO pv d)) d (.frz o (.dK ps))) := fun b u e => by
      by_cases hb : b = d
      · subst hb; rw [upd_same] at e ⊢; exact e
      · rw [upd_ne hb] at e ⊢
        exact s1 _ _ e
    have gH : ∀ b, upd (upd H pv (itmO pv d)) d (.frz o (.dK ps)) b = none → H b = none := fun b e => by
      by_cases hb : b = d
      · subst hb; rw [upd_same] at e; cases e
      · rw [upd_ne hb] at e
        exact none_back s1 e
    have hsf : Reps (upd (upd H pv (itmO pv d)) d (.frz o (.dK ps))) (ps.map (·.2)) us := Reps.dic_away hd1 hk (Reps.same s1 _ _ hs)
    have hdf : upd (upd H pv (itmO pv d)) d (.frz o (.dK ps)) d = some (.frz o (.dK ps)) := upd_same
    generalize upd (upd H pv (itmO pv d)) d (.frz o (.dK ps)) = Hf at gf gH hsf hdf ⊢
    refine comp_items (K := K) (fun i ys H' => Same Hf H' ∧ ∃ (kvs : List (Key × V)) (D : List Addr), kvs.length = ys.length ∧ kvs.map (·.1) = (ps.take i).map (·.1) ∧ Sps H' (kvs.map (·.2)) (us.take i) D ∧ (∀ b ∈ D, H b = none) ∧ ∀ (j : Nat) kv, kvs[j]? = some kv → ∃ a, ys[j]? = some (.ref a) ∧ H' a = some (.tup [kV kv.1, kv.2])) ?_ ⟨Same.refl _, [], [], rfl, rfl, ⟨rfl, rfl⟩, fun _ h => (nomatch h), by intro j kv h; simp at h⟩ (fun i ys H' h => h.1 _ _ hdf) ?_ ?_
    · rw [sizeLine_eq]; omega
    · rintro i kv ys H' pt hkv _ ⟨g, kvs, D, l1, l2, hR, hD, ht⟩ hpt
      have s2 := same_new hpt (.tup [kV kv.1, kv.2])
      have g2 := g.trans s2
      walk_at "rd2"
      obtain ⟨t', ht', hr'⟩ := hsf.get (i := i) (v := kv.2) (by rw [List.getElem?_map, hkv]; rfl)
      have hm := List.mem_of_getElem? ht'
      have d1 := T.deps_le hm
      have d2 := T.szs_le hm
      refine ⟨kv.2, t', rfl, Rep.same g2 _ t' hr', T.pures_mem hp hm, by omega, by omega, fun v' H1 D1 g1 hv' hD1 p hp1 => ⟨(g2.trans g1).trans (same_new hp1 _), kvs ++ [(kv.1, v')], by simp [l1], ?_, D ++ D1, ?_, fun b hb => ?_, ?_⟩⟩
      · rw [take_succ_of hkv, List.map_append, List.map_append, l2]; rfl
      · rw [take_succ_of ht', List.map_append]
        refine Sps.snoc (hv'.same (same_new hp1 _)) (hR.same (s2.trans (g1.trans (same_new hp1 _)))) fun b hb z => ?_
        obtain ⟨ob, ho⟩ := Sps.there _ _ _ (hR.same s2) hb
        rw [hD1 b z] at ho; cases ho
      · rcases List.mem_append.mp hb with z | z
        · exact hD b z
        · exact gH b (none_back g2 (hD1 b z))
      · intro j kv1 hj
        by_cases hlt : j < kvs.length
        · rw [List.getElem?_append_left hlt] at hj
          obtain ⟨a, e1, e2⟩ := ht j kv1 hj
          exact ⟨a, by rw [List.getElem?_append_left (by omega)]; exact e1, same_new hp1 _ _ _ (g1 _ _ (s2 _ _ e2))⟩
        · rw [List.getElem?_append_right (by omega)] at hj
          have hj0 : j - kvs.length = 0 := by
            have := (List.getElem?_eq_some_iff.mp hj).1
            simpa using this
          rw [hj0] at hj
          simp only [List.getElem?_cons_zero, Option.some.injEq] at hj
          subst hj
          exact ⟨p, by rw [List.getElem?_append_right (by omega), ← l1, hj0]; rfl, upd_same⟩
    · rintro ys H' _ ⟨g, kvs, D, l1, l2, hR, hD, ht⟩ p hp'
      rw [hpl, List.take_length] at hR
      rw [List.take_length] at l2
      have gs : Same H (thaw H (upd H' p (.lst ys))) := thaw_walk (o := o) hdd (gf.trans (g.trans (same_new hp' _)))
      have hR2 : Sps (thaw H (upd H' p (.lst ys))) (kvs.map (·.2)) us D := (hR.same (same_new hp' _)).thaw
      refine ⟨p, rfl, ys, thaw_of upd_same (by intro o v z; cases z), kvs, l1, fun j kv hj => ?_, fun l hl => ?_⟩
      · obtain ⟨a, e1, e2⟩ := ht j kv hj
        exact ⟨a, e1, thaw_of (same_new hp' _ _ _ e2) (by intro o v z; cases z)⟩
      · have em : mergeK [] kvs = kvs := mergeK_nodup kvs [] (by rw [List.nil_append, l2]; exact nkp)
        rw [em]
        have hlD : l ∉ D := fun z => by
          obtain ⟨ob, ho⟩ := Sps.there _ _ _ hR2 z
          rw [hl] at ho; cases ho
        refine q (.ref l) _ (l :: D) (gs.trans (same_new hl _)) ⟨l, kvs, D, rfl, upd_same, l2.trans hk, rfl, hlD, hR2.same (same_new hl _)⟩ fun b hb => ?_
        rcases List.mem_cons.mp hb with z | z
        · rw [z]; exact none_back gs hl
        · exact hD b z
  | tup us => exact hp.elim
  | non => exact ⟨_, hv.ty, by rw [if_neg (by simp [tyT, isSub])]; exact ⟨_, hv.ty, by rw [if_neg (by simp [tyT, isSub])]; exact ⟨_, hv.ty, by rw [if_neg (by simp [tyT, isSub])]; exact q _ _ [] (Same.refl _) ⟨rfl, hv⟩ (fun _ h => nomatch h)⟩⟩⟩
  | bl b => exact ⟨_, hv.ty, by rw [if_neg (by simp [tyT, isSub])]; exact ⟨_, hv.ty, by rw [if_neg (by simp [tyT, isSub])]; exact ⟨_, hv.ty, by rw [if_neg (by simp [tyT, isSub])]; exact q _ _ [] (Same.refl _) ⟨rfl, hv⟩ (fun _ h => nomatch h)⟩⟩⟩
  | int b => exact ⟨_, hv.ty, by rw [if_neg (by simp [tyT, isSub])]; exact ⟨_, hv.ty, by rw [if_neg (by simp [tyT, isSub])]; exact ⟨_, hv.ty, by rw [if_neg (by simp [tyT, isSub])]; exact q _ _ [] (Same.refl _) ⟨rfl, hv⟩ (fun _ h => nomatch h)⟩⟩⟩
  | str b => exact ⟨_, hv.ty, by rw [if_neg (by simp [tyT, isSub])]; exact ⟨_, hv.ty, by rw [if_neg (by simp [tyT, isSub])]; exact ⟨_, hv.ty, by rw [if_neg (by simp [tyT, isSub])]; exact q _ _ [] (Same.refl _) ⟨rfl, hv⟩ (fun _ h => nomatch h)⟩⟩⟩
abbrev sMk : Stmt := top 32
theorem scHdS : FnScope ["_law_thing"] ["_law_thing"] (defScope sHeld) := ⟨rfl, rfl, rfl, by decide +kernel, rfl, by decide +kernel, by decide +kernel⟩
theorem ok_hdS {n : Nat} (F : Fun K "_law_held" "_law_held" sHeld f fd) (B : Bl mg) (G_law_held : Dn P w K mg base (1 + n) "_law_held" ["_law_thing"] (spCp n)) : FnOk P w K mg base CX0 (1 + n + 1) f fd ["_law_thing"] (spCp (n + 1)) := by
  refine F.ok scHdS (fun vs H Q E h => ?_) (fun cdv A outer s H vs Q E hr h => ?_)
  · obtain ⟨v, t, rfl, _⟩ := h
    rfl
  obtain ⟨v, t, rfl, hv, hp, hd, hz, q⟩ := h
  have nd := scHdS.nd
  have hu := hu_of hr
  refine ⟨_, (pss_cons (ps_if (pt_val (pe_callB (call_isi (T := "list") (by decide)) rfl B.isinstance bt_isinstance (pa_cons (pv 0) (pa_cons (pe_bltn (v := .ty "list") rfl B.list bt_list rfl) pa_nil)))) (pss_one (ps_ret (pe_comp (own := ["_law_one"]) (F := []) ⟨rfl, by with_unfolding_all rfl, by with_unfolding_all rfl, by with_unfolding_all rfl, .nil⟩ rfl (pi_list (pv 0)) (fun _ _ _ _ => pg_name (i := 0) (by show (compN ["_law_one"] []).Nodup; decide +kernel) rfl (Or.inl rfl)) (fun _ _ _ _ => pts_nil) (fun _ _ _ _ => (pe_cd G_law_held hr (by omega) rfl (pa_cons (pv 0) pa_nil)))))) pss_nil)
    (pss_cons (ps_if (pt_val (pe_callB (call_isi (T := "dict") (by decide)) rfl B.isinstance bt_isinstance (pa_cons (pv 0) (pa_cons (pe_bltn (v := .ty "dict") rfl B.dict bt_dict rfl) pa_nil)))) (pss_one (ps_ret (pe_callTy (call_dict_p rfl) rfl B.dict bt_dict (pa_cons (pe_thaw (pe_comp (own := ["_law_name"]) (F := [("_law_thing", 0)]) ⟨rfl, by with_unfolding_all rfl, by with_unfolding_all rfl, by with_unfolding_all rfl, (.cons rfl rfl rfl .nil)⟩ rfl (pi_dict (pv 0)) (fun _ _ _ _ => pg_name (i := 0) (by show (compN ["_law_name"] [("_law_thing", 0)]).Nodup; decide +kernel) rfl (Or.inl rfl)) (fun _ _ _ _ => pts_nil) (fun _ _ _ _ => (pe_tup (pa_cons (pv 0) (pa_cons (pe_cd G_law_held hr (by omega) rfl (pa_cons (pe_dget hu (pv 1) (pv 0) (fun _ _ => rfl)) pa_nil)) pa_nil)))))) pa_nil)))) pss_nil)
    (pss_one (ps_ret (pv 0))))), ?_⟩
  rw [show start ["_law_thing"] [v] = [some v] from rfl]
  walk_at "rd2"
  cases t with
  | lst us =>
    obtain ⟨a, xs, rfl, ha, hs⟩ := hv
    have hl0 := T.szs_len us
    have hz' : T.szs us + 1 ≤ 100000 := hz
    have hd' : T.deps us + 1 < n + 1 := hd
    refine ⟨"list", tyS_lst ha, ?_⟩
    rw [if_pos (by decide)]
    refine ⟨a, rfl, ⟨xs, SqL.of ha⟩, comp_list (K := K) (xs := xs) (fun i ys H' => Same H H' ∧ ∃ D, Sps H' ys (us.take i) D ∧ ∀ b ∈ D, H b = none) ?_ ⟨Same.refl _, [], ⟨rfl, rfl⟩, fun _ h => (nomatch h)⟩ (fun i ys H' _ h => SqL.of (h.1 _ _ ha)) ?_ ?_⟩
    · have := hs.length
      rw [sizeLine_eq]; omega
    · rintro i u ys H' hu' _ ⟨g, D, hR, hD⟩
      obtain ⟨t', ht', hr'⟩ := hs.get hu'
      have hm := List.mem_of_getElem? ht'
      have d1 := T.deps_le hm
      have d2 := T.szs_le hm
      walk_at "rd2"
      refine ⟨u, t', rfl, Rep.same g u t' hr', T.pures_mem hp hm, by omega, by omega, fun v' H4 D1 g4 hv' hD1 => ⟨g.trans g4, D ++ D1, ?_, fun b hb => ?_⟩⟩
      · rw [take_succ_of ht']
        refine Sps.snoc hv' (hR.same g4) fun b hb z => ?_
        obtain ⟨o, ho⟩ := Sps.there _ _ _ hR hb
        rw [hD1 b z] at ho; cases ho
      · rcases List.mem_append.mp hb with z | z
        · exact hD b z
        · exact none_back g (hD1 b z)
    · rintro ys H' _ ⟨g, D, hR, hD⟩ p hp'
      rw [hs.length, List.take_length] at hR
      have hpD : p ∉ D := fun z => by
        obtain ⟨o, ho⟩ := Sps.there _ _ _ hR z
        rw [hp'] at ho; cases ho
      refine q (.ref p) _ (p :: D) (g.trans (same_new hp' _)) ⟨p, ys, D, rfl, upd_same, rfl, hpD, hR.same (same_new hp' _)⟩ fun b hb => ?_
      rcases List.mem_cons.mp hb with z | z
      · rw [z]; exact none_back g hp'
      · exact hD b z
  | dic ks us =>
    obtain ⟨d, ps, rfl, hdd, hk, hs⟩ := hv
    obtain ⟨nk, hp⟩ := hp
    have hl0 := T.szs_len us
    have hz' : T.szs us + 1 ≤ 100000 := hz
    have hd' : T.deps us + 1 < n + 1 := hd
    have hpl : ps.length = us.length := by have := hs.length; rwa [List.length_map] at this
    have nkp : (ps.map (·.1)).Nodup := by rw [hk]; exact nodup_nK nk
    refine ⟨"dict", tyS_dK hdd, ?_⟩
    rw [if_neg (by decide)]
    refine ⟨"dict", tyS_dK hdd, ?_⟩
    rw [if_pos (by decide)]
    refine ⟨d, rfl, ps, .inl ⟨hdd, fun o => ?_⟩⟩
    have gf : Same (upd H d (.frz o (.dK ps))) (upd H d (.frz o (.dK ps))) := Same.refl _
    have gH : ∀ b, upd H d (.frz o (.dK ps)) b = none → H b = none := fun b e => by
      by_cases hb : b = d
      · subst hb; rw [upd_same] at e; cases e
      · rw [upd_ne hb] at e
        exact e
    have hsf : Reps (upd H d (.frz o (.dK ps))) (ps.map (·.2)) us := Reps.dic_away hdd hk hs
    have hdf : upd H d (.frz o (.dK ps)) d = some (.frz o (.dK ps)) := upd_same
    generalize hHf : upd H d (.frz o (.dK ps)) = Hf at gf gH hsf hdf ⊢
    refine comp_dict (fun i ys H' => Same Hf H' ∧ ∃ (kvs : List (Key × V)) (D : List Addr), kvs.length = ys.length ∧ kvs.map (·.1) = (ps.take i).map (·.1) ∧ Sps H' (kvs.map (·.2)) (us.take i) D ∧ (∀ b ∈ D, H b = none) ∧ ∀ (j : Nat) kv, kvs[j]? = some kv → ∃ a, ys[j]? = some (.ref a) ∧ H' a = some (.tup [kV kv.1, kv.2])) ?_ ⟨Same.refl _, [], [], rfl, rfl, ⟨rfl, rfl⟩, fun _ h => (nomatch h), by intro j kv h; simp at h⟩ (fun i ys H' h => h.1 _ _ hdf) ?_ ?_
    · rw [sizeLine_eq]; omega
    · rintro i kv ys H' hkv _ ⟨g, kvs, D, l1, l2, hR, hD, ht⟩
      have s2 := Same.refl H'
      have g2 := g.trans s2
      walk_at "rd2"
      obtain ⟨t', ht', hr'⟩ := hsf.get (i := i) (v := kv.2) (by rw [List.getElem?_map, hkv]; rfl)
      have hm := List.mem_of_getElem? ht'
      have d1 := T.deps_le hm
      have d2 := T.szs_le hm
      refine ⟨kv.2, .inl ⟨ps, kv.1, .inr ⟨o, g _ _ hdf⟩, rfl, (valV_ix nkp hkv).symm⟩, kv.2, t', rfl, Rep.same g2 _ t' hr', T.pures_mem hp hm, by omega, by omega, fun v' H1 D1 g1 hv' hD1 p hp1 => ⟨(g2.trans g1).trans (same_new hp1 _), kvs ++ [(kv.1, v')], by simp [l1], ?_, D ++ D1, ?_, fun b hb => ?_, ?_⟩⟩
      · rw [take_succ_of hkv, List.map_append, List.map_append, l2]; rfl
      · rw [take_succ_of ht', List.map_append]
        refine Sps.snoc (hv'.same (same_new hp1 _)) (hR.same (s2.trans (g1.trans (same_new hp1 _)))) fun b hb z => ?_
        obtain ⟨ob, ho⟩ := Sps.there _ _ _ (hR.same s2) hb
        rw [hD1 b z] at ho; cases ho
      · rcases List.mem_append.mp hb with z | z
        · exact hD b z
        · exact gH b (none_back g2 (hD1 b z))
      · intro j kv1 hj
        by_cases hlt : j < kvs.length
        · rw [List.getElem?_append_left hlt] at hj
          obtain ⟨a, e1, e2⟩ := ht j kv1 hj
          exact ⟨a, by rw [List.getElem?_append_left (by omega)]; exact e1, same_new hp1 _ _ _ (g1 _ _ (s2 _ _ e2))⟩
        · rw [List.getElem?_append_right (by omega)] at hj
          have hj0 : j - kvs.length = 0 := by
            have := (List.getElem?_eq_some_iff.mp hj).1
            simpa using this
          rw [hj0] at hj
          simp only [List.getElem?_cons_zero, Option.some.injEq] at hj
          subst hj
          exact ⟨p, by rw [List.getElem?_append_right (by omega), ← l1, hj0]; rfl, upd_same⟩
    · rintro ys H' _ ⟨g, kvs, D, l1, l2, hR, hD, ht⟩ p hp'
      rw [hpl, List.take_length] at hR
      rw [List.take_length] at l2
      have gs : Same H (thaw H (upd H' p (.lst ys))) := thaw_walk (o := o) hdd (by rw [hHf]; exact g.trans (same_new hp' _))
      have hR2 : Sps (thaw H (upd H' p (.lst ys))) (kvs.map (·.2)) us D := (hR.same (same_new hp' _)).thaw
      refine ⟨p, rfl, ys, thaw_of upd_same (by intro o v z; cases z), kvs, l1, fun j kv hj => ?_, fun l hl => ?_⟩
      · obtain ⟨a, e1, e2⟩ := ht j kv hj
        exact ⟨a, e1, thaw_of (same_new hp' _ _ _ e2) (by intro o v z; cases z)⟩
      · have em : mergeK [] kvs = kvs := mergeK_nodup kvs [] (by rw [List.nil_append, l2]; exact nkp)
        rw [em]
        have hlD : l ∉ D := fun z => by
          obtain ⟨ob, ho⟩ := Sps.there _ _ _ hR2 z
          rw [hl] at ho; cases ho
        refine q (.ref l) _ (l :: D) (gs.trans (same_new hl _)) ⟨l, kvs, D, rfl, upd_same, l2.trans hk, rfl, hlD, hR2.same (same_new hl _)⟩ fun b hb => ?_
        rcases List.mem_cons.mp hb with z | z
        · rw [z]; exact none_back gs hl
        · exact hD b z
  | tup us => exact hp.elim
  | non => exact ⟨_, hv.ty, by rw [if_neg (by simp [tyT, isSub])]; exact ⟨_, hv.ty, by rw [if_neg (by simp [tyT, isSub])]; exact q _ _ [] (Same.refl _) ⟨rfl, hv⟩ (fun _ h => nomatch h)⟩⟩
  | bl b => exact ⟨_, hv.ty, by rw [if_neg (by simp [tyT, isSub])]; exact ⟨_, hv.ty, by rw [if_neg (by simp [tyT, isSub])]; exact q _ _ [] (Same.refl _) ⟨rfl, hv⟩ (fun _ h => nomatch h)⟩⟩
  | int b => exact ⟨_, hv.ty, by rw [if_neg (by simp [tyT, isSub])]; exact ⟨_, hv.ty, by rw [if_neg (by simp [tyT, isSub])]; exact q _ _ [] (Same.refl _) ⟨rfl, hv⟩ (fun _ h => nomatch h)⟩⟩
  | str b => exact ⟨_, hv.ty, by rw [if_neg (by simp [tyT, isSub])]; exact ⟨_, hv.ty, by rw [if_neg (by simp [tyT, isSub])]; exact q _ _ [] (Same.refl _) ⟨rfl, hv⟩ (fun _ h => nomatch h)⟩⟩
def spMk (n : Nat) : Sp := fun vs H Q _ => ∃ (v : V) (t : T) (HD : Hp) (k : Nat), vs = [v] ∧ Rep HD v t ∧ Md HD k H ∧ T.few t ∧ T.dep t < n ∧ k + T.cn t ≤ 100000 ∧ ∀ H', Md HD (k + T.cn t) H' → Mp HD H H' → Q .non H'
theorem scMk : FnScope ["_law_thing", "_law_one", "_law_name"] ["_law_thing"] (defScope sMk) := ⟨rfl, rfl, rfl, by decide +kernel, rfl, by decide +kernel, by decide +kernel⟩
theorem ok_mkS {n : Nat} (F : Fun K "_law_marked" "_law_marked" sMk f fd) (B : Bl mg) (G_law_marked : Dn P w K mg base (1 + n) "_law_marked" ["_law_thing"] (spMk n)) : FnOk P w K mg base CX0 (1 + n + 1) f fd ["_law_thing"] (spMk (n + 1)) := by
  refine F.ok scMk (fun vs H Q E h => ?_) (fun cdv A outer s H vs Q E hr h => ?_)
  · obtain ⟨v, t, HD, k, rfl, _⟩ := h
    rfl
  obtain ⟨v, t, HD, k, rfl, hv, hM, hf, hd, hk0, q⟩ := h
  have nd := scMk.nd
  have hu := hu_of hr
  refine ⟨_, (pss_cons (ps_if (pt_val (pe_callB (call_isi (T := "list") (by decide)) rfl B.isinstance bt_isinstance (pa_cons (pv 0) (pa_cons (pe_bltn (v := .ty "list") rfl B.list bt_list rfl) pa_nil)))) (pss_cons (ps_for PassesOwn.never rfl (pi_list (pe_callTy call_list_of rfl B.list bt_list (pa_cons (pv 0) pa_nil))) (pg_name (i := 1) nd rfl (Or.inl rfl)) (pss_one (ps_expr (pe_cd G_law_marked hr (by omega) rfl (pa_cons (pv 1) pa_nil)))))
    (pss_one (ps_expr (pe_bm PySem.F.plainAttrs_list PySem.F.slot_list_append PySem.F.type_list_append mt_append (pv 0) (pa_cons pe_str pa_nil))))) pss_nil)
    (pss_one (ps_if (pt_val (pe_callB (call_isi (T := "dict") (by decide)) rfl B.isinstance bt_isinstance (pa_cons (pv 0) (pa_cons (pe_bltn (v := .ty "dict") rfl B.dict bt_dict rfl) pa_nil)))) (pss_cons (ps_for PassesOwn.never rfl (pi_list (pe_callTy (call_list_d rfl) rfl B.list bt_list (pa_cons (pv 0) pa_nil))) (pg_name (i := 2) nd rfl (Or.inl rfl)) (pss_one (ps_expr (pe_cd G_law_marked hr (by omega) rfl (pa_cons (pe_dget hu (pv 0) (pv 2) (fun _ _ => rfl)) pa_nil)))))
    (pss_one (ps_dput hu (pv 0) pe_str pe_int rfl))) pss_nil))), ?_⟩
  rw [show start ["_law_thing", "_law_one", "_law_name"] [v] = [some v, none, none] from rfl]
  walk_at "rd2"
  cases t with
  | lst us =>
    obtain ⟨a, xs, rfl, ha, hs⟩ := hv
    obtain ⟨o', haH, hmo⟩ := hM a _ ha
    obtain ⟨j, hj, rfl⟩ := hmo.lst
    have hk1 : k + (T.cns us + 1) ≤ 100000 := hk0
    refine ⟨"list", tyS_lst haH, ?_⟩
    rw [if_pos (by decide)]
    have hul := hf.1
    have hxl := hs.length
    have hd' : T.deps us + 1 < n + 1 := hd
    refine ⟨a, rfl, _, .inl (SqL.of haH), fun l hl => ⟨⟨_, SqL.of upd_same⟩, ?_⟩⟩
    have hlD := hM.away hl
    have sl := same_new hl (.lst (xs ++ List.replicate j mkV))
    refine forB_list (K := K) (a := l) (xs := xs ++ List.replicate j mkV) (fun i σ H2 => (∃ o, σ = [some (V.ref a), o, none]) ∧ Md HD (k + T.cns (us.take i)) H2 ∧ Mp HD H H2 ∧ H2 l = some (.lst (xs ++ List.replicate j mkV))) ⟨⟨_, rfl⟩, hM.new hl _, Mp.same sl, upd_same⟩ (fun i σ H2 _ h => SqL.of h.2.2.2) ?_ ?_
    · rintro i x σ H2 hx ⟨⟨o, rfl⟩, k2, m2, hl2⟩
      obtain ⟨t', hr', hf', hd2, hc'⟩ : ∃ t', Rep HD x t' ∧ T.few t' ∧ T.dep t' < n ∧ T.cns (us.take i) + T.cn t' ≤ T.cns (us.take (i + 1)) := by
        by_cases hlt : i < xs.length
        · rw [List.getElem?_append_left hlt] at hx
          obtain ⟨t', ht', hr'⟩ := hs.get hx
          have hm := List.mem_of_getElem? ht'
          have d1 := T.deps_le hm
          exact ⟨t', hr', T.fews_mem hf.2 hm, by omega, by rw [T.cns_take ht']; omega⟩
        · rw [List.getElem?_append_right (by omega)] at hx
          have hm := List.mem_of_getElem? hx
          have e := List.eq_of_mem_replicate hm
          refine ⟨.str (ts (Str.ofString "mark")), ?_, True.intro, by show 0 < n; omega, ?_⟩
          · rw [e]; show V.str _ = V.str _; rw [tx_ts]
          · exact T.cns_take_mono us i
      have c2 := T.cns_take_le us (i + 1)
      walk_at "rd2"
      exact ⟨x, t', HD, _, rfl, hr', k2, hf', hd2, by omega, fun H3 k3 m3 => ⟨⟨_, rfl⟩, k3.mono (by omega), m2.trans m3, m3.keep _ _ hlD hl2⟩⟩
    · rintro σ H2 ⟨⟨o, rfl⟩, k2, m2, hl2⟩
      walk_at "rd2"
      have k2 : Md HD (k + T.cns us) H2 := k2.mono (by have := T.cns_take_le us (xs ++ List.replicate j mkV).length; omega)
      obtain ⟨o2, ha2, hmo2⟩ := k2 a _ ha
      obtain ⟨j2, hj2, rfl⟩ := hmo2.lst
      refine ⟨Or.inl ⟨rfl, _, SqL.of ha2⟩, a, _, mkV, rfl, rfl, ha2, ?_, "list", tyS_lst upd_same, ?_⟩
      · rw [sizeLine_eq, List.length_append, List.length_replicate]; omega
      rw [if_neg (by decide)]
      refine q _ ?_ (m2.trans (Mp.putL ha _))
      refine (k2.mono (show k + T.cns us ≤ k + T.cn (.lst us) from Nat.add_le_add_left (Nat.le_succ _) _)).put ha (.inr (.inl ⟨xs, j2 + 1, rfl, ?_, ?_⟩))
      · show j2 + 1 ≤ k + (T.cns us + 1); omega
      · rw [List.replicate_succ', List.append_assoc]
  | dic ks us =>
    obtain ⟨a, ps, rfl, ha, hk, hs⟩ := hv
    obtain ⟨o', haH, hmo⟩ := hM a _ ha
    obtain ⟨qs, hq, rfl⟩ : ∃ qs, (qs = ps ∨ qs = putK ps mK (.int 7)) ∧ o' = .dK qs := by
      rcases hmo.dic with e | e
      · exact ⟨ps, .inl rfl, e⟩
      · exact ⟨_, .inr rfl, e⟩
    have hk1 : k + (T.cns us + 1) ≤ 100000 := hk0
    refine ⟨"dict", tyS_dK haH, ?_⟩
    rw [if_neg (by decide)]
    refine ⟨"dict", tyS_dK haH, ?_⟩
    rw [if_pos (by decide)]
    obtain ⟨nk, h64, hle, hf⟩ := hf
    have hxl := hs.length
    rw [List.length_map] at hxl
    have hd' : T.deps us + 1 < n + 1 := hd
    have nkp : (ps.map (·.1)).Nodup := by rw [hk]; exact nodup_nK nk
    refine ⟨a, rfl, qs, .inl haH, fun l hl => ⟨⟨_, SqL.of upd_same⟩, ?_⟩⟩
    have hlD := hM.away hl
    have sl := same_new hl (.lst (qs.map fun kv => kV kv.1))
    refine forB_list (K := K) (a := l) (xs := qs.map fun kv => kV kv.1) (fun i σ H2 => (∃ o, σ = [some (V.ref a), none, o]) ∧ Md HD (k + T.cns (us.take i)) H2 ∧ Mp HD H H2 ∧ H2 l = some (.lst (qs.map fun kv => kV kv.1))) ⟨⟨_, rfl⟩, hM.new hl _, Mp.same sl, upd_same⟩ (fun i σ H2 _ h => SqL.of h.2.2.2) ?_ ?_
    · rintro i x σ H2 hx ⟨⟨o, rfl⟩, k2, m2, hl2⟩
      obtain ⟨kv, hkv, rfl⟩ : ∃ kv, qs[i]? = some kv ∧ x = kV kv.1 := by
        rw [List.getElem?_map] at hx
        cases hc : qs[i]? with
        | none => rw [hc] at hx; cases hx
        | some kv => rw [hc] at hx; exact ⟨kv, rfl, (Option.some.inj hx).symm⟩
      obtain ⟨o2, ha2, hmo2⟩ := k2 a _ ha
      obtain ⟨qs', hq', rfl⟩ : ∃ qs, (qs = ps ∨ qs = putK ps mK (.int 7)) ∧ o2 = .dK qs := by
        rcases hmo2.dic with e | e
        · exact ⟨ps, .inl rfl, e⟩
        · exact ⟨_, .inr rfl, e⟩
      have hst : qs = putK ps mK (.int 7) → qs' = putK ps mK (.int 7) := fun e => by
        have := m2.stay a ps ha (by rw [haH, e])
        rw [this] at ha2
        injection ha2 with e2
        injection e2 with e3
        exact e3.symm
      obtain ⟨y, t', hy, hr', hf', hd2, hc'⟩ := mk_val (ks := ks) nkp hs hf hq hq' hst hkv
      have c2 := T.cns_take_le us (i + 1)
      walk_at "rd2"
      exact ⟨y, .inl ⟨qs', kv.1, .inl ha2, rfl, hy.symm⟩, y, t', HD, _, rfl, hr', k2, hf', by omega, by omega, fun H3 k3 m3 => ⟨⟨_, rfl⟩, k3.mono (by omega), m2.trans m3, m3.keep _ _ hlD hl2⟩⟩
    · rintro σ H2 ⟨⟨o, rfl⟩, k2, m2, hl2⟩
      walk_at "rd2"
      have k2 : Md HD (k + T.cns us) H2 := k2.mono (by have := T.cns_take_le us (qs.map fun kv => kV kv.1).length; omega)
      obtain ⟨o2, ha2, hmo2⟩ := k2 a _ ha
      have hput : ∃ qs', o2 = .dK qs' ∧ qs'.length ≤ 64 ∧ putK qs' mK (.int 7) = putK ps mK (.int 7) := by
        rcases hmo2.dic with e | e
        · exact ⟨ps, e, by omega, rfl⟩
        · exact ⟨_, e, by have := length_putK ps mK (.int 7); omega, putK_twice ps mK (.int 7)⟩
      obtain ⟨qs', rfl, hl', he'⟩ := hput
      refine ⟨_, DPut.k (k := mK) ha2 (by rw [sizeLine_eq]; omega), ?_⟩
      rw [he']
      exact q _ ((k2.mono (show k + T.cns us ≤ k + T.cn (.dic ks us) from Nat.add_le_add_left (Nat.le_succ _) _)).put ha (.inr (.inr ⟨ps, rfl, rfl⟩))) (m2.trans (Mp.putD ha))
  | tup us => exact hf.elim
  | non =>
    have hv : Rep H v T.non := hv
    exact ⟨_, hv.ty, by rw [if_neg (by simp [tyT, isSub])]; exact ⟨_, hv.ty, by rw [if_neg (by simp [tyT, isSub])]; exact q _ hM Mp.refl⟩⟩
  | bl b =>
    have hv : Rep H v (T.bl b) := hv
    exact ⟨_, hv.ty, by rw [if_neg (by simp [tyT, isSub])]; exact ⟨_, hv.ty, by rw [if_neg (by simp [tyT, isSub])]; exact q _ hM Mp.refl⟩⟩
  | int b =>
    have hv : Rep H v (T.int b) := hv
    exact ⟨_, hv.ty, by rw [if_neg (by simp [tyT, isSub])]; exact ⟨_, hv.ty, by rw [if_neg (by simp [tyT, isSub])]; exact q _ hM Mp.refl⟩⟩
  | str b =>
    have hv : Rep H v (T.str b) := hv
    exact ⟨_, hv.ty, by rw [if_neg (by simp [tyT, isSub])]; exact ⟨_, hv.ty, by rw [if_neg (by simp [tyT, isSub])]; exact q _ hM Mp.refl⟩⟩
theorem ok_cp0 (F : Fun K "copied" "copied" sCp f fd) : FnOk P w K mg base CX0 1 f fd ["thing"] (spCp 0) := by
  refine F.ok scCp (fun vs H Q E h => ?_) (fun cdv A outer s H vs Q E hr h => ?_)
  · obtain ⟨v, t, rfl, _⟩ := h
    rfl
  obtain ⟨v, t, rfl, hv, hp, hd, _⟩ := h
  exact absurd hd (Nat.not_lt_zero _)
theorem ok_hd0 (F : Fun K "_law_held" "_law_held" sHeld f fd) : FnOk P w K mg base CX0 1 f fd ["_law_thing"] (spCp 0) := by
  refine F.ok scHdS (fun vs H Q E h => ?_) (fun cdv A outer s H vs Q E hr h => ?_)
  · obtain ⟨v, t, rfl, _⟩ := h
    rfl
  obtain ⟨v, t, rfl, hv, hp, hd, _⟩ := h
  exact absurd hd (Nat.not_lt_zero _)
theorem ok_mk0 (F : Fun K "_law_marked" "_law_marked" sMk f fd) : FnOk P w K mg base CX0 1 f fd ["_law_thing"] (spMk 0) := by
  refine F.ok scMk (fun vs H Q E h => ?_) (fun cdv A outer s H vs Q E hr h => ?_)
  · obtain ⟨v, t, HD, k, rfl, _⟩ := h
    rfl
  obtain ⟨v, t, HD, k, rfl, hv, hM, hf, hd, _⟩ := h
  exact absurd hd (Nat.not_lt_zero _)
theorem cp_all (F : Fun K "copied" "copied" sCp f fd) (B : Bl mg) (b : Binds K fd ["thing"] []) (kp : PySem.W.keepIn K (.ref f) = true) (m : mg "copied" = some (.ref f)) : ∀ n : Nat, FnOk P w K mg base CX0 (1 + n) f fd ["thing"] (spCp n)
  | 0 => ok_cp0 F
  | n + 1 => ok_cpS F B ⟨_, _, cp_all F B b kp m n, b, kp, m⟩
theorem hd_all (F : Fun K "_law_held" "_law_held" sHeld f fd) (B : Bl mg) (b : Binds K fd ["_law_thing"] []) (kp : PySem.W.keepIn K (.ref f) = true) (m : mg "_law_held" = some (.ref f)) : ∀ n : Nat, FnOk P w K mg base CX0 (1 + n) f fd ["_law_thing"] (spCp n)
  | 0 => ok_hd0 F
  | n + 1 => ok_hdS F B ⟨_, _, hd_all F B b kp m n, b, kp, m⟩
theorem mk_all (F : Fun K "_law_marked" "_law_marked" sMk f fd) (B : Bl mg) (b : Binds K fd ["_law_thing"] []) (kp : PySem.W.keepIn K (.ref f) = true) (m : mg "_law_marked" = some (.ref f)) : ∀ n : Nat, FnOk P w K mg base CX0 (1 + n) f fd ["_law_thing"] (spMk n)
  | 0 => ok_mk0 F
  | n + 1 => ok_mkS F B ⟨_, _, mk_all F B b kp m n, b, kp, m⟩
abbrev sLeaf : Stmt := top 36
theorem logs_ok {b : Int} (h1 : -(10 ^ 12) ≤ b) (h2 : b ≤ 10 ^ 12) : b.natAbs.log2 < 1920 := by
  by_cases h : b.natAbs = 0
  · rw [h]; decide
  · refine (Nat.log2_lt h).mpr (Nat.lt_of_le_of_lt (show b.natAbs ≤ 10 ^ 12 by omega) (Nat.lt_of_lt_of_le (show 10 ^ 12 < 2 ^ 40 by decide) (Nat.pow_le_pow_right (by decide) (by decide))))
theorem digits_ok {b : Int} (h1 : -(10 ^ 12) ≤ b) (h2 : b ≤ 10 ^ 12) : (Str.ofString (toString b)).length ≤ sizeLine := int_text_fits (logs_ok h1 h2)
def spLeaf : Sp := fun vs H Q _ => ∃ (v : V) (m : Int) (t : T), vs = [v, .int m] ∧ Rep H v t ∧ T.calk t ∧ T.few t ∧ 0 ≤ m ∧ ∀ v' H' t', Same H H' → Rep H' v' t' → Fik (T.dep t + 1) 3 t' → Q v' H'
theorem scLeaf : FnScope ["_law_thing", "_law_more"] ["_law_thing", "_law_more"] (defScope sLeaf) := ⟨rfl, rfl, rfl, by decide +kernel, rfl, by decide +kernel, by decide +kernel⟩
theorem ok_leaf (F : Fun K "_law_leaf_other" "_law_leaf_other" sLeaf f fd) (B : Bl mg) : FnOk P w K mg base CX0 1 f fd ["_law_thing", "_law_more"] spLeaf := by
  refine F.ok scLeaf (fun vs H Q E h => ?_) (fun cdv A outer s H vs Q E hr h => ?_)
  · obtain ⟨v, m, t, rfl, _⟩ := h
    rfl
  obtain ⟨v, m, t, rfl, hv, hc, hf, hm, q⟩ := h
  have nd := scLeaf.nd
  have hu := hu_of hr
  refine ⟨_, (pss_cons (ps_if (pt_cmp (pc_isN (pv 0))) (pss_one (ps_ret (pe_ix ix_list (pe_lst (pa_cons pe_bl (pa_cons pe_int (pa_cons pe_str (pa_cons (pe_lst pa_nil) (pa_cons pe_dnewK pa_nil)))))) (pe_op op_mod (pv 1) pe_int) (fun _ _ => rfl)))) pss_nil)
    (pss_cons (ps_if (pt_val (pe_callB (call_isi (T := "bool") (by decide)) rfl B.isinstance bt_isinstance (pa_cons (pv 0) (pa_cons (pe_bltn (v := .ty "bool") rfl B.bool bt_bool rfl) pa_nil)))) (pss_one (ps_ret (pe_ix ix_list (pe_lst (pa_cons (pe_callTy call_int1 rfl B.int bt_int (pa_cons (pv 0) pa_nil)) (pa_cons (pe_not (pv 0)) (pa_cons pe_non (pa_cons (pe_lst (pa_cons (pv 0) pa_nil)) pa_nil))))) (pe_op op_mod (pv 1) pe_int) (fun _ _ => rfl)))) pss_nil)
    (pss_cons (ps_if (pt_val (pe_callB (call_isi (T := "int") (by decide)) rfl B.isinstance bt_isinstance (pa_cons (pv 0) (pa_cons (pe_bltn (v := .ty "int") rfl B.int bt_int rfl) pa_nil)))) (pss_one (ps_ret (pe_ix ix_list (pe_lst (pa_cons (pe_cmpR op_eq (pv 0) pe_int (nomark _)) (pa_cons (pe_op op_sub (pe_op op_add (pv 0) pe_int) (pe_op op_mul pe_int (pe_callTy call_intB rfl B.int bt_int (pa_cons (pe_cmpR op_gt (pv 0) pe_int (nomark _)) pa_nil)))) (pa_cons (pe_slice sl_str (pe_callTy call_str_int rfl B.str bt_str (pa_cons (pv 0) pa_nil)) po_none (po_some pe_int)) (pa_cons (pe_lst (pa_cons (pv 0) pa_nil)) pa_nil))))) (pe_op op_mod (pv 1) pe_int) (fun _ _ => rfl)))) pss_nil)
    (pss_cons (ps_if (pt_val (pe_callB (call_isi (T := "str") (by decide)) rfl B.isinstance bt_isinstance (pa_cons (pv 0) (pa_cons (pe_bltn (v := .ty "str") rfl B.str bt_str rfl) pa_nil)))) (pss_one (ps_ret (pe_ix ix_list (pe_lst (pa_cons (pe_slice sl_str (pv 0) (po_some pe_int) po_none) (pa_cons (pe_slice sl_str (pe_op op_add_str (pv 0) pe_str) po_none (po_some pe_int)) (pa_cons (pe_rev rv_str (pv 0) (po_some (pe_un un_neg pe_int))) (pa_cons pe_non pa_nil))))) (pe_op op_mod (pv 1) pe_int) (fun _ _ => rfl)))) pss_nil)
    (pss_cons (ps_if (pt_val (pe_callB (call_isi (T := "list") (by decide)) rfl B.isinstance bt_isinstance (pa_cons (pv 0) (pa_cons (pe_bltn (v := .ty "list") rfl B.list bt_list rfl) pa_nil)))) (pss_one (ps_ret (pe_ix ix_list (pe_lst (pa_cons pe_dnewK (pa_cons (pe_lst (pa_cons pe_non pa_nil)) (pa_cons (pe_lst (pa_cons (pe_lst pa_nil) pa_nil)) (pa_cons pe_str pa_nil))))) (pe_op op_mod (pv 1) pe_int) (fun _ _ => rfl)))) pss_nil)
    (pss_one (ps_ret (pe_ix ix_list (pe_lst (pa_cons (pe_lst pa_nil) (pa_cons (pe_disp (pps_cons pe_str pe_non pps_nil) (by rfl) (by rfl) (List.cons_ne_nil _ _) (by decide)) (pa_cons (pe_disp (pps_cons pe_str pe_dnewK pps_nil) (by rfl) (by rfl) (List.cons_ne_nil _ _) (by decide)) (pa_cons pe_non pa_nil))))) (pe_op op_mod (pv 1) pe_int) (fun _ _ => rfl))))))))), ?_⟩
  rw [show start ["_law_thing", "_law_more"] [v, .int m] = [some v, some (.int m)] from rfl]
  walk_at "rd2"
  cases t with
  | non =>
    cases (show v = _ from hv)
    refine iP rfl fun p1 hp1 p2 hp2 p3 hp3 => pick_any upd_same (by omega) (by simp only [List.length_cons, List.length_nil]; omega) fun x hx => ?_
    have g := (same_new hp1 (.lst [])).trans ((same_new hp2 (.dK [])).trans (same_new hp3 (.lst [V.bl false, V.int 0, V.str (Str.ofString ""), V.ref p1, V.ref p2])))
    simp only [List.mem_cons, List.not_mem_nil, or_false] at hx
    rcases hx with rfl | rfl | rfl | rfl | rfl
    · exact q _ _ (.bl false) g rfl ⟨True.intro, True.intro, Nat.zero_le _, by decide⟩
    · exact q _ _ (.int 0) g rfl ⟨True.intro, ⟨by decide, by decide⟩, Nat.zero_le _, by decide⟩
    · exact q _ _ (.str []) g rfl ⟨True.intro, Nat.zero_le _, Nat.zero_le _, by decide⟩
    · exact q _ _ (.lst []) g ⟨p1, [], rfl, (same_new hp2 _).trans (same_new hp3 _) _ _ upd_same, rfl⟩ ⟨⟨by simp, True.intro⟩, True.intro, Nat.le_refl _, by decide⟩
    · exact q _ _ (.dic [] []) g ⟨p2, [], rfl, same_new hp3 _ _ _ upd_same, rfl, rfl⟩ ⟨⟨List.nodup_nil, by decide, rfl, True.intro⟩, ⟨short_nil, True.intro⟩, Nat.le_refl _, by decide⟩
  | bl b =>
    cases (show v = _ from hv)
    refine iN (by simp) ⟨_, hv.ty, iP (by simp [tyT, isSub]) (.inr ⟨b, rfl, b, rfl, fun p1 hp1 p2 hp2 => pick_any upd_same (by omega) (by simp only [List.length_cons, List.length_nil]; omega) fun x hx => ?_⟩)⟩
    have g := (same_new hp1 (.lst [V.bl b])).trans (same_new hp2 (.lst [V.int (if b = true then 1 else 0), V.bl !b, V.non, V.ref p1]))
    simp only [List.mem_cons, List.not_mem_nil, or_false] at hx
    rcases hx with rfl | rfl | rfl | rfl
    · exact q _ _ (.int (if b = true then 1 else 0)) g rfl ⟨True.intro, by cases b <;> exact ⟨by decide, by decide⟩, Nat.zero_le _, Nat.le_of_ble_eq_true rfl⟩
    · exact q _ _ (.bl (!b)) g rfl ⟨True.intro, True.intro, Nat.zero_le _, Nat.le_of_ble_eq_true rfl⟩
    · exact q _ _ .non g rfl ⟨True.intro, True.intro, Nat.zero_le _, Nat.le_of_ble_eq_true rfl⟩
    · exact q _ _ (.lst [.bl b]) g ⟨p1, _, rfl, same_new hp2 _ _ _ upd_same, _, _, rfl, rfl, rfl⟩ ⟨⟨by simp, True.intro, True.intro⟩, ⟨True.intro, True.intro⟩, Nat.le_refl _, Nat.le_of_ble_eq_true rfl⟩
  | int b =>
    cases (show v = _ from hv)
    obtain ⟨c1, c2⟩ := hc
    refine iN (by simp) ⟨_, hv.ty, iN (by simp [tyT, isSub]) ⟨_, hv.ty, iP (by simp [tyT, isSub]) ⟨rfl, b, rfl, b, rfl, b, rfl, ?_, _, rfl, ?_, fun p1 hp1 p2 hp2 => pick_any upd_same (by omega) (by simp only [List.length_cons, List.length_nil]; omega) fun x hx => ?_⟩⟩⟩
    · exact logs_ok c1 c2
    · exact digits_ok c1 c2
    have e30 : Txt.slice (Str.ofString (toString b)) none (some 30) = tx ((ts (Str.ofString (toString b))).take 30) := slice_to _ 30
    rw [e30] at hx ⊢
    have g := (same_new hp1 (.lst [V.int b])).trans (same_new hp2 (.lst [V.bl (decide (V.int b = V.int 1)), V.int (b + 1 - 2 * if 0 < b then 1 else 0), V.str (tx ((ts (Str.ofString (toString b))).take 30)), V.ref p1]))
    simp only [List.mem_cons, List.not_mem_nil, or_false] at hx
    rcases hx with rfl | rfl | rfl | rfl
    · exact q _ _ (.bl _) g rfl ⟨True.intro, True.intro, Nat.zero_le _, Nat.le_of_ble_eq_true rfl⟩
    · exact q _ _ (.int _) g rfl ⟨True.intro, ⟨by split <;> omega, by split <;> omega⟩, Nat.zero_le _, Nat.le_of_ble_eq_true rfl⟩
    · exact q _ _ (.str _) g rfl ⟨True.intro, Nat.le_trans (List.length_take_le _ _) (by decide), Nat.zero_le _, Nat.le_of_ble_eq_true rfl⟩
    · exact q _ _ (.lst [.int b]) g ⟨p1, _, rfl, same_new hp2 _ _ _ upd_same, _, _, rfl, rfl, rfl⟩ ⟨⟨by simp, True.intro, True.intro⟩, ⟨⟨c1, c2⟩, True.intro⟩, Nat.le_refl _, Nat.le_of_ble_eq_true rfl⟩
  | str b =>
    cases (show v = _ from hv)
    have hc' : b.length ≤ 100 := hc
    have eap : tx b ++ Str.ofString " " = tx (b ++ [32]) := (show tx b ++ tx [32] = _ from app_tx b [32])
    refine iN (by simp) ⟨_, hv.ty, iN (by simp [tyT, isSub]) ⟨_, hv.ty, iN (by simp [tyT, isSub]) ⟨_, hv.ty, iP (by simp [tyT, isSub]) ⟨_, rfl, ?_, _, rfl, ?_, _, rfl, ?_, ?_⟩⟩⟩⟩
    · rw [sizeLine_eq, tx_len]; omega
    · show (tx b).length + _ ≤ _
      rw [tx_len]
      show b.length + 1 ≤ _
      omega
    · rw [sizeLine_eq, eap, tx_len, List.length_append]
      show b.length + 1 ≤ _
      omega
    · unfold tRev
      walk_at "rd2"
      have e1 : Txt.slice (tx b) (some 1) none = tx (b.drop 1) := slice_from (tx b) 1
      have e2 : Txt.slice (tx b ++ Str.ofString " ") none (some 30) = tx ((b ++ [32]).take 30) := by rw [eap]; exact slice_to (tx (b ++ [32])) 30
      rw [e1, e2]
      refine ⟨_, rfl, by rw [sizeLine_eq, tx_len]; omega, fun p1 hp1 => pick_any upd_same (by omega) (by simp only [List.length_cons, List.length_nil]; omega) fun x hx => ?_⟩
      have g := same_new hp1 (.lst [V.str (tx (b.drop 1)), V.str (tx ((b ++ [32]).take 30)), V.str (tx (ts (tx b)).reverse), V.non])
      simp only [List.mem_cons, List.not_mem_nil, or_false] at hx
      rcases hx with rfl | rfl | rfl | rfl
      · exact q _ _ (.str _) g rfl ⟨True.intro, by show (b.drop 1).length ≤ 100; rw [List.length_drop]; omega, Nat.zero_le _, Nat.le_of_ble_eq_true rfl⟩
      · exact q _ _ (.str _) g rfl ⟨True.intro, Nat.le_trans (List.length_take_le _ _) (by decide), Nat.zero_le _, Nat.le_of_ble_eq_true rfl⟩
      · exact q _ _ (.str _) g rfl ⟨True.intro, by show (ts (tx b)).reverse.length ≤ 100; rw [List.length_reverse]; exact hc', Nat.zero_le _, Nat.le_of_ble_eq_true rfl⟩
      · exact q _ _ .non g rfl ⟨True.intro, True.intro, Nat.zero_le _, Nat.le_of_ble_eq_true rfl⟩
  | lst us =>
    have hty := hv.ty
    refine iN (by obtain ⟨a, xs, rfl, _⟩ := hv; simp) ⟨_, hty, iN (by simp [tyT, isSub]) ⟨_, hty, iN (by simp [tyT, isSub]) ⟨_, hty, iN (by simp [tyT, isSub]) ⟨_, hty, iP (by simp [tyT, isSub]) fun p1 hp1 p2 hp2 p3 hp3 p4 hp4 p5 hp5 => pick_any upd_same (by omega) (by simp only [List.length_cons, List.length_nil]; omega) fun x hx => ?_⟩⟩⟩⟩
    have g5 := same_new hp5 (.lst [V.ref p1, V.ref p2, V.ref p4, V.str (Str.ofString "")])
    have g4 := (same_new hp4 (.lst [V.ref p3])).trans g5
    have g3 := (same_new hp3 (.lst [])).trans g4
    have g2 := (same_new hp2 (.lst [V.non])).trans g3
    have g := (same_new hp1 (.dK [])).trans g2
    simp only [List.mem_cons, List.not_mem_nil, or_false] at hx
    have h1 : (1 : Nat) ≤ T.dep (.lst us) + 1 := Nat.succ_le_succ (Nat.zero_le _)
    have h2 : (2 : Nat) ≤ T.dep (.lst us) + 1 := Nat.succ_le_succ (Nat.succ_le_succ (Nat.zero_le _))
    rcases hx with rfl | rfl | rfl | rfl
    · exact q _ _ (.dic [] []) g ⟨p1, [], rfl, g2 _ _ upd_same, rfl, rfl⟩ ⟨⟨List.nodup_nil, by decide, rfl, True.intro⟩, ⟨short_nil, True.intro⟩, h1, Nat.le_of_ble_eq_true rfl⟩
    · exact q _ _ (.lst [.non]) g ⟨p2, _, rfl, g3 _ _ upd_same, _, _, rfl, rfl, rfl⟩ ⟨⟨by simp, True.intro, True.intro⟩, ⟨True.intro, True.intro⟩, h1, Nat.le_of_ble_eq_true rfl⟩
    · exact q _ _ (.lst [.lst []]) g ⟨p4, _, rfl, g5 _ _ upd_same, _, _, rfl, ⟨p3, [], rfl, g4 _ _ upd_same, rfl⟩, rfl⟩ ⟨⟨by simp, ⟨by simp, True.intro⟩, True.intro⟩, ⟨True.intro, True.intro⟩, h2, Nat.le_of_ble_eq_true rfl⟩
    · exact q _ _ (.str []) g rfl ⟨True.intro, Nat.zero_le _, Nat.zero_le _, Nat.le_of_ble_eq_true rfl⟩
  | dic ks us =>
    have hty := hv.ty
    refine iN (by obtain ⟨a, xs, rfl, _⟩ := hv; simp) ⟨_, hty, iN (by simp [tyT, isSub]) ⟨_, hty, iN (by simp [tyT, isSub]) ⟨_, hty, iN (by simp [tyT, isSub]) ⟨_, hty, iN (by simp [tyT, isSub]) fun p1 hp1 p2 hp2 => ⟨upd_same, [(Sum.inr "a", .non)], rfl, by decide, fun p3 hp3 p4 hp4 => ⟨?_, [(Sum.inr "a", .ref p4)], rfl, by simp, fun p5 hp5 => pick_any upd_same (by omega) (by simp only [List.length_cons, List.length_nil]; omega) fun x hx => ?_⟩⟩⟩⟩⟩⟩
    · rw [upd_ne (ne_of_none upd_same hp4)]; exact upd_same
    rw [show mergeK [] [(Sum.inr (Str.ofString "a"), V.non)] = [(Sum.inr (Str.ofString "a"), V.non)] from rfl] at *
    rw [show mergeK [] [(Sum.inr (Str.ofString "a"), V.ref p4)] = [(Sum.inr (Str.ofString "a"), V.ref p4)] from rfl] at *
    have gA := same_new hp1 (.lst [])
    have hA1 : upd H p1 (.lst []) p1 = some (.lst []) := upd_same
    generalize upd H p1 (.lst []) = A1 at *
    have gB : Same A1 (upd (upd A1 p2 (.dK [])) p2 (.dK [(Sum.inr (Str.ofString "a"), V.non)])) := (same_new hp2 _).put hp2 _
    have hB2 : upd (upd A1 p2 (.dK [])) p2 (.dK [(Sum.inr (Str.ofString "a"), V.non)]) p2 = some (.dK [(Sum.inr (Str.ofString "a"), V.non)]) := upd_same
    generalize upd (upd A1 p2 (.dK [])) p2 (.dK [(Sum.inr (Str.ofString "a"), V.non)]) = B1 at *
    have gC : Same B1 (upd (upd (upd B1 p3 (.dK [])) p4 (.dK [])) p3 (.dK [(Sum.inr (Str.ofString "a"), V.ref p4)])) := ((same_new hp3 _).trans (same_new hp4 _)).put hp3 _
    have hC3 : upd (upd (upd B1 p3 (.dK [])) p4 (.dK [])) p3 (.dK [(Sum.inr (Str.ofString "a"), V.ref p4)]) p3 = some (.dK [(Sum.inr (Str.ofString "a"), V.ref p4)]) := upd_same
    have hC4 : upd (upd (upd B1 p3 (.dK [])) p4 (.dK [])) p3 (.dK [(Sum.inr (Str.ofString "a"), V.ref p4)]) p4 = some (.dK []) := by rw [upd_ne (ne_of_none upd_same hp4).symm]; exact upd_same
    generalize upd (upd (upd B1 p3 (.dK [])) p4 (.dK [])) p3 (.dK [(Sum.inr (Str.ofString "a"), V.ref p4)]) = C1 at *
    have gD := same_new hp5 (.lst [V.ref p1, V.ref p2, V.ref p3, V.non])
    have g := gA.trans (gB.trans (gC.trans gD))
    simp only [List.mem_cons, List.not_mem_nil, or_false] at hx
    have h1 : (1 : Nat) ≤ T.dep (.dic ks us) + 1 := Nat.succ_le_succ (Nat.zero_le _)
    have h2 : (2 : Nat) ≤ T.dep (.dic ks us) + 1 := Nat.succ_le_succ (Nat.succ_le_succ (Nat.zero_le _))
    have ea : (Sum.inr (Str.ofString "a") : Key) = Sum.inr (tx (ts (Str.ofString "a"))) := by rw [tx_ts]
    rcases hx with rfl | rfl | rfl | rfl
    · exact q _ _ (.lst []) g ⟨p1, [], rfl, (gB.trans (gC.trans gD)) _ _ hA1, rfl⟩ ⟨⟨by simp, True.intro⟩, True.intro, h1, Nat.le_of_ble_eq_true rfl⟩
    · exact q _ _ (.dic [ts (Str.ofString "a")] [.non]) g ⟨p2, _, rfl, (gC.trans gD) _ _ hB2, by rw [List.map_cons, List.map_nil, List.map_cons, List.map_nil, ← ea], _, _, rfl, rfl, rfl⟩ ⟨⟨by simp, by simp, rfl, True.intro, True.intro⟩, ⟨short_a, True.intro, True.intro⟩, h1, Nat.le_of_ble_eq_true rfl⟩
    · exact q _ _ (.dic [ts (Str.ofString "a")] [.dic [] []]) g ⟨p3, _, rfl, gD _ _ hC3, by rw [List.map_cons, List.map_nil, List.map_cons, List.map_nil, ← ea], _, _, rfl, ⟨p4, [], rfl, gD _ _ hC4, rfl, rfl⟩, rfl⟩ ⟨⟨by simp, by simp, rfl, ⟨List.nodup_nil, by decide, rfl, True.intro⟩, True.intro⟩, ⟨short_a, ⟨short_nil, True.intro⟩, True.intro⟩, h2, Nat.le_of_ble_eq_true rfl⟩
    · exact q _ _ .non g rfl ⟨True.intro, True.intro, Nat.zero_le _, Nat.le_of_ble_eq_true rfl⟩
  | tup us => exact hf.elim
abbrev sVar : Stmt := top 37
theorem szs_perm {a b : List T} (h : a.Perm b) : T.szs a = T.szs b := by
  induction h with
  | nil => rfl
  | cons x _ ih => show T.sz x + _ = T.sz x + _; rw [ih]
  | swap x y l => show T.sz y + (T.sz x + _) = T.sz x + (T.sz y + _); omega
  | trans _ _ h1 h2 => exact h1.trans h2
theorem szs_look : ∀ {ks : List (List Nat)} {us : List T}, ks.Nodup → ks.length = us.length → T.szs (ks.map fun k => lookT k ks us) = T.szs us
  | [], [], _, _ => rfl
  | [], _ :: _, _, h => by simp at h
  | _ :: _, [], _, h => by simp at h
  | k :: ks, u :: us, nd, hl => by
    rw [List.nodup_cons] at nd
    rw [List.map_cons]
    show T.sz (if k = k then u else _) + T.szs _ = T.sz u + T.szs us
    have e : (ks.map fun k' => lookT k' (k :: ks) (u :: us)) = ks.map fun k' => lookT k' ks us := List.map_congr_left fun k' hk' => by
      show (if k = k' then u else lookT k' ks us) = _
      rw [if_neg fun (e : k = k') => nd.1 (e ▸ hk')]
    rw [if_pos rfl, e, szs_look nd.2 (by simpa using hl)]
theorem szs_reverse (a : List T) : T.szs a.reverse = T.szs a := szs_perm (List.reverse_perm a)
theorem szs_take_le (a : List T) (i : Nat) : T.szs (a.take i) ≤ T.szs a := by
  have := szs_append (a.take i) (a.drop i)
  rw [List.take_append_drop] at this
  omega
theorem szs_drop_le (a : List T) (i : Nat) : T.szs (a.drop i) ≤ T.szs a := by
  have := szs_append (a.take i) (a.drop i)
  rw [List.take_append_drop] at this
  omega
def spVar (n : Nat) : Sp := fun vs H Q _ => ∃ (v : V) (m : Int) (nm : List Nat) (t : T), vs = [v, .int m, .str (tx nm)] ∧ Rep H v t ∧ T.few t ∧ T.calk t ∧ T.dep t < n ∧ n ≤ 10 ∧ T.sz t ≤ 8000 ∧ 0 ≤ m ∧ nm.length ≤ 100 ∧ ∀ v' H' t', Same H H' → Rep H' v' t' → Fik (T.dep t + 1) (5 * T.sz t) t' → Q v' H'
theorem scVar : FnScope ["_law_thing", "_law_more", "_law_names", "_law_at", "_law_some", "_law_result", "_law_name"] ["_law_thing", "_law_more", "_law_names"] (defScope sVar) := ⟨rfl, rfl, rfl, by decide +kernel, rfl, by decide +kernel, by decide +kernel⟩
theorem ok_varS {n : Nat} (F : Fun K "_law_varied" "_law_varied" sVar f fd) (B : Bl2 mg) (G_law_leaf_other : Dn P w K mg base 1 "_law_leaf_other" ["_law_thing", "_law_more"] spLeaf) (G_law_held : Dn P w K mg base (1 + 10) "_law_held" ["_law_thing"] (spHeld 10))
    (G_law_varied : Dn P w K mg base (11 + n) "_law_varied" ["_law_thing", "_law_more", "_law_names"] (spVar n)) : FnOk P w K mg base CX0 (11 + n + 1) f fd ["_law_thing", "_law_more", "_law_names"] (spVar (n + 1)) := by
  refine F.ok scVar (fun vs H Q E h => ?_) (fun cdv A outer s H vs Q E hr h => ?_)
  · obtain ⟨v, m, nm, t, rfl, _⟩ := h
    rfl
  obtain ⟨v, m, nm, t, rfl, hv, hf, hc, hd, hn, hz, hm, hnm, q⟩ := h
  have nd := scVar.nd
  have hu := hu_of hr
  have hu0 := hr.units0
  refine ⟨_, (pss_cons (ps_mid (ps_if (PW.pt (pw_and (pt_val (pe_callB (call_isi (T := "list") (by decide)) rfl B.isinstance bt_isinstance (pa_cons (pv 0) (pa_cons (pe_bltn (v := .ty "list") rfl B.list bt_list rfl) pa_nil)))) (pw_and (pt_cmpR (op_ne_0 hu0) (pv 0) (pe_lst pa_nil) (nomark _)) (pw_and1 (pt_cmpR op_gt (pe_op op_mod (pv 1) pe_int) pe_int (nomark _)))))) (pss_cons (ps_set (i := 3) nd rfl (Or.inl rfl) (pe_op op_mod (pe_op op_fdiv (pv 1) pe_int) (pe_callB call_len_l rfl B.len bt_len (pa_cons (pv 0) pa_nil))))
    (pss_one (ps_ret (pe_op op_cat (pe_op op_cat (pe_slice sl_list (pv 0) po_none (po_some (pv 3))) (pe_lst (pa_cons (pe_cd G_law_varied hr (by omega) rfl (pa_cons (pe_ix ix_list (pv 0) (pv 3) (fun _ _ => rfl)) (pa_cons (pe_op op_fdiv (pv 1) pe_int) (pa_cons (pv 2) pa_nil)))) pa_nil))) (pe_slice sl_list (pv 0) (po_some (pe_op op_add (pv 3) pe_int)) po_none))))) pss_nil))
    (pss_cons (ps_mid (ps_if (PW.pt (pw_and (pt_val (pe_callB (call_isi (T := "dict") (by decide)) rfl B.isinstance bt_isinstance (pa_cons (pv 0) (pa_cons (pe_bltn (v := .ty "dict") rfl B.dict bt_dict rfl) pa_nil)))) (pw_and (pt_cmpR (op_ne_D hu0) (pv 0) pe_dnewK (nomark _)) (pw_and1 (pt_cmpR op_gt (pe_op op_mod (pv 1) pe_int) pe_int (nomark _)))))) (pss_cons (ps_set (i := 4) nd rfl (Or.inl rfl) (pe_callB (call_sorted_d rfl) rfl B.sorted bt_sorted (pa_cons (pv 0) pa_nil)))
    (pss_cons (ps_mid (ps_if (pt_cmpR op_eq (pe_op op_mod (pe_op op_fdiv (pv 1) pe_int) pe_int) pe_int (nomark _)) (pss_one (ps_set (i := 4) nd rfl (Or.inl rfl) (pe_rev rv_list (pv 4) (po_some (pe_un un_neg pe_int))))) pss_nil))
    (pss_cons (ps_set (i := 3) nd rfl (Or.inl rfl) (pe_ix ix_list (pv 4) (pe_op op_mod (pe_op op_fdiv (pv 1) pe_int) (pe_callB call_len_l rfl B.len bt_len (pa_cons (pv 4) pa_nil))) (fun _ _ => rfl)))
    (pss_cons (ps_set (i := 5) nd rfl (Or.inl rfl) pe_dnewK)
    (pss_cons (ps_for PassesOwn.never rfl (pi_list (pv 4)) (pg_name (i := 6) nd rfl (Or.inl rfl)) (pss_one (ps_if (pt_cmpR op_ne (pv 6) (pv 3) (nomark _)) (pss_one (ps_dput hu (pv 5) (pv 6) (pe_hide (pe_cd G_law_held hr (by omega) rfl (pa_cons (pe_dget hu (pv 0) (pv 6) (fun _ _ => rfl)) pa_nil))) rfl)) (pss_one (ps_if (pt_cmpR op_eq (pe_op op_mod (pe_op op_fdiv (pv 1) pe_int) pe_int) pe_int (nomark _)) (pss_one (ps_dput hu (pv 5) (pv 2) (pe_hide (pe_cd G_law_held hr (by omega) rfl (pa_cons (pe_dget hu (pv 0) (pv 6) (fun _ _ => rfl)) pa_nil))) rfl)) (pss_one (ps_dput hu (pv 5) (pv 6) (pe_hide (pe_cd G_law_varied hr (by omega) rfl (pa_cons (pe_dget hu (pv 0) (pv 6) (fun _ _ => rfl)) (pa_cons (pe_op op_fdiv (pv 1) pe_int) (pa_cons (pv 2) pa_nil))))) rfl)))))))
    (pss_one (ps_ret (pv 5)))))))) pss_nil))
    (pss_cons (ps_mid (ps_if (PW.pt (pw_and (pt_val (pe_callB (call_isi (T := "list") (by decide)) rfl B.isinstance bt_isinstance (pa_cons (pv 0) (pa_cons (pe_bltn (v := .ty "list") rfl B.list bt_list rfl) pa_nil)))) (pw_and1 (pt_cmpR (op_ne_0 hu0) (pv 0) (pe_lst pa_nil) (nomark _))))) (pss_one (ps_ret (pe_ix ix_list (pe_lst (pa_cons (pe_slice sl_list (pv 0) (po_some pe_int) po_none) (pa_cons (pe_slice sl_list (pv 0) po_none (po_some (pe_un un_neg pe_int))) (pa_cons (pe_op op_cat (pv 0) (pe_lst (pa_cons (pe_ix ix_list (pv 0) pe_int (fun _ _ => rfl)) pa_nil))) (pa_cons (pe_rev rv_list (pv 0) (po_some (pe_un un_neg pe_int))) pa_nil))))) (pe_op op_mod (pe_op op_fdiv (pv 1) pe_int) pe_int) (fun _ _ => rfl)))) pss_nil))
    (pss_cons (ps_mid (ps_if (PW.pt (pw_and (pt_val (pe_callB (call_isi (T := "dict") (by decide)) rfl B.isinstance bt_isinstance (pa_cons (pv 0) (pa_cons (pe_bltn (v := .ty "dict") rfl B.dict bt_dict rfl) pa_nil)))) (pw_and1 (pt_cmpR (op_ne_D hu0) (pv 0) pe_dnewK (nomark _))))) (pss_one (ps_ret (pe_callTy (call_dict_p rfl) rfl B.dict bt_dict (pa_cons (pe_comp (own := ["_law_name"]) (F := [("_law_thing", 0)]) ⟨rfl, by with_unfolding_all rfl, by with_unfolding_all rfl, by with_unfolding_all rfl, (.cons rfl rfl rfl .nil)⟩ rfl (pi_list (pe_slice sl_list (pe_callB (call_sorted_d rfl) rfl B.sorted bt_sorted (pa_cons (pv 0) pa_nil)) (po_some pe_int) po_none)) (fun _ _ _ _ => pg_name (i := 0) (by show (compN ["_law_name"] [("_law_thing", 0)]).Nodup; decide +kernel) rfl (Or.inl rfl)) (fun _ _ _ _ => pts_nil) (fun _ _ _ _ => (pe_tup (pa_cons (pv 0) (pa_cons (pe_dget hu (pv 1) (pv 0) (fun _ _ => rfl)) pa_nil))))) pa_nil)))) pss_nil))
    (pss_one (ps_ret (pe_cd G_law_leaf_other hr (by omega) rfl (pa_cons (pv 0) (pa_cons (pe_op op_fdiv (pv 1) pe_int) pa_nil))))))))), ?_⟩
  rw [show start ["_law_thing", "_law_more", "_law_names", "_law_at", "_law_some", "_law_result", "_law_name"] [v, .int m, .str (tx nm)] = [some v, some (.int m), some (.str (tx nm)), none, none, none, none] from rfl]
  walk_at "rd2"
  unfold tMid
  walk_at "rd2"
  have hty := hv.ty
  refine ⟨fun σ' H' => σ' = [some v, some (.int m), some (.str (tx nm)), none, none, none, none] ∧ Same H H', ?_, ?_⟩
  · cases t with
    | lst us =>
      refine ⟨_, hty, iP (by simp [tyT, isSub]) fun p hp => ?_⟩
      have hv0 := hv
      obtain ⟨a, xs, rfl, ha, hx⟩ := hv
      have hxl := hx.length
      have g1 := same_new hp (.lst [])
      refine ⟨a, p, xs, rfl, rfl, SqL.of (g1 _ _ ha), SqL.of upd_same, _, rfl, ?_⟩
      by_cases hemp : xs.isEmpty = true
      · exact iN (by simp [hemp]) ⟨rfl, g1⟩
      refine iP (by simp [hemp]) ?_
      by_cases h7 : 0 < m % 7
      · refine iP h7 ⟨a, rfl, xs, SqL.of (g1 _ _ ha), ?_, ?_⟩
        · have : xs ≠ [] := fun z => hemp (by rw [z]; rfl)
          have := List.length_pos_iff.mpr this
          omega
        have hpos : 0 < xs.length := List.length_pos_iff.mpr fun z => hemp (by rw [z]; rfl)
        obtain ⟨i, hi, hil⟩ : ∃ i : Nat, m / 7 % (xs.length : Int) = i ∧ i < xs.length := by
          have h1 := Int.emod_nonneg (m / 7) (show (xs.length : Int) ≠ 0 by omega)
          have h2 := Int.emod_lt_of_pos (m / 7) (show (0 : Int) < xs.length by omega)
          exact ⟨(m / 7 % (xs.length : Int)).toNat, by omega, by omega⟩
        rw [hi]
        obtain ⟨t1, ht1, hr1⟩ := hx.get (i := i) (v := xs[i]) (by simp [hil])
        have hm1 := List.mem_of_getElem? ht1
        have hd1 := T.deps_le hm1
        have hdl : T.deps us + 1 < n + 1 := hd
        have hzl : T.szs us + 1 ≤ 8000 := hz
        have hsp := szs_split ht1
        refine ⟨a, xs, rfl, SqL.of (g1 _ _ ha), fun p2 hp2 => ?_⟩
        rw [cut_to]
        have g2 := g1.trans (same_new hp2 (.lst (xs.take i)))
        have hP2 : upd (upd H p (.lst [])) p2 (.lst (xs.take i)) p2 = some (.lst (xs.take i)) := upd_same
        generalize upd (upd H p (.lst [])) p2 (.lst (xs.take i)) = H2 at *
        refine rIxL_i (SqL.of (g2 _ _ ha)) (atI_nat (v := xs[i]) (by simp [hil])) ⟨_, _, nm, t1, rfl, Rep.same g2 _ _ hr1, T.fews_mem hf.2 hm1, T.calks_mem hc hm1, by omega, by omega, by omega, by omega, hnm, fun v' H3 t' g3 hv' ft p3 hp3 => ?_⟩
        have g3' := g3.trans (same_new hp3 (.lst [v']))
        have hv3 := Rep.same (same_new hp3 (.lst [v'])) _ _ hv'
        have hP3 : upd H3 p3 (.lst [v']) p3 = some (.lst [v']) := upd_same
        generalize upd H3 p3 (.lst [v']) = H4 at *
        have hl1 : (xs.take i).length = i := by rw [List.length_take]; omega
        refine ⟨p2, p3, _, _, rfl, rfl, g3' _ _ hP2, hP3, by rw [sizeLine_eq, hl1, List.length_singleton]; have := len_szs us; omega, fun p4 hp4 => ?_⟩
        have g4 := same_new hp4 (.lst (xs.take i ++ [v']))
        have hP4 : upd H4 p4 (.lst (xs.take i ++ [v'])) p4 = some (.lst (xs.take i ++ [v'])) := upd_same
        generalize upd H4 p4 (.lst (xs.take i ++ [v'])) = H5 at *
        have gH5 := g2.trans (g3'.trans g4)
        refine ⟨a, xs, rfl, SqL.of (gH5 _ _ ha), fun p5 hp5 => ?_⟩
        rw [show ((i : Int) + 1) = ((i + 1 : Nat) : Int) by omega, cut_from]
        have g5 := same_new hp5 (.lst (xs.drop (i + 1)))
        have hP5 : upd H5 p5 (.lst (xs.drop (i + 1))) p5 = some (.lst (xs.drop (i + 1))) := upd_same
        generalize upd H5 p5 (.lst (xs.drop (i + 1))) = H6 at *
        refine ⟨p4, p5, _, _, rfl, rfl, g5 _ _ hP4, hP5, ?_, fun p6 hp6 => ?_⟩
        · rw [sizeLine_eq, List.length_append, hl1, List.length_singleton, List.length_drop]
          have := len_szs us
          omega
        have g6 := same_new hp6 (.lst (xs.take i ++ [v'] ++ xs.drop (i + 1)))
        refine q _ _ (.lst (us.take i ++ [t'] ++ us.drop (i + 1))) (gH5.trans (g5.trans g6)) ⟨p6, _, rfl, upd_same, ?_⟩ ?_
        · refine Reps.append (Reps.same (gH5.trans (g5.trans g6)) _ _ (Reps.drop (i + 1) hx)) (Reps.snoc (Rep.same (g4.trans (g5.trans g6)) _ _ hv3) (Reps.same (gH5.trans (g5.trans g6)) _ _ (Reps.take i hx)))
        · have kf := kids_fik hf.2 hc
          have hdt := ft.dep
          have hzt := ft.sz
          have hsz : T.szs (us.take i ++ [t'] ++ us.drop (i + 1)) = T.szs (us.take i) + T.sz t' + T.szs (us.drop (i + 1)) := by rw [szs_append, szs_snoc]
          have hzq : T.sz (.lst us) = T.szs us + 1 := rfl
          refine Fik.row (fun u hu => ?_) (Nat.succ_le_succ (Nat.zero_le _)) (by omega) (by omega)
          rcases List.mem_append.mp hu with z | z
          · rcases List.mem_append.mp z with z | z
            · have := kf u (List.mem_of_mem_take z)
              exact ⟨this.1, this.2.1, Nat.le_succ_of_le this.2.2⟩
            · rw [List.mem_singleton] at z
              subst z
              refine ⟨ft.few, ft.calk, ?_⟩
              show T.dep u + 1 ≤ T.deps us + 1 + 1
              omega
          · have := kf u (List.mem_of_mem_drop z)
            exact ⟨this.1, this.2.1, Nat.le_succ_of_le this.2.2⟩
      · exact iN h7 ⟨rfl, g1⟩
    | _ => exact ⟨_, hty, iN (by simp [tyT, isSub]) ⟨rfl, Same.refl _⟩⟩
  · rintro σ' H1 ⟨rfl, g1⟩
    walk_at "rd2"
    have hty1 := tyS_same g1 hty
    refine ⟨fun σ' H' => σ' = [some v, some (.int m), some (.str (tx nm)), none, none, none, none] ∧ Same H H', ?_, ?_⟩
    · cases t with
      | dic ks us =>
        refine ⟨_, hty1, iP (by simp [tyT, isSub]) fun p hp => ?_⟩
        obtain ⟨a, ps, rfl, ha, hk, hx⟩ := hv
        have g2 := g1.trans (same_new hp (.dK []))
        have hpe : upd H1 p (.dK []) p = some (.dK []) := upd_same
        generalize upd H1 p (.dK []) = H2 at *
        refine ⟨a, p, ps, rfl, rfl, g2 _ _ ha, hpe, _, rfl, ?_⟩
        by_cases hemp : ps.isEmpty = true
        · exact iN (by simp [hemp]) ⟨rfl, g2⟩
        refine iP (by simp [hemp]) ?_
        by_cases h7 : 0 < m % 7
        · refine iP h7 ?_
          obtain ⟨nk, h64, hle, hfk⟩ := hf
          refine ⟨a, rfl, ps, .inl (g2 _ _ ha), ks.map tx, by rw [hk, List.map_map]; rfl, by rw [List.length_map]; exact h64, fun l ss hl hp1 hs1 => ?_⟩
          have es := sorted_names hp1 hs1
          have emap : ss.map V.str = (sortK ks).map fun k => V.str (tx k) := by rw [es, List.map_map]; rfl
          rw [emap]
          have g3 := g2.trans (same_new hl (.lst ((sortK ks).map fun k => V.str (tx k))))
          have hl3 : upd H2 l (.lst ((sortK ks).map fun k => V.str (tx k))) l = some (.lst ((sortK ks).map fun k => V.str (tx k))) := upd_same
          generalize upd H2 l (.lst ((sortK ks).map fun k => V.str (tx k))) = H3 at *
          refine ⟨fun σ' H' => ∃ (l : Addr) (ns : List (List Nat)), σ' = [some (.ref a), some (.int m), some (.str (tx nm)), none, some (.ref l), none, none] ∧ H' l = some (.lst (ns.map fun k => V.str (tx k))) ∧ ns.Perm ks ∧ Same H H', ?_, ?_⟩
          · by_cases h5 : m / 5 % 2 = 1
            · refine iP h5 ?_
              unfold tRev
              walk_at "rd2"
              refine ⟨l, _, rfl, SqL.of hl3, fun l2 hl2 => ⟨l2, rfl, (sortK ks).reverse, ?_, (List.reverse_perm _).trans (sortK_perm ks), g3.trans (same_new hl2 _)⟩⟩
              rw [upd_same, List.map_reverse]
            · exact iN h5 ⟨l, sortK ks, rfl, hl3, sortK_perm ks, g3⟩
          rintro σ' H4 ⟨l4, ns, rfl, hl4, hpm, g4⟩
          walk_at "rd2"
          have hnl : ns.length = ks.length := hpm.length_eq
          have hkl : ps.length = ks.length := by have := congrArg List.length hk; simpa using this
          have hpos : 0 < ps.length := List.length_pos_iff.mpr fun z => hemp (by rw [z]; rfl)
          refine ⟨_, SqL.of hl4, by rw [List.length_map]; omega, ?_⟩
          obtain ⟨x, hx1, hxm⟩ := atI_of (xs := ns.map fun k => V.str (tx k)) (i := m / 7 % ((ns.map fun k => V.str (tx k)).length : Int)) (Int.emod_nonneg _ (by rw [List.length_map]; omega)) (Int.emod_lt_of_pos _ (by rw [List.length_map]; omega))
          obtain ⟨kat, hkat, rfl⟩ := List.mem_map.mp hxm
          refine rIxL_i (SqL.of hl4) hx1 fun pr hpr => ?_
          have hl5 := same_new hpr (.dK []) _ _ hl4
          have hne : l4 ≠ pr := ne_of_none hl4 hpr
          refine ⟨⟨_, SqL.of hl5⟩, forB_list (K := K) (a := l4) (xs := ns.map fun k => V.str (tx k)) (fun i σ' H' => ∃ o6, σ' = [some (.ref a), some (.int m), some (.str (tx nm)), some (.str (tx kat)), some (.ref l4), some (.ref pr), o6] ∧ Same H4 (hide H' pr) ∧ ∃ (qs : List (Key × V)) (ks' : List (List Nat)) (us' : List T), H' pr = some (.dK qs) ∧ qs.map (·.1) = ks'.map nK ∧ Reps (hide H' pr) (qs.map (·.2)) us' ∧ ks'.Nodup ∧ (∀ k ∈ ks', k.length ≤ 100) ∧ ks'.length ≤ i ∧ (∀ u ∈ us', T.few u ∧ T.calk u ∧ T.dep u + 1 ≤ T.deps us + 1 + 1) ∧ T.szs us' ≤ 5 * T.szs ((ns.take i).map fun k => lookT k ks us)) ?_ ?_ ?_ ?_⟩
          · exact ⟨_, rfl, by rw [hide_upd, hide_new hpr]; exact Same.refl _, [], [], [], upd_same, rfl, rfl, List.nodup_nil, short_nil, Nat.le_refl _, fun u hu => (nomatch hu), Nat.zero_le _⟩
          · rintro i σ' H' _ ⟨o6, rfl, gh, _⟩
            exact SqL.of (hide_self _ _ (gh _ _ hl4))
          · rintro i y σ' H' hy ⟨o6, rfl, gh, qs, ks', us', hq, hqk, hqr, hqn, hqs, hql, hqf, hqz⟩
            unfold tHides tHide
            walk_at "rd2"
            rw [List.getElem?_map] at hy
            cases hki : ns[i]? with
            | none => rw [hki] at hy; cases hy
            | some k =>
              rw [hki] at hy
              have ey : V.str (tx k) = y := Option.some.inj hy
              subst ey
              have hmk : k ∈ ks := hpm.mem_iff.mp (List.mem_of_getElem? hki)
              have hmu := lookT_mem hmk hle
              have hdu := T.deps_le hmu
              have hzu := T.szs_le hmu
              have hdl : T.deps us + 1 < n + 1 := hd
              have hzl : T.szs us + 1 ≤ 8000 := hz
              have hapr : a ≠ pr := ne_of_none (g4 _ _ ha) hpr
              have G : ∀ w : HO, Same H (upd H' pr w) := fun w => g4.trans (gh.trans hide_sub)
              have fin : ∀ (o : Obj) (key : List Nat) (v' : V) (Hc : Hp) (t'' : T), key.length ≤ 100 → Same (upd H' pr (.frz o (.dK qs))) Hc → Rep Hc v' t'' → (T.few t'' ∧ T.calk t'' ∧ T.dep t'' ≤ T.deps us + 1) → T.sz t'' ≤ 5 * T.sz (lookT k ks us) →
                  ∃ x, DPut (L2.thaw H' Hc) pr (V.str (tx key)) v' x ∧ Same H4 (hide x pr) ∧ ∃ qs, x pr = some (HO.dK qs) ∧ ∃ x_1, List.map (fun x => x.fst) qs = List.map nK x_1 ∧ ∃ x_2, Reps (hide x pr) (List.map (fun x => x.snd) qs) x_2 ∧ x_1.Nodup ∧ (∀ k ∈ x_1, k.length ≤ 100) ∧ x_1.length ≤ i + 1 ∧
                    (∀ (u : T), u ∈ x_2 → u.few ∧ u.calk ∧ u.dep ≤ T.deps us + 1) ∧ T.szs x_2 ≤ 5 * T.szs (List.map (fun k => lookT k ks us) (List.take (i + 1) ns)) := by
                intro o key v' Hc t'' hkey g hv' hfit hsz
                have hback : L2.thaw H' Hc pr = some (.dK qs) := hide_back hq (by intro o v z; cases z) g
                have hoff : Rep (hide (L2.thaw H' Hc) pr) v' t'' := Rep.off (g pr _ upd_same) hv'
                have hst : Same (hide H' pr) (hide (L2.thaw H' Hc) pr) := hide_thaw g
                obtain ⟨ks2, us2, e1, e2, e3, e4, e5, e6⟩ := put_sz (n := key) hqk (Reps.same hst _ _ hqr) hqn hoff
                have hqlen : qs.length = ks'.length := by have := congrArg List.length hqk; simpa using this
                have hil : i < ns.length := (List.getElem?_eq_some_iff.mp hki).1
                refine ⟨_, DPut.k (k := nK key) hback (by rw [sizeLine_eq]; omega), by rw [hide_upd]; exact gh.trans hst, _, upd_same, ks2, e1, us2, by rw [hide_upd]; exact e2, e3, short_put hqk e1 hqs hkey, by omega, fun u hu => ?_, ?_⟩
                · rcases e4 u hu with z | z
                  · have := hqf u z
                    exact ⟨this.1, this.2.1, by omega⟩
                  · rw [z]; exact hfit
                · rw [take_succ_of hki, List.map_append, List.map_cons, List.map_nil, szs_snoc]
                  omega
              refine ⟨rfl, ?_⟩
              by_cases hat : V.str (tx k) = V.str (tx kat)
              · refine ⟨false, by simp [hat], iteF ?_⟩
                by_cases h3 : m / 3 % 5 = 1
                · refine iP h3 ⟨pr, .inl ⟨qs, hq, fun o => ?_⟩⟩
                  obtain ⟨x, hx1', hx2⟩ := Rep.at_name nk hk (Reps.same (G (.frz o (.dK qs))) _ _ hx) hmk
                  exact ⟨x, .inl ⟨ps, Sum.inr (tx k), .inl ((G _) _ _ ha), rfl, hx1'.symm⟩, x, _, rfl, hx2, few_pure _ _ (Nat.le_refl _) (T.fews_mem hfk hmu), by omega, by omega, fun v' Hc gc hvc => fin o nm v' Hc _ hnm gc hvc ⟨T.fews_mem hfk hmu, T.calks_mem hc.2 hmu, by omega⟩ (by omega)⟩
                · refine iN h3 ⟨pr, .inl ⟨qs, hq, fun o => ?_⟩⟩
                  obtain ⟨x, hx1', hx2⟩ := Rep.at_name nk hk (Reps.same (G (.frz o (.dK qs))) _ _ hx) hmk
                  exact ⟨x, .inl ⟨ps, Sum.inr (tx k), .inl ((G _) _ _ ha), rfl, hx1'.symm⟩, x, _, nm, _, rfl, hx2, T.fews_mem hfk hmu, T.calks_mem hc.2 hmu, by omega, by omega, by omega, by omega, hnm, fun v' Hc t'' gc hvc ft => fin o k v' Hc _ (hc.1 k hmk) gc hvc ⟨ft.few, ft.calk, by have := ft.dep; omega⟩ ft.sz⟩
              · refine ⟨true, by simpa using hat, iteT ⟨pr, .inl ⟨qs, hq, fun o => ?_⟩⟩⟩
                obtain ⟨x, hx1', hx2⟩ := Rep.at_name nk hk (Reps.same (G (.frz o (.dK qs))) _ _ hx) hmk
                exact ⟨x, .inl ⟨ps, Sum.inr (tx k), .inl ((G _) _ _ ha), rfl, hx1'.symm⟩, x, _, rfl, hx2, few_pure _ _ (Nat.le_refl _) (T.fews_mem hfk hmu), by omega, by omega, fun v' Hc gc hvc => fin o k v' Hc _ (hc.1 k hmk) gc hvc ⟨T.fews_mem hfk hmu, T.calks_mem hc.2 hmu, by omega⟩ (by omega)⟩
          · rintro σ' H' ⟨o6, rfl, gh, qs, ks', us', hq, hqk, hqr, hqn, hqs, hql, hqf, hqz⟩
            walk_at "rd2"
            have hqlen : ks'.length = us'.length := by
              have h1 := congrArg List.length hqk
              have h2 := hqr.length
              simp only [List.length_map] at h1 h2
              omega
            rw [List.length_map] at hql
            rw [List.length_map, List.take_length, szs_perm (hpm.map fun k => lookT k ks us), szs_look nk hle] at hqz
            have hzq : T.sz (.dic ks us) = T.szs us + 1 := rfl
            have hns : ns.length < 64 := by omega
            refine q _ _ (.dic ks' us') (g4.trans (gh.trans hide_self)) ⟨pr, qs, rfl, hq, hqk, Reps.same hide_self _ _ hqr⟩ (Fik.book hqs hqn (by omega) hqlen (fun u hu => ?_) (Nat.succ_le_succ (Nat.zero_le _)) (by omega))
            have := hqf u hu
            exact ⟨this.1, this.2.1, this.2.2⟩
        · exact iN h7 ⟨rfl, g2⟩
      | _ => exact ⟨_, hty1, iN (by simp [tyT, isSub]) ⟨rfl, g1⟩⟩
    clear g1 hty1 H1
    rintro σ' H1 ⟨rfl, g1⟩
    walk_at "rd2"
    have hty1 := tyS_same g1 hty
    refine ⟨fun σ' H' => σ' = [some v, some (.int m), some (.str (tx nm)), none, none, none, none] ∧ Same H H', ?_, ?_⟩
    · cases t with
      | lst us =>
        refine ⟨_, hty1, iP (by simp [tyT, isSub]) fun p hp => ?_⟩
        obtain ⟨a, xs, rfl, ha, hx⟩ := hv
        have hxl := hx.length
        have g2 := g1.trans (same_new hp (.lst []))
        have hpe : upd H1 p (.lst []) p = some (.lst []) := upd_same
        generalize upd H1 p (.lst []) = H2 at *
        refine ⟨a, p, xs, rfl, rfl, SqL.of (g2 _ _ ha), SqL.of hpe, _, rfl, ?_⟩
        by_cases hemp : xs.isEmpty = true
        · exact iN (by simp [hemp]) ⟨rfl, g2⟩
        refine iP (by simp [hemp]) ?_
        have hpos : 0 < xs.length := List.length_pos_iff.mpr fun z => hemp (by rw [z]; rfl)
        have hzl : T.szs us + 1 ≤ 8000 := hz
        have hlz := len_szs us
        have kf := kids_fik hf.2 hc
        have kf' : ∀ u ∈ us, T.few u ∧ T.calk u ∧ T.dep u + 1 ≤ T.dep (.lst us) + 1 := fun u hu => ⟨(kf u hu).1, (kf u hu).2.1, Nat.le_succ_of_le (kf u hu).2.2⟩
        have hzq : T.sz (.lst us) = T.szs us + 1 := rfl
        refine ⟨a, xs, rfl, SqL.of (g2 _ _ ha), fun p1 hp1 => ?_⟩
        rw [show cutV xs (some 1) none = xs.drop 1 from cut_from xs 1]
        have g3 := same_new hp1 (.lst (xs.drop 1))
        have hA1 : upd H2 p1 (.lst (xs.drop 1)) p1 = some (.lst (xs.drop 1)) := upd_same
        generalize upd H2 p1 (.lst (xs.drop 1)) = H3 at *
        refine ⟨a, xs, rfl, SqL.of ((g2.trans g3) _ _ ha), fun p2 hp2 => ?_⟩
        rw [cut_last]
        have g4 := same_new hp2 (.lst (xs.take (xs.length - 1)))
        have hA2 : upd H3 p2 (.lst (xs.take (xs.length - 1))) p2 = some (.lst (xs.take (xs.length - 1))) := upd_same
        generalize upd H3 p2 (.lst (xs.take (xs.length - 1))) = H4 at *
        obtain ⟨t0, ht0, hr0⟩ := hx.get (i := 0) (v := xs[0]) (by simp [hpos])
        refine rIxL_i (SqL.of ((g2.trans (g3.trans g4)) _ _ ha)) (atI_nat (j := 0) (v := xs[0]) (by simp [hpos])) fun p3 hp3 => ?_
        have g5 := same_new hp3 (.lst [xs[0]])
        have hA3 : upd H4 p3 (.lst [xs[0]]) p3 = some (.lst [xs[0]]) := upd_same
        generalize upd H4 p3 (.lst [xs[0]]) = H5 at *
        refine ⟨a, p3, xs, _, rfl, rfl, (g2.trans (g3.trans (g4.trans g5))) _ _ ha, hA3, by rw [sizeLine_eq, List.length_singleton]; omega, fun p4 hp4 => ?_⟩
        have g6 := same_new hp4 (.lst (xs ++ [xs[0]]))
        have hA4 : upd H5 p4 (.lst (xs ++ [xs[0]])) p4 = some (.lst (xs ++ [xs[0]])) := upd_same
        generalize upd H5 p4 (.lst (xs ++ [xs[0]])) = H6 at *
        unfold tRev
        walk_at "rd2"
        refine ⟨a, xs, rfl, SqL.of ((g2.trans (g3.trans (g4.trans (g5.trans g6)))) _ _ ha), fun p5 hp5 p6 hp6 => ?_⟩
        have g7 := same_new hp5 (.lst xs.reverse)
        have hA5 : upd H6 p5 (.lst xs.reverse) p5 = some (.lst xs.reverse) := upd_same
        generalize upd H6 p5 (.lst xs.reverse) = H7 at *
        refine pick_any upd_same (by omega) (by simp only [List.length_cons, List.length_nil]; omega) fun x hx' => ?_
        have g8 := same_new hp6 (.lst [V.ref p1, V.ref p2, V.ref p4, V.ref p5])
        have gA := g2.trans (g3.trans (g4.trans (g5.trans (g6.trans (g7.trans g8)))))
        simp only [List.mem_cons, List.not_mem_nil, or_false] at hx'
        have h1 : 1 ≤ T.dep (.lst us) + 1 := Nat.succ_le_succ (Nat.zero_le _)
        have hm0 := List.mem_of_getElem? ht0
        have hz0 := T.szs_le hm0
        rcases hx' with rfl | rfl | rfl | rfl
        · exact q _ _ (.lst (us.drop 1)) gA ⟨p1, _, rfl, (g4.trans (g5.trans (g6.trans (g7.trans g8)))) _ _ hA1, Reps.same gA _ _ (Reps.drop 1 hx)⟩ (Fik.row (fun u hu => kf' u (List.mem_of_mem_drop hu)) h1 (by have := szs_drop_le us 1; omega) (by have := szs_drop_le us 1; omega))
        · exact q _ _ (.lst (us.take (xs.length - 1))) gA ⟨p2, _, rfl, (g5.trans (g6.trans (g7.trans g8))) _ _ hA2, Reps.same gA _ _ (Reps.take _ hx)⟩ (Fik.row (fun u hu => kf' u (List.mem_of_mem_take hu)) h1 (by have := szs_take_le us (xs.length - 1); omega) (by have := szs_take_le us (xs.length - 1); omega))
        · refine q _ _ (.lst (us ++ [t0])) gA ⟨p4, _, rfl, (g7.trans g8) _ _ hA4, Reps.same gA _ _ (Reps.snoc hr0 hx)⟩ (Fik.row (fun u hu => ?_) h1 (by rw [szs_snoc]; omega) (by rw [szs_snoc]; omega))
          rcases List.mem_append.mp hu with z | z
          · exact kf' u z
          · rw [List.mem_singleton.mp z]; exact kf' _ hm0
        · exact q _ _ (.lst us.reverse) gA ⟨p5, _, rfl, g8 _ _ hA5, Reps.same gA _ _ (Reps.reverse hx)⟩ (Fik.row (fun u hu => kf' u (List.mem_reverse.mp hu)) h1 (by rw [szs_reverse]; omega) (by rw [szs_reverse]; omega))
      | _ => exact ⟨_, hty1, iN (by simp [tyT, isSub]) ⟨rfl, g1⟩⟩
    clear g1 hty1 H1
    rintro σ' H1 ⟨rfl, g1⟩
    walk_at "rd2"
    have hty1 := tyS_same g1 hty
    refine ⟨fun σ' H' => σ' = [some v, some (.int m), some (.str (tx nm)), none, none, none, none] ∧ Same H H', ?_, ?_⟩
    · cases t with
      | dic ks us =>
        refine ⟨_, hty1, iP (by simp [tyT, isSub]) fun p hp => ?_⟩
        obtain ⟨a, ps, rfl, ha, hk, hx⟩ := hv
        have g2 := g1.trans (same_new hp (.dK []))
        have hpe : upd H1 p (.dK []) p = some (.dK []) := upd_same
        generalize upd H1 p (.dK []) = H2 at *
        refine ⟨a, p, ps, rfl, rfl, g2 _ _ ha, hpe, _, rfl, ?_⟩
        by_cases hemp : ps.isEmpty = true
        · exact iN (by simp [hemp]) ⟨rfl, g2⟩
        refine iP (by simp [hemp]) ?_
        obtain ⟨nk, h64, hle, hfk⟩ := hf
        have hzl : T.szs us + 1 ≤ 8000 := hz
        refine ⟨a, rfl, ps, .inl (g2 _ _ ha), ks.map tx, by rw [hk, List.map_map]; rfl, by rw [List.length_map]; exact h64, fun l ss hl hp1 hs1 => ?_⟩
        have es := sorted_names hp1 hs1
        have emap : ss.map V.str = (sortK ks).map fun k => V.str (tx k) := by rw [es, List.map_map]; rfl
        rw [emap]
        have g3 := g2.trans (same_new hl (.lst ((sortK ks).map fun k => V.str (tx k))))
        have hl3 : upd H2 l (.lst ((sortK ks).map fun k => V.str (tx k))) l = some (.lst ((sortK ks).map fun k => V.str (tx k))) := upd_same
        generalize upd H2 l (.lst ((sortK ks).map fun k => V.str (tx k))) = H3 at *
        refine ⟨l, _, rfl, SqL.of hl3, fun l2 hl2 => ?_⟩
        rw [show cutV ((sortK ks).map fun k => V.str (tx k)) (some 1) none = ((sortK ks).drop 1).map fun k => V.str (tx k) from by rw [List.map_drop]; exact cut_from _ 1]
        have hnd : ((sortK ks).drop 1).Nodup := ((sortK_perm ks).nodup_iff.mpr nk).sublist (List.drop_sublist _ _)
        have hsub : ∀ k ∈ (sortK ks).drop 1, k ∈ ks := fun k h => mem_sortK.mp (List.mem_of_mem_drop h)
        have hlen : ((sortK ks).drop 1).length < 64 := by rw [List.length_drop, (sortK_perm ks).length_eq]; omega
        have hszn : T.szs (((sortK ks).drop 1).map fun k => lookT k ks us) ≤ T.szs us := by
          rw [List.map_drop]
          refine Nat.le_trans (szs_drop_le _ _) (Nat.le_of_eq ?_)
          rw [szs_perm ((sortK_perm ks).map fun k => lookT k ks us), szs_look nk hle]
        generalize (sortK ks).drop 1 = ns at *
        have g4 := g3.trans (same_new hl2 (.lst (ns.map fun k => V.str (tx k))))
        have hl4 : upd H3 l2 (.lst (ns.map fun k => V.str (tx k))) l2 = some (.lst (ns.map fun k => V.str (tx k))) := upd_same
        generalize upd H3 l2 (.lst (ns.map fun k => V.str (tx k))) = H4 at *
        refine ⟨l2, rfl, ⟨_, SqL.of hl4⟩, comp_list (K := K) (xs := ns.map fun k => V.str (tx k)) (fun i ys H' => Same H4 H' ∧ ∃ kvs : List (Key × V), kvs.length = ys.length ∧ kvs.map (·.1) = (ns.take i).map nK ∧ Reps H' (kvs.map (·.2)) ((ns.take i).map fun k => lookT k ks us) ∧ ∀ (j : Nat) kv, kvs[j]? = some kv → ∃ a, ys[j]? = some (.ref a) ∧ H' a = some (.tup [kV kv.1, kv.2])) ?_ ⟨Same.refl _, [], rfl, rfl, rfl, by intro j kv h; simp at h⟩ (fun i ys H' _ h => SqL.of (h.1 _ _ hl4)) ?_ ?_⟩
        · rw [sizeLine_eq, List.length_map]; omega
        · rintro i y ys H' hy _ ⟨g, kvs, l1, l2', hR, ht⟩
          rw [List.getElem?_map] at hy
          cases hki : ns[i]? with
          | none => rw [hki] at hy; cases hy
          | some k =>
            rw [hki] at hy
            have ey : V.str (tx k) = y := Option.some.inj hy
            subst ey
            have gg := g4.trans g
            have hmk := hsub k (List.mem_of_getElem? hki)
            obtain ⟨x, hx1, hx2⟩ := Rep.at_name nk hk (Reps.same gg _ _ hx) hmk
            walk_at "rd2"
            refine ⟨x, .inl ⟨ps, Sum.inr (tx k), .inl (gg _ _ ha), rfl, hx1.symm⟩, fun p5 hp5 => ⟨g.trans (same_new hp5 _), kvs ++ [(nK k, x)], by simp [l1], ?_, ?_, ?_⟩⟩
            · rw [take_succ_of hki, List.map_append, List.map_append, l2']; rfl
            · rw [take_succ_of hki, List.map_append, List.map_append]
              exact Reps.snoc (Rep.same (same_new hp5 _) _ _ hx2) (Reps.same (same_new hp5 _) _ _ hR)
            · intro j kv1 hj
              by_cases hlt : j < kvs.length
              · rw [List.getElem?_append_left hlt] at hj
                obtain ⟨a', e1, e2⟩ := ht j kv1 hj
                exact ⟨a', by rw [List.getElem?_append_left (by omega)]; exact e1, same_new hp5 _ _ _ e2⟩
              · rw [List.getElem?_append_right (by omega)] at hj
                have hj0 : j - kvs.length = 0 := by
                  have := (List.getElem?_eq_some_iff.mp hj).1
                  simpa using this
                rw [hj0] at hj
                simp only [List.getElem?_cons_zero, Option.some.injEq] at hj
                subst hj
                exact ⟨p5, by rw [List.getElem?_append_right (by omega), ← l1, hj0]; rfl, upd_same⟩
        · rintro ys H' _ ⟨g, kvs, l1, l2', hR, ht⟩ p5 hp5
          rw [List.length_map, List.take_length] at l2' hR
          have g5 := same_new hp5 (.lst ys)
          refine ⟨p5, rfl, ys, upd_same, kvs, l1, fun j kv hj => ?_, fun l6 hl6 => ?_⟩
          · obtain ⟨a', e1, e2⟩ := ht j kv hj
            exact ⟨a', e1, g5 _ _ e2⟩
          · have em : mergeK [] kvs = kvs := mergeK_nodup kvs [] (by rw [List.nil_append, l2']; exact nodup_nK hnd)
            rw [em]
            have g6 := same_new hl6 (.dK kvs)
            have hzq : T.sz (.dic ks us) = T.szs us + 1 := rfl
            refine q _ _ (.dic ns (ns.map fun k => lookT k ks us)) (g4.trans (g.trans (g5.trans g6))) ⟨l6, kvs, rfl, upd_same, l2', Reps.same (g5.trans g6) _ _ hR⟩ (Fik.book (fun k hk => hc.1 k (hsub k hk)) hnd hlen (by rw [List.length_map]) (fun u hu => ?_) (Nat.succ_le_succ (Nat.zero_le _)) (by omega))
            obtain ⟨k, hk', rfl⟩ := List.mem_map.mp hu
            have := kids_fik hfk hc.2 _ (lookT_mem (hsub k hk') hle)
            exact ⟨this.1, this.2.1, Nat.le_succ_of_le this.2.2⟩
      | _ => exact ⟨_, hty1, iN (by simp [tyT, isSub]) ⟨rfl, g1⟩⟩
    clear g1 hty1 H1
    rintro σ' H1 ⟨rfl, g1⟩
    walk_at "rd2"
    have hs1 := sz_pos t
    exact ⟨v, _, t, rfl, Rep.same g1 _ _ hv, hc, hf, by omega, fun v' H' t' g hr' ft => q _ _ t' (g1.trans g) hr' (ft.mono (Nat.le_refl _) (by omega))⟩
theorem ok_var0 (F : Fun K "_law_varied" "_law_varied" sVar f fd) : FnOk P w K mg base CX0 11 f fd ["_law_thing", "_law_more", "_law_names"] (spVar 0) := by
  refine F.ok scVar (fun vs H Q E h => ?_) (fun cdv A outer s H vs Q E hr h => ?_)
  · obtain ⟨v, m, nm, t, rfl, _⟩ := h
    rfl
  · obtain ⟨v, m, nm, t, rfl, hv, hf, hc, hd, _⟩ := h
    exact absurd hd (Nat.not_lt_zero _)
theorem var_all (F : Fun K "_law_varied" "_law_varied" sVar f fd) (B : Bl2 mg) (Gl : Dn P w K mg base 1 "_law_leaf_other" ["_law_thing", "_law_more"] spLeaf) (Gh : Dn P w K mg base (1 + 10) "_law_held" ["_law_thing"] (spHeld 10))
    (b : Binds K fd ["_law_thing", "_law_more", "_law_names"] []) (kp : PySem.W.keepIn K (.ref f) = true) (m : mg "_law_varied" = some (.ref f)) : ∀ n : Nat, FnOk P w K mg base CX0 (11 + n) f fd ["_law_thing", "_law_more", "_law_names"] (spVar n)
  | 0 => ok_var0 F
  | n + 1 => ok_varS F B Gl Gh ⟨_, _, var_all F B Gl Gh b kp m n, b, kp, m⟩
abbrev sWide : Stmt := top 29
def spWide (K : PySem.W.Frag) : Sp := fun vs H Q _ => ∃ (a : Addr) (ns : List Int) (k0 : Int) (d0 : Nat), vs = [.ref a, .int k0, .int d0] ∧ 0 ≤ k0 ∧ k0 ≤ 6000 ∧ d0 ≤ 2 ∧ SqL K H a (ns.map V.int) ∧ ns.length ≤ 63 ∧ ∀ v H' t, Same H H' → Rep H' v t → Fik 6 200 t → Q v H'
theorem scWide : FnScope ["_law_script", "_law_k", "_law_deep", "_law_more", "_law_thing", "_law_row", "_law_names", "_law_j"] ["_law_script", "_law_k", "_law_deep"] (defScope sWide) := ⟨rfl, rfl, rfl, by decide +kernel, rfl, by decide +kernel, by decide +kernel⟩
theorem ok_wide (F : Fun K "_law_wide_by" "_law_wide_by" sWide f fd) (B : Bl2 mg) (G_law_cell : Dn P w K mg base 1 "_law_cell" ["_law_script", "_law_k"] (spCell K)) (G_law_number_by : Dn P w K mg base 1 "_law_number_by" ["_law_more"] spNum)
    (G_law_thing_by : Dn P w K mg base (3 + 3) "_law_thing_by" ["_law_script", "_law_k", "_law_deep"] (spThingAny K 3)) : FnOk P w K mg base CX0 (3 + 3 + 1) f fd ["_law_script", "_law_k", "_law_deep"] (spWide K) := by
  refine F.ok scWide (fun vs H Q E h => ?_) (fun cdv A outer s H vs Q E hr h => ?_)
  · obtain ⟨a, ns, k0, d0, rfl, _⟩ := h
    rfl
  obtain ⟨a, ns, k0, d0, rfl, hk0, hk1, hd0, hS, h63, q⟩ := h
  have nd := scWide.nd
  have hu := hu_of hr
  refine ⟨_, (pss_cons (ps_set (i := 3) nd rfl (Or.inr rfl) (pe_cd G_law_cell hr (by omega) rfl (pa_cons (pv 0) (pa_cons (pe_op op_add (pv 1) pe_int) pa_nil))))
    (pss_cons (ps_mid (ps_if (pt_cmpR op_in_seq (pe_op op_mod (pv 3) pe_int) (pe_tup (pa_cons pe_int (pa_cons pe_int (pa_cons pe_int (pa_cons pe_int pa_nil))))) (by with_unfolding_all rfl)) (pss_one (ps_set (i := 2) nd rfl (Or.inl rfl) (pe_callB (call_min2 rfl) rfl B.min bt_min (pa_cons (pv 2) (pa_cons pe_int pa_nil))))) pss_nil))
    (pss_cons (ps_set (i := 4) nd rfl (Or.inl rfl) (pe_cd G_law_thing_by hr (by omega) rfl (pa_cons (pv 0) (pa_cons (pv 1) (pa_cons (pv 2) pa_nil)))))
    (pss_cons (ps_mid (ps_if (pt_cmpR op_eq (pe_op op_mod (pv 3) pe_int) pe_int (nomark _)) (pss_cons (ps_comp (i := 5) nd rfl (Or.inl rfl) (own := ["_law_j"]) (F := [("_law_more", 3)]) ⟨rfl, by with_unfolding_all rfl, by with_unfolding_all rfl, by with_unfolding_all rfl, (.cons rfl rfl rfl .nil)⟩ rfl (pi_range1 rfl B.range (pa_cons (pe_op op_mod (pe_op op_fdiv (pv 3) pe_int) pe_int) pa_nil)) (fun _ _ _ _ => pg_name (i := 0) (by show (compN ["_law_j"] [("_law_more", 3)]).Nodup; decide +kernel) rfl (Or.inl rfl)) (fun _ _ _ _ => pts_nil) (fun _ _ _ _ => (pe_cd G_law_number_by hr (by omega) rfl (pa_cons (pe_op op_add (pe_op op_fdiv (pv 1) pe_int) (pe_op op_mul pe_int (pv 0))) pa_nil))))
    (pss_one (ps_set (i := 4) nd rfl (Or.inl rfl) (pe_ix ix_list (pe_lst (pa_cons (pe_lst (pa_cons (pv 5) (pa_cons (pv 4) pa_nil))) (pa_cons (pe_disp (pps_cons pe_str (pv 4) (pps_cons pe_str (pv 5) pps_nil)) (by rfl) (by rfl) (List.cons_ne_nil _ _) (by decide)) pa_nil))) (pe_op op_mod (pe_op op_fdiv (pv 3) pe_int) pe_int) (fun _ _ => rfl))))) pss_nil))
    (pss_cons (ps_mid (ps_if (pt_cmpR op_eq (pe_op op_mod (pv 3) pe_int) pe_int (nomark _)) (pss_cons (ps_set (i := 6) nd rfl (Or.inl rfl) (pe_callTy (call_dict_p rfl) rfl B.dict bt_dict (pa_cons (pe_comp (own := ["_law_j"]) (F := [("_law_more", 3)]) ⟨rfl, by with_unfolding_all rfl, by with_unfolding_all rfl, by with_unfolding_all rfl, (.cons rfl rfl rfl .nil)⟩ rfl (pi_range1 rfl B.range (pa_cons (pe_op op_mod (pe_op op_fdiv (pv 3) pe_int) pe_int) pa_nil)) (fun _ _ _ _ => pg_name (i := 0) (by show (compN ["_law_j"] [("_law_more", 3)]).Nodup; decide +kernel) rfl (Or.inl rfl)) (fun _ _ _ _ => pts_nil) (fun _ _ _ _ => (pe_tup (pa_cons (pe_op op_add_str pe_str (pe_callTy call_str_int rfl B.str bt_str (pa_cons (pe_op op_mod (pe_op op_add (pe_op op_mul (pv 0) pe_int) (pv 1)) pe_int) pa_nil))) (pa_cons (pv 0) pa_nil))))) pa_nil)))
    (pss_one (ps_set (i := 4) nd rfl (Or.inl rfl) (pe_lst (pa_cons (pv 6) (pa_cons (pv 4) pa_nil)))))) pss_nil))
    (pss_cons (ps_mid (ps_if (pt_cmpR op_eq (pe_op op_mod (pv 3) pe_int) pe_int (nomark _)) (pss_one (ps_for PassesOwn.never rfl (pi_range1 rfl B.range (pa_cons (pe_op op_add pe_int (pe_op op_mod (pe_op op_fdiv (pv 3) pe_int) pe_int)) pa_nil)) (pg_name (i := 7) nd rfl (Or.inl rfl)) (pss_one (ps_set (i := 4) nd rfl (Or.inl rfl) (pe_ix ix_list (pe_lst (pa_cons (pe_lst (pa_cons (pv 4) pa_nil)) (pa_cons (pe_disp (pps_cons pe_str (pv 4) (pps_cons pe_str (pv 7) pps_nil)) (by rfl) (by rfl) (List.cons_ne_nil _ _) (by decide)) pa_nil))) (pe_op op_mod (pe_op op_add (pe_op op_fdiv (pv 3) pe_int) (pv 7)) pe_int) (fun _ _ => rfl)))))) pss_nil))
    (pss_one (ps_ret (pv 4))))))))), ?_⟩
  rw [show start ["_law_script", "_law_k", "_law_deep", "_law_more", "_law_thing", "_law_row", "_law_names", "_law_j"] [.ref a, .int k0, .int d0] = [some (.ref a), some (.int k0), some (.int d0), none, none, none, none, none] from rfl]
  unfold tMid
  walk_at "rd2"
  refine spCell_i hS h63 (by omega) (by omega) fun H1 g1 => ?_
  have c0 := cellF_lo ns (k0 + 650)
  have c1 := cellF_hi ns (k0 + 650)
  generalize cellF ns (k0 + 650) = mo at c0 c1 ⊢
  refine ⟨fun σ' H' => ∃ d : Nat, d ≤ 2 ∧ σ' = [some (.ref a), some (.int k0), some (.int (d : Int)), some (.int mo), none, none, none, none] ∧ Same H H', ⟨_, rfl, fun p hp => ?_⟩, ?_⟩
  · have g2 := g1.trans (same_new hp (.tup [V.int 1, V.int 2, V.int 3, V.int 7]))
    refine ⟨p, _, rfl, .inr (SqT.of upd_same), rfl, rfl, _, rfl, ?_⟩
    by_cases hin : inV (.int (mo % 8)) [V.int 1, V.int 2, V.int 3, V.int 7] = true
    · exact iP (by simpa using hin) ⟨_, _, ⟨rfl, rfl⟩, d0, hd0, by rw [if_neg (by omega)], g2⟩
    · exact iN (by simpa using hin) ⟨d0, hd0, rfl, g2⟩
  rintro σ' H2 ⟨d, hd, rfl, g2⟩
  walk_at "rd2"
  have hd3 : d ≤ 3 := by omega
  refine ⟨d, hd3, a, ns, k0, rfl, g2.seq hS, h63, hk0, ?_, fun v H3 t g3 hv hN => ?_⟩
  · have : d = 0 ∨ d = 1 ∨ d = 2 := by omega
    rcases this with rfl | rfl | rfl <;> omega
  have ft : Fik 3 85 t ∧ Fik 2 21 t := by
    have z := nice_fik d t (by omega) hN
    have e : sizeN d ≤ 21 := by
      have : d = 0 ∨ d = 1 ∨ d = 2 := by omega
      rcases this with rfl | rfl | rfl <;> decide
    have z2 := z.mono hd e
    exact ⟨z2.mono (by decide) (by decide), z2⟩
  have gH := g2.trans g3
  clear g2 g3 g1 H1 H2 hN
  refine ⟨fun σ' H' => ∃ v t o5, σ' = [some (.ref a), some (.int k0), some (.int (d : Int)), some (.int mo), some v, o5, none, none] ∧ Same H H' ∧ Rep H' v t ∧ Fik 3 85 t ∧ (mo % 8 ≠ 1 → Fik 2 21 t), ?_, ?_⟩
  · by_cases h1 : mo % 8 = 1
    · refine iP h1 ⟨by omega, by omega, ?_⟩
      obtain ⟨n, hn⟩ : ∃ n : Nat, (mo / 64 % 51).toNat = n ∧ n ≤ 50 := ⟨_, rfl, by omega⟩
      rw [hn.1]
      refine comp_rng (fun i ys H' => Same H3 H' ∧ ∃ is : List Int, ys = is.map V.int ∧ is.length = i ∧ ∀ z ∈ is, -(10 ^ 12) ≤ z ∧ z ≤ 10 ^ 12) (by rw [sizeLine_eq]; omega) ⟨Same.refl _, [], rfl, rfl, fun _ h => nomatch h⟩ ?_ ?_
      · rintro i ys H' hi _ ⟨g, is, rfl, hl, hb⟩
        walk_at "rd2"
        refine ⟨_, rfl, by omega, by omega, fun z z1 z2 H5 g5 => ⟨g.trans g5, is ++ [z], by simp, by simp [hl], fun y hy => ?_⟩⟩
        rcases List.mem_append.mp hy with e | e
        · exact hb y e
        · rw [List.mem_singleton.mp e]; exact ⟨z1, z2⟩
      · rintro ys H' _ ⟨g, is, rfl, hl, hb⟩ p hp
        walk_at "rd2"
        intro p1 hp1 p2 hp2
        have gA := (gH.trans g).trans (same_new hp (.lst (is.map V.int)))
        have hvA := Rep.same (g.trans (same_new hp (.lst (is.map V.int)))) _ _ hv
        have hrA : Rep (upd H' p (.lst (is.map V.int))) (.ref p) (.lst (is.map T.int)) := ⟨p, _, rfl, upd_same, ints_reps is⟩
        generalize upd H' p (.lst (is.map V.int)) = HA at *
        have gB := same_new hp1 (.lst [V.ref p, v])
        have hB1 : upd HA p1 (.lst [V.ref p, v]) p1 = some (.lst [V.ref p, v]) := upd_same
        generalize upd HA p1 (.lst [V.ref p, v]) = HB at *
        refine ⟨upd_same, [(kA, v), (kB, .ref p)], rfl, by simp, ?_⟩
        rw [two_merge]
        have gC : Same HB (upd (upd HB p2 (.dK [])) p2 (.dK [(kA, v), (kB, .ref p)])) := (same_new hp2 _).put hp2 _
        have hC2 : upd (upd HB p2 (.dK [])) p2 (.dK [(kA, v), (kB, .ref p)]) p2 = some (.dK [(kA, v), (kB, .ref p)]) := upd_same
        generalize upd (upd HB p2 (.dK [])) p2 (.dK [(kA, v), (kB, .ref p)]) = HC at *
        intro p3 hp3
        refine pick_any upd_same (by omega) (by simp only [List.length_cons, List.length_nil]; omega) fun x hx => ?_
        have gD := same_new hp3 (.lst [V.ref p1, V.ref p2])
        simp only [List.mem_cons, List.not_mem_nil, or_false] at hx
        have fi := ints_fik hb (by omega)
        have f2 := ft.2
        rcases hx with rfl | rfl
        · exact ⟨_, ⟨rfl, _, rfl⟩, gA.trans (gB.trans (gC.trans gD)), .lst [.lst (is.map T.int), t], ⟨p1, _, rfl, (gC.trans gD) _ _ hB1, _, _, rfl, Rep.same (gB.trans (gC.trans gD)) _ _ hrA, _, _, rfl, Rep.same (gB.trans (gC.trans gD)) _ _ hvA, rfl⟩, (rows_fik (fi.mono (by decide) (Nat.le_refl _)) f2 (by decide)).mono (by decide) (by decide), fun e => absurd h1 e⟩
        · exact ⟨_, ⟨rfl, _, rfl⟩, gA.trans (gB.trans (gC.trans gD)), _, two_rep (gD _ _ hC2) (Rep.same (gB.trans (gC.trans gD)) _ _ hvA) (Rep.same (gB.trans (gC.trans gD)) _ _ hrA), (two_fik f2 (fi.mono (by decide) (Nat.le_refl _))).mono (by decide) (by decide), fun e => absurd h1 e⟩
    · exact iN h1 ⟨v, t, _, rfl, gH, hv, ft.1, fun _ => ft.2⟩
  rintro σ' H4 ⟨v4, t4, o5, rfl, g4, hv4, ft4, ft4'⟩
  walk_at "rd2"
  refine ⟨fun σ' H' => ∃ v t o5 o6, σ' = [some (.ref a), some (.int k0), some (.int (d : Int)), some (.int mo), some v, o5, o6, none] ∧ Same H H' ∧ Rep H' v t ∧ Fik 3 85 t ∧ (mo % 4 = 3 → Fik 2 21 t), ?_, ?_⟩
  · by_cases h2 : mo % 8 = 2
    · refine iP h2 ⟨by omega, by omega, ?_⟩
      have f2 := ft4' (by omega)
      obtain ⟨n, hn⟩ : ∃ n : Nat, (mo / 64 % 31).toNat = n ∧ n ≤ 30 := ⟨_, rfl, by omega⟩
      rw [hn.1]
      refine comp_rng (fun i ys H' => Same H4 H' ∧ ∃ (kvs : List (Key × V)) (nsx : List (List Nat)) (is : List Int), kvs.length = ys.length ∧ is.length = i ∧ kvs.map (·.1) = nsx.map nK ∧ (∀ k ∈ nsx, k.length ≤ 100) ∧ kvs.map (·.2) = is.map V.int ∧ (∀ z ∈ is, -1000000000000 ≤ z ∧ z ≤ 1000000000000) ∧ ∀ (j : Nat) kv, kvs[j]? = some kv → ∃ a, ys[j]? = some (.ref a) ∧ H' a = some (.tup [kV kv.1, kv.2])) (by rw [sizeLine_eq]; omega) ⟨Same.refl _, [], [], [], rfl, rfl, rfl, short_nil, rfl, fun _ h => (nomatch h), by intro j kv h; simp at h⟩ ?_ ?_
      · rintro i ys H' hi _ ⟨g, kvs, nsx, is, l1, l2, hk, hsn, hvs, hb, ht⟩
        walk_at "rd2"
        have hlg : (((0 + (i : Int)) * 7 + mo) % 30).natAbs.log2 < 1920 := logs_ok (by omega) (by omega)
        have hfi : (Str.ofString (toString (((0 + (i : Int)) * 7 + mo) % 30))).length ≤ 1921 := by
          have z := int_text_length_le (k := 1920) (by decide) hlg
          have e : (Str.ofString (toString (((0 + (i : Int)) * 7 + mo) % 30))).length = (toString (((0 + (i : Int)) * 7 + mo) % 30)).length := ofString_length _
          omega
        refine ⟨hlg, ?_, fun p5 hp5 => ⟨g.trans (same_new hp5 _), kvs ++ [(Sum.inr (Str.ofString "n" ++ Str.ofString (toString (((0 + (i : Int)) * 7 + mo) % 30))), .int (0 + i))], by simp [l1], nsx ++ [ts (Str.ofString "n" ++ Str.ofString (toString (((0 + (i : Int)) * 7 + mo) % 30)))], is ++ [0 + (i : Int)], by simp [l2], ?_, ?_, ?_, ?_, ?_⟩⟩
        · have : (Str.ofString "n").length = 1 := by decide +kernel
          omega
        · rw [List.map_append, List.map_append, hk]
          simp only [List.map_cons, List.map_nil, nK, tx_ts]
        · intro k hk'
          rcases List.mem_append.mp hk' with e | e
          · exact hsn k e
          · rw [List.mem_singleton.mp e]
            have z := int_text_length_le10 (a := ((0 + (i : Int)) * 7 + mo) % 30) (k := 2) (by decide) (by omega)
            have e2 : (Str.ofString (toString (((0 + (i : Int)) * 7 + mo) % 30))).length = (toString (((0 + (i : Int)) * 7 + mo) % 30)).length := ofString_length _
            have e3 : (Str.ofString "n").length = 1 := by decide +kernel
            rw [← ts_len, app_len]
            omega
        · rw [List.map_append, List.map_append, hvs]; rfl
        · intro z hz
          rcases List.mem_append.mp hz with e | e
          · exact hb z e
          · rw [List.mem_singleton.mp e]; omega
        · intro j kv1 hj
          by_cases hlt : j < kvs.length
          · rw [List.getElem?_append_left hlt] at hj
            obtain ⟨a', e1, e2⟩ := ht j kv1 hj
            exact ⟨a', by rw [List.getElem?_append_left (by omega)]; exact e1, same_new hp5 _ _ _ e2⟩
          · rw [List.getElem?_append_right (by omega)] at hj
            have hj0 : j - kvs.length = 0 := by
              have := (List.getElem?_eq_some_iff.mp hj).1
              simpa using this
            rw [hj0] at hj
            simp only [List.getElem?_cons_zero, Option.some.injEq] at hj
            subst hj
            exact ⟨p5, by rw [List.getElem?_append_right (by omega), ← l1, hj0]; rfl, upd_same⟩
      · rintro ys H' _ ⟨g, kvs, nsx, is, l1, l2, hk, hsn, hvs, hb, ht⟩ p hp
        have g5 := same_new hp (.lst ys)
        refine ⟨p, rfl, ys, upd_same, kvs, l1, fun j kv hj => ?_, fun l hl p2 hp2 => ?_⟩
        · obtain ⟨a', e1, e2⟩ := ht j kv hj
          exact ⟨a', e1, g5 _ _ e2⟩
        · obtain ⟨ks2, us2, b1, b2, b3, b4, b5, b6⟩ := merge_reps (H := upd H' p (.lst ys)) kvs nsx (is.map T.int) [] [] [] hk (by rw [hvs]; exact ints_reps is) rfl rfl List.nodup_nil
          have gA := g4.trans (g.trans g5)
          have hvA := Rep.same (g.trans g5) _ _ hv4
          generalize upd H' p (.lst ys) = HA at *
          have gB := same_new hl (.dK (mergeK [] kvs))
          have hB : Rep (upd HA l (.dK (mergeK [] kvs))) (.ref l) (.dic ks2 us2) := ⟨l, _, rfl, upd_same, b1, Reps.same gB _ _ b2⟩
          generalize upd HA l (.dK (mergeK [] kvs)) = HB at *
          have gC := same_new hp2 (.lst [V.ref l, v4])
          have hlen : kvs.length = is.length := by have := congrArg List.length hvs; simpa using this
          rw [ints_szs] at b6
          have hl2 : ks2.length = us2.length := by
            have e1 := congrArg List.length b1
            have e2 := b2.length
            simp only [List.length_map] at e1 e2
            omega
          have fd : Fik 2 31 (.dic ks2 us2) := by
            refine Fik.book (short_merge hk b1 hsn) b3 (by simp only [List.length_nil] at b4; omega) hl2 (fun u hu => ?_) (by decide) (by have : T.szs [] = 0 := rfl; omega)
            rcases b5 u hu with z | z
            · cases z
            · obtain ⟨y, hy, rfl⟩ := List.mem_map.mp z
              exact ⟨True.intro, hb y hy, Nat.le_of_ble_eq_true rfl⟩
          exact ⟨.ref p2, .lst [.dic ks2 us2, t4], _, _, rfl, gA.trans (gB.trans gC), ⟨p2, _, rfl, upd_same, _, _, rfl, Rep.same gC _ _ hB, _, _, rfl, Rep.same (gB.trans gC) _ _ hvA, rfl⟩, (rows_fik fd f2 (by decide)).mono (by decide) (by decide), fun e => by omega⟩
    · exact iN h2 ⟨v4, t4, _, _, rfl, g4, hv4, ft4, fun e => ft4' (by omega)⟩
  rintro σ' H5 ⟨v5, t5, o5', o6, rfl, g5, hv5, ft5, ft5'⟩
  walk_at "rd2"
  refine ⟨fun σ' H' => ∃ v t o5 o6 o7, σ' = [some (.ref a), some (.int k0), some (.int (d : Int)), some (.int mo), some v, o5, o6, o7] ∧ Same H H' ∧ Rep H' v t ∧ Fik 6 200 t, ?_, ?_⟩
  · by_cases h3 : mo % 4 = 3
    · refine iP h3 ⟨by omega, by omega, ?_⟩
      obtain ⟨n, hn⟩ : ∃ n : Nat, (1 + mo / 4 % 4).toNat = n ∧ n ≤ 4 := ⟨_, rfl, by omega⟩
      rw [hn.1]
      refine forB_rng (fun i σ' H' => ∃ v t o7, σ' = [some (.ref a), some (.int k0), some (.int (d : Int)), some (.int mo), some v, o5', o6, o7] ∧ Same H H' ∧ Rep H' v t ∧ Fik (2 + i) (21 + 2 * i) t) ⟨v5, t5, _, rfl, g5, hv5, ft5' h3⟩ ?_ ?_
      · rintro i σ' H' hi ⟨v, t, o7, rfl, g, hv, ft⟩
        walk_at "rd2"
        intro p hp p1 hp1
        have gA := g.trans (same_new hp (.lst [v]))
        have hvA := Rep.same (same_new hp (.lst [v])) _ _ hv
        have hA1 : upd H' p (.lst [v]) p = some (.lst [v]) := upd_same
        generalize upd H' p (.lst [v]) = HA at *
        refine ⟨upd_same, [(kA, v), (kB, .int (0 + i))], rfl, by simp, ?_⟩
        rw [two_merge]
        have gC : Same HA (upd (upd HA p1 (.dK [])) p1 (.dK [(kA, v), (kB, .int (0 + i))])) := (same_new hp1 _).put hp1 _
        have hC2 : upd (upd HA p1 (.dK [])) p1 (.dK [(kA, v), (kB, .int (0 + i))]) p1 = some (.dK [(kA, v), (kB, .int (0 + i))]) := upd_same
        generalize upd (upd HA p1 (.dK [])) p1 (.dK [(kA, v), (kB, .int (0 + i))]) = HC at *
        intro p3 hp3
        refine pick_any upd_same (by omega) (by simp only [List.length_cons, List.length_nil]; omega) fun x hx => ?_
        have gD := same_new hp3 (.lst [V.ref p, V.ref p1])
        simp only [List.mem_cons, List.not_mem_nil, or_false] at hx
        have fi : Fik (2 + i) 1 (.int (0 + i)) := ⟨True.intro, ⟨by omega, by omega⟩, Nat.zero_le _, Nat.le_refl _⟩
        rcases hx with rfl | rfl
        · exact ⟨_, ⟨rfl, _, rfl⟩, gA.trans (gC.trans gD), .lst [t], ⟨p, _, rfl, (gC.trans gD) _ _ hA1, _, _, rfl, Rep.same (gC.trans gD) _ _ hvA, rfl⟩, (one_fik ft (by omega)).mono (by omega) (by omega)⟩
        · exact ⟨_, ⟨rfl, _, rfl⟩, gA.trans (gC.trans gD), _, two_rep (t' := .int (0 + i)) (gD _ _ hC2) (Rep.same (gC.trans gD) _ _ hvA) rfl, (two_fik ft fi).mono (by omega) (by omega)⟩
      · rintro σ' H' ⟨v, t, o7, rfl, g, hv, ft⟩
        exact ⟨v, t, _, _, _, rfl, g, hv, ft.mono (by omega) (by omega)⟩
    · exact iN h3 ⟨v5, t5, _, _, _, rfl, g5, hv5, ft5.mono (by decide) (by decide)⟩
  rintro σ' H6 ⟨v6, t6, _, _, _, rfl, g6, hv6, ft6⟩
  walk_at "rd2"
  exact q _ _ t6 g6 hv6 ft6
abbrev sIn : Stmt := top 21
def spIn : Sp := fun vs H Q _ => ∃ (a : Addr) (xs : List V) (us : List T) (b : Bool), vs = [.ref a, .bl b] ∧ H a = some (.lst xs) ∧ Reps H xs us ∧ us.length ≤ 14 ∧ (∀ u ∈ us, Fik 8 200 u) ∧ ∀ l ws H', Same H H' → Rep (newH H H') (.ref l) (.lst ws) → ws.Perm us → Srt b ws → Q (.ref l) H'
theorem scIn : FnScope ["things", "falling", "copies"] ["things", "falling"] (defScope sIn) := ⟨rfl, rfl, rfl, by decide +kernel, rfl, by decide +kernel, by decide +kernel⟩
theorem row_few {us : List T} (hl : us.length ≤ 14) (h : ∀ u ∈ us, Fik 8 200 u) : Fik 9 2801 (.lst us) := by
  have z := szs_bound fun u hu => (h u hu).sz
  have z2 : us.length * 200 ≤ 14 * 200 := Nat.mul_le_mul_right _ hl
  exact Fik.row (fun u hu => ⟨(h u hu).few, (h u hu).calk, Nat.succ_le_succ (h u hu).dep⟩) (by decide) (by omega) (by omega)
theorem sort_end {b : Bool} {H H1 H' : Hp} {D : Addr} {ys : List V} {us : List T} {p : Array Nat} {Q : VK} (hl : ys.length = us.length) (g : Same H H1) (g' : Same H1 H') (hD : H' D = none) (hs : Reps (newH H H1) ys us)
    (W : Kw ys.length (List.range ys.length).toArray p) (U : Up (fun i j => decide (cmpC ((PySem.W.katRev b (us.map canon)).getD i .odd) ((PySem.W.katRev b (us.map canon)).getD j .odd) < 0)) p ys.length)
    (q : ∀ l ws H', Same H H' → Rep (newH H H') (.ref l) (.lst ws) → ws.Perm us → Srt b ws → Q (.ref l) H') : Q (.ref D) (upd H' D (.lst (PySem.W.katRev b (p.toList.map fun i => (PySem.W.katRev b ys).getD i .non)))) := by
  rw [hl] at W U
  have hin : ∀ i ∈ p.toList, i < (PySem.W.katRev b ys).length := fun i hi => by
    have h1 : p.toList.Perm (List.range us.length) := by
      have := W.pm
      rw [Array.perm_iff_toList_perm] at this
      simpa using this
    rw [katRev_len, hl]
    exact List.mem_range.mp (h1.mem_iff.mp hi)
  have gD := same_new hD (.lst (PySem.W.katRev b (p.toList.map fun i => (PySem.W.katRev b ys).getD i .non)))
  have gg := g'.trans gD
  refine q D (PySem.W.katRev b (p.toList.map fun i => (PySem.W.katRev b us).getD i .non)) _ (g.trans gg) ⟨D, PySem.W.katRev b (p.toList.map fun i => (PySem.W.katRev b ys).getD i .non), rfl, ?_, ?_⟩ (kat_perm W) (srt_of W U)
  · rw [newH_at (none_back (g.trans g') hD)]; exact upd_same
  · exact Reps.same (newH_mono gg) _ _ (Reps.kat b (Reps.places (Reps.kat b hs) hin))
theorem ok_in (F : FunD K "in_order" "in_order" sIn f fd) (B : Bl2 mg) (Gcopied : Dn P w K mg base (1 + 10) "copied" ["thing"] (spCp 10)) (Grank : Dn P w K mg base (2 + 9) "rank" ["thing"] (spRank 9)) : FnOk P w K mg base CX0 (13 + 1) f fd ["things", "falling"] spIn := by
  refine F.ok (k := 13) scIn (fun vs H Q E h => ?_) (fun cdv A outer s H vs Q E hr h => ?_)
  · obtain ⟨a, xs, us, b, rfl, _⟩ := h
    rfl
  obtain ⟨a, xs, us, b, rfl, ha, hx, hl, hf, q⟩ := h
  have nd := scIn.nd
  refine ⟨_, (pss_cons (ps_set (i := 2) nd rfl (Or.inl rfl) (pe_cd Gcopied hr (by omega) rfl (pa_cons (pv 0) pa_nil)))
    (pss_cons (ps_if (pt_val (pv 1)) (pss_one (ps_ret (pe_sortKR Grank rfl hr (by omega) rfl B.sorted rfl (pa_cons (pv 2) pa_nil)))) pss_nil)
    (pss_one (ps_ret (pe_sortK Grank rfl hr (by omega) rfl B.sorted rfl (pa_cons (pv 2) pa_nil)))))), ?_⟩
  rw [show start ["things", "falling", "copies"] [.ref a, .bl b] = [some (.ref a), some (.bl b), none] from rfl]
  walk_at "rd2"
  have fr := row_few hl hf
  refine ⟨.ref a, .lst us, rfl, ⟨a, xs, rfl, ha, hx⟩, fr.pure, Nat.lt_succ_of_le fr.dep, Nat.le_trans fr.sz (by decide), fun v' H1 D g1 hv' hD => ?_⟩
  obtain ⟨l, ys, rfl, hl1, hs1⟩ := hv'.new hD
  have hl2 : H1 l = some (.lst ys) := newH_sub _ _ _ _ hl1
  have hyl := hs1.length
  have ask : ∀ (i : Nat) v c H' (Q' : VK), ys[i]? = some v → (us.map canon)[i]? = some c → Same H1 H' → (∀ r H2, Same H' H2 → Rep H2 r (rk c) → Q' r H2) → spRank 9 [v] H' Q' E0 := fun i v c H' Q' h1 h2 g h3 => by
    obtain ⟨t, ht, hr'⟩ := hs1.get h1
    rw [List.getElem?_map, ht] at h2
    cases h2
    have ft := hf t (List.mem_of_getElem? ht)
    exact ⟨v, t, rfl, Rep.same ((newH_sub _ _).trans g) _ _ hr', ft.few, Nat.lt_succ_of_le ft.dep, h3⟩
  have okc : ∀ c ∈ us.map canon, c.ok ∧ T.dep (rk c) ≤ 150 := fun c hc => by
    obtain ⟨t, ht, rfl⟩ := List.mem_map.mp hc
    have ft := hf t ht
    have := rk_dep 8 t ft.few ft.dep
    exact ⟨canon_ok t ft.few, by omega⟩
  cases b with
  | true =>
   exact iP rfl ⟨.ref l, rfl, l, ys, us.map canon, rfl, hl2, by omega, by simp [hyl], okc, ask, fun D H' p g' hD' W U => sort_end hyl g1 g' hD' hs1 W U q⟩
  | false => exact iN (by decide) ⟨.ref l, rfl, l, ys, us.map canon, rfl, hl2, by omega, by simp [hyl], okc, ask, fun D H' p g' hD' W U => sort_end hyl g1 g' hD' hs1 W U q⟩
abbrev sThs : Stmt := top 38
mutual
theorem emb_sz : ∀ (t : T), T.pure t → U.sz (emb t) = T.sz t
  | .non, _ => rfl
  | .bl _, _ => rfl
  | .int _, _ => rfl
  | .str _, _ => rfl
  | .lst ts, h => congrArg (· + 1) (embs_sz ts h)
  | .dic ks ts, h => congrArg (· + 1) (embs_sz ts h.2)
  | .tup _, h => h.elim
theorem embs_sz : ∀ (ts : List T), T.pures ts → U.szs (embs ts) = T.szs ts
  | [], _ => rfl
  | t :: ts, h => by
    show U.sz (emb t) + U.szs (embs ts) = T.sz t + T.szs ts
    rw [emb_sz t h.1, embs_sz ts h.2]
end
mutual
theorem emb_dep : ∀ (t : T), T.pure t → U.dep (emb t) = T.dep t
  | .non, _ => rfl
  | .bl _, _ => rfl
  | .int _, _ => rfl
  | .str _, _ => rfl
  | .lst ts, h => congrArg (· + 1) (embs_dep ts h)
  | .dic ks ts, h => congrArg (· + 1) (embs_dep ts h.2)
  | .tup _, h => h.elim
theorem embs_dep : ∀ (ts : List T), T.pures ts → U.deps (embs ts) = T.deps ts
  | [], _ => rfl
  | t :: ts, h => by
    show max (U.dep (emb t)) (U.deps (embs ts)) = max (T.dep t) (T.deps ts)
    rw [emb_dep t h.1, embs_dep ts h.2]
end
theorem embs_len : ∀ ts : List T, (embs ts).length = ts.length
  | [] => rfl
  | _ :: ts => congrArg (· + 1) (embs_len ts)
mutual
theorem emb_ok : ∀ (t : T), T.few t → T.calk t → U.ok (emb t)
  | .non, _, _ => fun x e => nomatch e
  | .bl _, _, _ => fun x e => nomatch e
  | .int _, _, _ => fun x e => nomatch e
  | .str y, _, hc => fun x e => by
    have e' : V.str (tx y) = V.str x := e
    injection e' with e'
    have h : y.length ≤ 100 := hc
    rw [← e', tx_len]; omega
  | .lst ts, h, hc => embs_ok ts h.2 hc
  | .dic ks ts, h, hc => by
    obtain ⟨nk, _, hl, hf⟩ := h
    refine ⟨nodup_nK nk, by rw [List.length_map, embs_len]; exact hl, fun x hx => ?_, embs_ok ts hf hc.2⟩
    obtain ⟨k, hk, e⟩ := List.mem_map.mp hx
    have e' : tx k = x := Sum.inr.inj e
    have := hc.1 k hk
    rw [← e', tx_len]; omega
  | .tup _, h, _ => h.elim
theorem embs_ok : ∀ (ts : List T), T.fews ts → T.calks ts → U.oks (embs ts)
  | [], _, _ => True.intro
  | t :: ts, h, hc => ⟨emb_ok t h.1 hc.1, embs_ok ts h.2 hc.2⟩
end
theorem szs_next : ∀ us : List U, U.szs us = us.length + U.szs (nextU us)
  | [] => rfl
  | u :: us => by
    have ih := szs_next us
    have e : nextU (u :: us) = kids u ++ nextU us := rfl
    rw [e, U.szs_append]
    show U.sz u + U.szs us = us.length + 1 + _
    cases u with
    | leaf v => show 1 + U.szs us = us.length + 1 + (0 + _); omega
    | lst ws => show U.szs ws + 1 + U.szs us = us.length + 1 + (U.szs ws + _); omega
    | dic ks ws => show U.szs ws + 1 + U.szs us = us.length + 1 + (U.szs ws + _); omega
theorem deps_append : ∀ (a b : List U), U.deps (a ++ b) = max (U.deps a) (U.deps b)
  | [], b => (Nat.zero_max _).symm
  | x :: a, b => by
    show max (U.dep x) (U.deps (a ++ b)) = max (max (U.dep x) (U.deps a)) (U.deps b)
    rw [deps_append a b, Nat.max_assoc]
theorem deps_next : ∀ us : List U, U.deps us ≤ U.deps (nextU us) + 1
  | [] => Nat.zero_le _
  | u :: us => by
    have ih := deps_next us
    have e : nextU (u :: us) = kids u ++ nextU us := rfl
    rw [e, deps_append]
    show max (U.dep u) (U.deps us) ≤ _
    have : U.dep u ≤ U.deps (kids u) + 1 := by
      cases u with
      | leaf v => exact Nat.zero_le _
      | lst ws => exact Nat.le_refl _
      | dic ks ws => exact Nat.le_refl _
    omega
theorem leaves : ∀ us : List U, us.any isH = false → U.deps us = 0 ∧ nextU us = []
  | [], _ => ⟨rfl, rfl⟩
  | u :: us, h => by
    rw [List.any_cons, Bool.or_eq_false_iff] at h
    obtain ⟨h1, h2⟩ := leaves us h.2
    cases u with
    | leaf v =>
      refine ⟨?_, ?_⟩
      · show max 0 (U.deps us) = 0
        rw [h1]; rfl
      · show [] ++ nextU us = []
        rw [h2]; rfl
    | lst ws => cases h.1
    | dic ks ws => cases h.1
theorem jd_small : ∀ (k z : Nat) (us : List U), jd k z us = true → z + U.szs us ≤ 200 ∧ U.deps us + 1 ≤ k
  | 0, _, _, h => by cases h
  | k + 1, z, us, h => by
    have e : jd (k + 1) z us = if 200 < z + us.length ∨ us.all soundU = false then false else if us.any isH = false then true else jd k (z + us.length) (nextU us) := rfl
    rw [e] at h
    split at h
    · cases h
    · rename_i hn
      have hle : z + us.length ≤ 200 := Nat.le_of_not_lt fun c => hn (.inl c)
      have s := szs_next us
      have dn := deps_next us
      split at h
      · rename_i hl
        obtain ⟨h1, h2⟩ := leaves us hl
        rw [h2] at s
        have s0 : U.szs [] = 0 := rfl
        omega
      · have := jd_small k _ _ h
        omega
theorem thing_fik {d z : Nat} {t : T} (h : Fik d z t) (hj : jd 9 0 [emb t] = true) : Fik 8 200 t := by
  have := jd_small 9 0 _ hj
  have e1 := emb_sz t h.pure
  have e2 := emb_dep t h.pure
  have e3 : U.szs [emb t] = U.sz (emb t) := Nat.add_zero _
  have e4 : U.deps [emb t] = U.dep (emb t) := Nat.max_zero _
  exact ⟨h.few, h.calk, by omega, by omega⟩
def spThs (K : PySem.W.Frag) : Sp := fun vs H Q _ => ∃ (a : Addr) (ns : List Int), vs = [.ref a] ∧ SqL K H a (ns.map V.int) ∧ ns.length ≤ 63 ∧ ∀ l xs us H', Same H H' → H' l = some (.lst xs) → Reps H' xs us → us.length ≤ 14 → (∀ u ∈ us, Fik 8 200 u) → Q (.ref l) H'
theorem scThs : FnScope ["_law_script", "_law_result", "_law_k", "_law_more", "_law_other"] ["_law_script"] (defScope sThs) := ⟨rfl, rfl, rfl, by decide +kernel, rfl, by decide +kernel, by decide +kernel⟩
theorem ok_ths (F : Fun K "_law_things_by" "_law_things_by" sThs f fd) (B : Bl2 mg) (G_law_cell : Dn P w K mg base 1 "_law_cell" ["_law_script", "_law_k"] (spCell K)) (G_law_name_by : Dn P w K mg base 1 "_law_name_by" ["_law_more"] spName)
    (G_law_wide_by : Dn P w K mg base (3 + 3 + 1) "_law_wide_by" ["_law_script", "_law_k", "_law_deep"] (spWide K)) (G_law_held : Dn P w K mg base (1 + 10) "_law_held" ["_law_thing"] (spCp 10))
    (G_law_varied : Dn P w K mg base (11 + 10) "_law_varied" ["_law_thing", "_law_more", "_law_names"] (spVar 10)) (Gis_thing : Dn P w K mg base 3 "is_thing" ["thing"] spTh) : FnOk P w K mg base CX0 (11 + 10 + 1) f fd ["_law_script"] (spThs K) := by
  refine F.ok scThs (fun vs H Q E h => ?_) (fun cdv A outer s H vs Q E hr h => ?_)
  · obtain ⟨a, ns, rfl, _⟩ := h
    rfl
  obtain ⟨a, ns, rfl, hS, h63, q⟩ := h
  have nd := scThs.nd
  have hu := hu_of hr
  have hu0 := hr.units0
  refine ⟨_, (pss_cons (ps_set (i := 1) nd rfl (Or.inl rfl) (pe_lst pa_nil))
    (pss_cons (ps_for PassesOwn.never rfl (pi_range1 rfl B.range (pa_cons (pe_op op_mod (pe_cd G_law_cell hr (by omega) rfl (pa_cons (pv 0) (pa_cons pe_int pa_nil))) pe_int) pa_nil)) (pg_name (i := 2) nd rfl (Or.inl rfl)) (pss_cons (ps_set (i := 3) nd rfl (Or.inl rfl) (pe_cd G_law_cell hr (by omega) rfl (pa_cons (pv 0) (pa_cons (pe_op op_add pe_int (pv 2)) pa_nil))))
    (pss_one (ps_if (PW.pt (pw_or (pt_cmpR op_gt (pe_op op_mod (pv 3) pe_int) pe_int (nomark _)) (pw_or1 (pt_cmpR (op_eq_0 hu0) (pv 1) (pe_lst pa_nil) (nomark _))))) (pss_one (ps_expr (pe_bm PySem.F.plainAttrs_list PySem.F.slot_list_append PySem.F.type_list_append mt_append (pv 1) (pa_cons (pe_hide (pe_cd G_law_wide_by hr (by omega) rfl (pa_cons (pv 0) (pa_cons (pe_op op_add pe_int (pe_op op_mul pe_int (pv 2))) (pa_cons (pe_op op_mod (pe_op op_fdiv (pv 3) pe_int) pe_int) pa_nil))))) pa_nil)))) (pss_one (ps_if (pt_cmpR op_eq (pe_op op_mod (pe_op op_fdiv (pv 3) pe_int) pe_int) pe_int (nomark _)) (pss_one (ps_expr (pe_bm PySem.F.plainAttrs_list PySem.F.slot_list_append PySem.F.type_list_append mt_append (pv 1) (pa_cons (pe_cd G_law_held hr (by omega) rfl (pa_cons (pe_ix ix_list (pv 1) (pe_un un_neg pe_int) (fun _ _ => rfl)) pa_nil)) pa_nil)))) (pss_cons (ps_set (i := 4) nd rfl (Or.inl rfl) (pe_hide (pe_cd G_law_varied hr (by omega) rfl (pa_cons (pe_cd G_law_held hr (by omega) rfl (pa_cons (pe_ix ix_list (pv 1) (pe_un un_neg pe_int) (fun _ _ => rfl)) pa_nil)) (pa_cons (pe_op op_fdiv (pv 3) pe_int) (pa_cons (pe_cd G_law_name_by hr (by omega) rfl (pa_cons (pe_op op_fdiv (pv 3) pe_int) pa_nil)) pa_nil))))))
    (pss_one (ps_expr (pe_bm PySem.F.plainAttrs_list PySem.F.slot_list_append PySem.F.type_list_append mt_append (pv 1) (pa_cons (pe_ix ix_list (pe_lst (pa_cons (pe_cd G_law_held hr (by omega) rfl (pa_cons (pe_ix ix_list (pv 1) (pe_un un_neg pe_int) (fun _ _ => rfl)) pa_nil)) (pa_cons (pv 4) pa_nil))) (pe_callTy call_intB rfl B.int bt_int (pa_cons (pe_cd Gis_thing hr (by omega) rfl (pa_cons (pv 4) pa_nil)) pa_nil)) (fun _ _ => rfl)) pa_nil)))))))))))
    (pss_one (ps_ret (pv 1))))), ?_⟩
  rw [show start ["_law_script", "_law_result", "_law_k", "_law_more", "_law_other"] [.ref a] = [some (.ref a), none, none, none, none] from rfl]
  walk_at "rd2"
  intro p hp
  have g0 := same_new hp (.lst [])
  refine spCell_i (g0.seq hS) h63 (by decide) (by decide) fun H1 g1 => ?_
  have c0 := cellF_lo ns 300
  generalize cellF ns 300 = m0 at c0 ⊢
  refine ⟨m0, rfl, by omega, by omega, ?_⟩
  obtain ⟨n, hn, hn14⟩ : ∃ n : Nat, (m0 % 15).toNat = n ∧ n ≤ 14 := ⟨_, rfl, by omega⟩
  rw [hn]
  have hp1 : H1 p = some (.lst []) := g1 _ _ upd_same
  have gH1 : Same H (hide H1 p) := fun b o e => by
    have hb : b ≠ p := fun z => by rw [z, hp] at e; cases e
    rw [hide_ne hb]
    exact g1 _ _ (g0 _ _ e)
  refine forB_rng (fun i σ' H' => ∃ o2 o3 o4, σ' = [some (.ref a), some (.ref p), o2, o3, o4] ∧ Same H (hide H' p) ∧ ∃ vs ts, H' p = some (.lst vs) ∧ Reps (hide H' p) vs ts ∧ ts.length = i ∧ ∀ t ∈ ts, Fik 8 200 t) ⟨_, _, _, rfl, gH1, [], [], hp1, rfl, rfl, fun _ h => nomatch h⟩ ?_ ?_
  · rintro i σ' H' hi ⟨o2, o3, o4, rfl, gh, vs, ts, hpl, hR, hlen, hfit⟩
    have hvl := hR.length
    have hi15 : (i : Int) < 14 := by omega
    unfold tHides tHide
    walk_at "rd2"
    have G : ∀ (Hx : Hp) (u : HO), Same H' Hx → Same H (upd Hx p u) := fun Hx u g => gh.trans ((hide_mono g).trans hide_sub)
    refine spCell_i ((gh.trans hide_self).seq hS) h63 (by omega) (by omega) fun H2 g2 => ?_
    have c1 := cellF_lo ns (310 + (0 + (i : Int)))
    have c2 := cellF_hi ns (310 + (0 + (i : Int)))
    generalize cellF ns (310 + (0 + (i : Int))) = mo at c1 c2 ⊢
    have app : ∀ (Hb : Hp) (v' : V) (t'' : T) (o : Option V), Same (hide H' p) (hide Hb p) → Hb p = some (.lst vs) → Rep (hide Hb p) v' t'' → Fik 8 200 t'' →
        rAppend (V.ref p) [v'] Hb fun x H1 => (∃ x, o = x) ∧ Same H (hide H1 p) ∧ ∃ vs, H1 p = some (HO.lst vs) ∧ ∃ x, Reps (hide H1 p) vs x ∧ x.length = i + 1 ∧ ∀ (t : T), t ∈ x → Fik 8 200 t := by
      intro Hb v' t'' o gb hb hv' ft
      refine ⟨p, vs, v', rfl, rfl, hb, by rw [sizeLine_eq]; omega, ⟨_, rfl⟩, by rw [hide_upd]; exact gh.trans gb, _, upd_same, ts ++ [t''], by rw [hide_upd]; exact Reps.snoc hv' (Reps.same gb _ _ hR), by simp [hlen], fun u hu => ?_⟩
      rcases List.mem_append.mp hu with z | z
      · exact hfit u z
      · rw [List.mem_singleton.mp z]; exact ft
    obtain ⟨d0, hd0, hd2⟩ : ∃ d0 : Nat, mo / 3 % 2 = d0 ∧ d0 ≤ 2 := ⟨(mo / 3 % 2).toNat, by omega, by omega⟩
    have wd : ∀ (Hb : Hp) (o : Obj), Same H' Hb → Hb p = some (.lst vs) → spWide K [V.ref a, V.int (10 + 40 * (0 + (i : Int))), V.int (mo / 3 % 2)] (upd Hb p (HO.frz o (HO.lst vs))) (fun v H' => rAppend (V.ref p) [v] (thaw Hb H') fun x H1 =>
        (∃ x, o4 = x) ∧ Same H (hide H1 p) ∧ ∃ vs, H1 p = some (HO.lst vs) ∧ ∃ x, Reps (hide H1 p) vs x ∧ x.length = i + 1 ∧ ∀ (t : T), t ∈ x → Fik 8 200 t) E0 := by
      intro Hb o gb hb
      rw [hd0]
      refine ⟨a, ns, _, d0, rfl, by omega, by omega, hd2, (G Hb _ gb).seq hS, h63, fun v' Hc t'' gc hv' ft => ?_⟩
      exact app _ v' t'' _ ((hide_mono gb).trans (hide_thaw gc)) (hide_back hb (by intro o v z; cases z) gc) (Rep.off (gc p _ upd_same) hv') (ft.mono (by decide) (by decide))
    have hpl2 := g2 _ _ hpl
    refine ⟨mo, rfl, ?_⟩
    by_cases h3 : 0 < mo % 3
    · exact iP h3 ⟨Or.inl ⟨rfl, _, SqL.of hpl2⟩, p, .inr ⟨vs, hpl2, fun o => ⟨mo, rfl, wd H2 o g2 hpl2⟩⟩⟩
    refine iN h3 fun p1 hp1 => ?_
    have g3 := g2.trans (same_new hp1 (.lst []))
    have hp1' : upd H2 p1 (.lst []) p1 = some (.lst []) := upd_same
    have hpl3 := g3 _ _ hpl
    generalize upd H2 p1 (.lst []) = H3 at g3 hp1' hpl3 ⊢
    refine ⟨p, p1, vs, rfl, rfl, SqL.of hpl3, SqL.of hp1', vs.isEmpty, rfl, ?_⟩
    by_cases hemp : vs.isEmpty = true
    · exact iP hemp ⟨Or.inl ⟨rfl, _, SqL.of hpl3⟩, p, .inr ⟨vs, hpl3, fun o => ⟨mo, rfl, wd H3 o g3 hpl3⟩⟩⟩
    have hne : vs ≠ [] := fun z => hemp (by rw [z]; rfl)
    obtain ⟨tl, htl, hrl⟩ := hR.get (i := vs.length - 1) (v := vs.getLast hne) (by
      have := List.length_pos_iff.mpr hne
      rw [List.getLast_eq_getElem]; simp)
    have hfl := hfit tl (List.mem_of_getElem? htl)
    have hat : atI vs (-1) = some (vs.getLast hne) := by
      conv => lhs; rw [← List.dropLast_concat_getLast hne]
      exact atI_last _ _
    have hd1 := hfl.dep
    have hz1 := hfl.sz
    have fresh : ∀ {Hb Hd : Hp} {v' : V} {D : List Addr}, Hb p = some (.lst vs) → (∀ b ∈ D, Hb b = none) → Sp1 Hd v' tl D → Rep (hide Hd p) v' tl := fun {Hb Hd v' D} hb hD hs =>
      Sp1.rep _ _ _ (Sp1.keep _ _ _ (fun b hm o _ e => by rw [hide_ne (fun z => by rw [z] at hm; rw [hD p hm] at hb; cases hb)]; exact e) hs)
    refine iN hemp ⟨mo, rfl, ?_⟩
    by_cases h33 : mo / 3 % 3 = 0
    · refine iP h33 ⟨Or.inl ⟨rfl, _, SqL.of hpl3⟩, rIxL_i (SqL.of hpl3) hat ⟨_, tl, rfl, Rep.same ((hide_mono g3).trans hide_self) _ _ hrl, hfl.pure, by omega, by omega, fun v' H4 D g4 hv' hD => ?_⟩⟩
      exact app H4 v' tl _ (hide_mono (g3.trans g4)) (g4 _ _ hpl3) (fresh hpl3 hD hv') hfl
    refine iN h33 ⟨p, .inr ⟨vs, hpl3, fun o => rIxL_i (.inl (.inr ⟨o, upd_same⟩)) hat ⟨_, tl, rfl, Rep.same ((hide_mono g3).trans hide_sub) _ _ hrl, hfl.pure, by omega, by omega, fun v4 H4 D4 g4 hv4 hD4 => ?_⟩⟩⟩
    refine ⟨mo, rfl, mo, rfl, _, rfl, by omega, by omega, fun nx hnx H5 g5 => ⟨v4, _, nx, tl, rfl, Rep.same g5 _ _ (Sp1.rep _ _ _ hv4), hfl.few, hfl.calk, by omega, by decide, by omega, by omega, Nat.le_trans (okName_len hnx) (by decide), fun ov H6 tO g6 hvO ftO => ?_⟩⟩
    have gf := g4.trans (g5.trans g6)
    have hT := hide_back hpl3 (by intro o v z; cases z) gf
    have gT := (hide_mono g3).trans (hide_thaw gf)
    have hO := Rep.off (H := H3) (gf p _ upd_same) hvO
    simp only []
    generalize L2.thaw H3 H6 = H7 at hT gT hO ⊢
    refine ⟨Or.inl ⟨rfl, _, SqL.of hT⟩, rIxL_i (SqL.of hT) hat ⟨_, tl, rfl, Rep.same (gT.trans hide_self) _ _ hrl, hfl.pure, by omega, by omega, fun v8 H8 D8 g8 hv8 hD8 p2 hp2 => ?_⟩⟩
    have g9 := same_new hp2 (.lst [v8, ov])
    have hp2' : upd H8 p2 (.lst [v8, ov]) p2 = some (.lst [v8, ov]) := upd_same
    generalize upd H8 p2 (.lst [v8, ov]) = H9 at g9 hp2' ⊢
    have fz := ftO.sz
    refine ⟨ov, emb tO, rfl, Rep.ru _ _ (Rep.same (hide_self.trans (g8.trans g9)) _ _ hO) ftO.pure, emb_ok tO ftO.few ftO.calk, by rw [emb_sz tO ftO.pure]; omega, fun HX gX => ⟨_, rfl, ?_⟩⟩
    have gG := g8.trans (g9.trans gX)
    cases hj : jd 9 0 [emb tO] with
    | true => exact rIxL_i (SqL.of (gX _ _ hp2')) (v := ov) rfl (app HX ov tO _ (gT.trans (hide_mono gG)) (gG _ _ hT) (Rep.same (hide_mono gG) _ _ hO) (thing_fik ftO hj))
    | false => exact rIxL_i (SqL.of (gX _ _ hp2')) (v := v8) rfl (app HX v8 tl _ (gT.trans (hide_mono gG)) (gG _ _ hT) (Rep.same (hide_mono (g9.trans gX)) _ _ (fresh hT hD8 hv8)) hfl)
  · rintro σ' H' ⟨o2, o3, o4, rfl, gh, vs, ts, hpl, hR, hlen, hfit⟩
    walk_at "rd2"
    exact q p vs ts H' (gh.trans hide_self) hpl (Reps.same hide_self _ _ hR) (by omega) hfit
abbrev sOft : Stmt := top 39
abbrev sRgt : Stmt := top 40
theorem wt_dep (t : T) : T.wt t ≤ 2 * T.dep t := by
  have all : ∀ (n : Nat) (t : T), T.dep t ≤ n → T.wt t ≤ 2 * T.dep t := by
    intro n
    induction n with
    | zero =>
      intro t h
      cases t with
      | lst ts => exact absurd h (Nat.not_succ_le_zero _)
      | dic ks ts => exact absurd h (Nat.not_succ_le_zero _)
      | tup ts => exact absurd h (Nat.not_succ_le_zero _)
      | _ => exact Nat.zero_le _
    | succ n ih =>
      have alls : ∀ ts : List T, T.deps ts ≤ n → T.wts ts ≤ 2 * T.deps ts := by
        intro ts
        induction ts with
        | nil => intro _; exact Nat.zero_le _
        | cons t ts ih2 =>
          intro h
          have h' : max (T.dep t) (T.deps ts) ≤ n := h
          have a := ih t (by omega)
          have b := ih2 (by omega)
          show max (T.wt t) (T.wts ts) ≤ 2 * max (T.dep t) (T.deps ts)
          omega
      intro t h
      cases t with
      | lst ts =>
        have := alls ts (Nat.le_of_succ_le_succ h)
        show T.wts ts + 1 ≤ 2 * (T.deps ts + 1)
        omega
      | dic ks ts =>
        have := alls ts (Nat.le_of_succ_le_succ h)
        show T.wts ts + 2 ≤ 2 * (T.deps ts + 1)
        omega
      | tup ts =>
        have := alls ts (Nat.le_of_succ_le_succ h)
        show T.wts ts + 1 ≤ 2 * (T.deps ts + 1)
        omega
      | _ => exact Nat.zero_le _
  exact all _ t (Nat.le_refl _)
theorem fik_wt {t : T} (h : Fik 8 200 t) : T.wt t ≤ 18 := by
  have := wt_dep t
  have := h.dep
  omega
def alike (t u : T) : Bool := decide (cmpC (canon u) (canon t) = 0)
def spOft : Sp := fun vs H Q _ => ∃ (v : V) (t : T) (b : Addr) (ys : List V) (us : List T), vs = [v, .ref b] ∧ Rep H v t ∧ Fik 8 200 t ∧ H b = some (.lst ys) ∧ Reps H ys us ∧ us.length ≤ 14 ∧ (∀ u ∈ us, Fik 8 200 u) ∧ ∀ H', Same H H' → Q (.int (us.filter (alike t)).length) H'
theorem scOft : FnScope ["_law_thing", "_law_things"] ["_law_thing", "_law_things"] (defScope sOft) := ⟨rfl, rfl, rfl, by decide +kernel, rfl, by decide +kernel, by decide +kernel⟩
theorem ok_oft (F : Fun K "_law_often" "_law_often" sOft f fd) (B : Bl2 mg) (G_law_same : Dn P w K mg base (2 + 2 * 18 + 1) "_law_same" ["_law_one", "_law_other"] (spSame 18)) : FnOk P w K mg base CX0 (2 + 2 * 18 + 1 + 1) f fd ["_law_thing", "_law_things"] spOft := by
  refine F.ok scOft (fun vs H Q E h => ?_) (fun cdv A outer s H vs Q E hr h => ?_)
  · obtain ⟨v, t, b, ys, us, rfl, _⟩ := h
    rfl
  obtain ⟨v, t, b, ys, us, rfl, hv, ft, hb, hy, hl, hf, q⟩ := h
  have nd := scOft.nd
  have hu := hu_of hr
  refine ⟨_, (pss_one (ps_ret (pe_callB call_len_l rfl B.len bt_len (pa_cons (pe_comp (own := ["_law_one"]) (F := [("_law_thing", 0)]) ⟨rfl, by with_unfolding_all rfl, by with_unfolding_all rfl, by with_unfolding_all rfl, (.cons rfl rfl rfl .nil)⟩ rfl (pi_list (pv 1)) (fun _ _ _ _ => pg_name (i := 0) (by show (compN ["_law_one"] [("_law_thing", 0)]).Nodup; decide +kernel) rfl (Or.inl rfl)) (fun _ _ _ _ => (pts_one (pt_val (pe_cd G_law_same hr (by omega) rfl (pa_cons (pv 0) (pa_cons (pv 1) pa_nil)))))) (fun _ _ _ _ => (pv 0))) pa_nil)))), ?_⟩
  rw [show start ["_law_thing", "_law_things"] [v, .ref b] = [some v, some (.ref b)] from rfl]
  walk_at "rd2"
  have hyl := hy.length
  refine ⟨⟨_, SqL.of hb⟩, comp_list (K := K) (xs := ys) (fun i zs H' => Same H H' ∧ zs.length = ((us.take i).filter (alike t)).length) (by rw [sizeLine_eq]; omega) ⟨Same.refl _, rfl⟩ (fun i zs H' _ h => SqL.of (h.1 _ _ hb)) ?_ ?_⟩
  · rintro i x zs H' hx _ ⟨g, hz⟩
    obtain ⟨u, hu', hr'⟩ := hy.get hx
    have fu := hf u (List.mem_of_getElem? hu')
    walk_at "rd2"
    refine ⟨x, v, u, t, rfl, Rep.same g _ _ hr', Rep.same g _ _ hv, fu.few, ft.few, fik_wt fu, fik_wt ft, fun H2 g2 => ⟨_, rfl, ?_⟩⟩
    rw [take_succ_of hu', List.filter_append]
    by_cases hc : cmpC (canon u) (canon t) = 0
    · rw [if_pos (decide_eq_true hc), List.filter_cons_of_pos (show alike t u = true from decide_eq_true hc)]
      exact ⟨g.trans g2, by simp [hz]⟩
    · rw [if_neg (by rw [decide_eq_false hc]; decide), List.filter_cons_of_neg (by show ¬ alike t u = true; unfold alike; rw [decide_eq_false hc]; decide)]
      exact ⟨g.trans g2, by simp [hz]⟩
  · rintro zs H' _ ⟨g, hz⟩ p hp
    rw [hyl, List.take_length] at hz
    refine ⟨p, rfl, zs, SqL.of upd_same, ?_⟩
    rw [hz]
    exact q _ (g.trans (same_new hp _))
def spRgt : Sp := fun vs H Q _ => ∃ (a b : Addr) (xs ys : List V) (ws us : List T) (fl : Bool), vs = [.ref a, .ref b, .bl fl] ∧ H a = some (.lst xs) ∧ H b = some (.lst ys) ∧ Reps H xs ws ∧ Reps H ys us ∧ ws.Perm us ∧ Srt fl ws ∧ us.length ≤ 14 ∧ (∀ u ∈ us, Fik 8 200 u) ∧ ∀ H', Same H H' → Q (.bl true) H'
theorem scRgt : FnScope ["_law_result", "_law_things", "_law_falling", "_law_k"] ["_law_result", "_law_things", "_law_falling"] (defScope sRgt) := ⟨rfl, rfl, rfl, by decide +kernel, rfl, by decide +kernel, by decide +kernel⟩
theorem ok_rgt (F : Fun K "_law_right" "_law_right" sRgt f fd) (B : Bl2 mg) (G_law_compare : Dn P w K mg base (2 + 2 * 18) "_law_compare" ["_law_one", "_law_other"] (spCmp 18)) (G_law_often : Dn P w K mg base (2 + 2 * 18 + 1 + 1) "_law_often" ["_law_thing", "_law_things"] spOft) : FnOk P w K mg base CX0 (2 + 2 * 18 + 1 + 1 + 1) f fd ["_law_result", "_law_things", "_law_falling"] spRgt := by
  refine F.ok scRgt (fun vs H Q E h => ?_) (fun cdv A outer s H vs Q E hr h => ?_)
  · obtain ⟨a, b, xs, ys, ws, us, fl, rfl, _⟩ := h
    rfl
  obtain ⟨a, b, xs, ys, ws, us, fl, rfl, ha, hb, hx, hy, hpm, hso, hl, hf, q⟩ := h
  have nd := scRgt.nd
  have hu := hu_of hr
  have hu0 := hr.units0
  refine ⟨_, (pss_cons (ps_if (PW.pt (pw_or (pt_not (pt_val (pe_callB (call_isi (T := "list") (by decide)) rfl B.isinstance bt_isinstance (pa_cons (pv 0) (pa_cons (pe_bltn (v := .ty "list") rfl B.list bt_list rfl) pa_nil))))) (pw_or1 (pt_cmpR op_ne (pe_callB call_len_l rfl B.len bt_len (pa_cons (pv 0) pa_nil)) (pe_callB call_len_l rfl B.len bt_len (pa_cons (pv 1) pa_nil)) (nomark _))))) (pss_one (ps_ret pe_bl)) pss_nil)
    (pss_cons (ps_for PassesOwn.never rfl (pi_range2 rfl B.range (pa_cons pe_int (pa_cons (pe_callB call_len_l rfl B.len bt_len (pa_cons (pv 0) pa_nil)) pa_nil))) (pg_name (i := 3) nd rfl (Or.inl rfl)) (pss_one (ps_if (pt_cmpR op_eq (pe_cd G_law_compare hr (by omega) rfl (pa_cons (pe_ix ix_list (pv 0) (pe_op op_sub (pv 3) pe_int) (fun _ _ => rfl)) (pa_cons (pe_ix ix_list (pv 0) (pv 3) (fun _ _ => rfl)) pa_nil))) (pe_ix ix_list (pe_lst (pa_cons pe_int (pa_cons (pe_un un_neg pe_int) pa_nil))) (pe_callTy call_intB rfl B.int bt_int (pa_cons (pv 2) pa_nil)) (fun _ _ => rfl)) (nomark _)) (pss_one (ps_ret pe_bl)) pss_nil)))
    (pss_one (ps_ret (pe_cmpR (op_eq_0 hu0) (pe_comp (own := ["_law_one"]) (F := [("_law_things", 1), ("_law_result", 0)]) ⟨rfl, by with_unfolding_all rfl, by with_unfolding_all rfl, by with_unfolding_all rfl, (.cons rfl rfl rfl (.cons rfl rfl rfl .nil))⟩ rfl (pi_list (pv 1)) (fun _ _ _ _ => pg_name (i := 0) (by show (compN ["_law_one"] [("_law_things", 1), ("_law_result", 0)]).Nodup; decide +kernel) rfl (Or.inl rfl)) (fun _ _ _ _ => (pts_one (pt_cmpR op_ne (pe_cd G_law_often hr (by omega) rfl (pa_cons (pv 0) (pa_cons (pv 1) pa_nil))) (pe_cd G_law_often hr (by omega) rfl (pa_cons (pv 0) (pa_cons (pv 2) pa_nil))) (nomark _)))) (fun _ _ _ _ => (pv 0))) (pe_lst pa_nil) (nomark _)))))), ?_⟩
  rw [show start ["_law_result", "_law_things", "_law_falling", "_law_k"] [.ref a, .ref b, .bl fl] = [some (.ref a), some (.ref b), some (.bl fl), none] from rfl]
  walk_at "rd2"
  have hxl := hx.length
  have hyl := hy.length
  have hpl := hpm.length_eq
  refine ⟨"list", tyS_lst ha, iN (by decide) ⟨xs, SqL.of ha, ys, SqL.of hb, false, by rw [hxl, hyl, hpl]; simp, iN (by decide) ?_⟩⟩
  unfold iRng2
  walk_at "rd2"
  refine ⟨xs, SqL.of ha, 1, _, ⟨rfl, rfl⟩, ⟨by decide, by decide, by omega, by omega⟩, ?_⟩
  obtain ⟨n, hn⟩ : ∃ n : Nat, ((xs.length : Int) - 1).toNat = n ∧ (n = xs.length - 1) := ⟨_, rfl, by omega⟩
  rw [hn.1]
  refine forB_rng (fun i σ H' => (∃ o3, σ = [some (V.ref a), some (V.ref b), some (V.bl fl), o3]) ∧ Same H H') ⟨⟨_, rfl⟩, Same.refl _⟩ ?_ ?_
  · rintro i σ H' hi ⟨⟨o3, rfl⟩, g⟩
    have i1 : i < xs.length := by omega
    have i2 : i + 1 < xs.length := by omega
    obtain ⟨t1, ht1, hr1⟩ := hx.get (i := i) (v := xs[i]) (by simp [i1])
    obtain ⟨t2, ht2, hr2⟩ := hx.get (i := i + 1) (v := xs[i + 1]) (by simp [i2])
    have f1 := hf t1 (hpm.mem_iff.mp (List.mem_of_getElem? ht1))
    have f2 := hf t2 (hpm.mem_iff.mp (List.mem_of_getElem? ht2))
    have z := hso i t1 t2 ht1 ht2
    walk_at "rd2"
    have ha' := g _ _ ha
    refine rIxL_i (SqL.of ha') (v := xs[i]) (by rw [show (1 + (i : Int) - 1) = (i : Int) by omega]; exact atI_nat (by simp [i1])) (rIxL_i (SqL.of ha') (v := xs[i + 1]) (by rw [show (1 + (i : Int)) = ((i + 1 : Nat) : Int) by omega]; exact atI_nat (by simp [i2])) ?_)
    refine ⟨_, _, t1, t2, rfl, Rep.same g _ _ hr1, Rep.same g _ _ hr2, f1.few, f2.few, fik_wt f1, fik_wt f2, fun H2 g2 p2 hp2 => ?_⟩
    have g3 := g.trans (g2.trans (same_new hp2 (.lst [V.int 1, V.int (-1)])))
    cases fl with
    | false =>
      refine rIxL_i (SqL.of upd_same) (v := V.int 1) rfl ⟨rfl, iN ?_ ⟨⟨_, rfl⟩, g3⟩⟩
      intro c
      exact z (by injection c)
    | true =>
      refine rIxL_i (SqL.of upd_same) (v := V.int (-1)) rfl ⟨rfl, iN ?_ ⟨⟨_, rfl⟩, g3⟩⟩
      intro c
      exact z (by injection c)
  · rintro σ H' ⟨⟨o3, rfl⟩, g⟩
    walk_at "rd2"
    have hb' := g _ _ hb
    refine ⟨⟨_, SqL.of hb'⟩, comp_list (K := K) (xs := ys) (fun i zs H2 => Same H H2 ∧ zs = []) (by rw [sizeLine_eq]; omega) ⟨g, rfl⟩ (fun i zs H2 _ h => SqL.of (h.1 _ _ hb)) ?_ ?_⟩
    · rintro i x zs H2 hx' _ ⟨g2, rfl⟩
      obtain ⟨t, ht, hr'⟩ := hy.get hx'
      have ft := hf t (List.mem_of_getElem? ht)
      walk_at "rd2"
      refine ⟨x, t, b, ys, us, rfl, Rep.same g2 _ _ hr', ft, g2 _ _ hb, Reps.same g2 _ _ hy, hl, hf, fun H3 g3 => ?_⟩
      have G3 := g2.trans g3
      refine ⟨x, t, a, xs, ws, rfl, Rep.same G3 _ _ hr', ft, G3 _ _ ha, Reps.same G3 _ _ hx, by omega, fun u hu => hf u (hpm.mem_iff.mp hu), fun H4 g4 => ⟨rfl, ?_⟩⟩
      have e : (ws.filter (alike t)).length = (us.filter (alike t)).length := (hpm.filter (alike t)).length_eq
      rw [e]
      exact ⟨false, by simp, iN (by decide) (G3.trans g4)⟩
    · rintro zs H2 _ ⟨g2, rfl⟩ p1 hp1 p2 hp2
      refine ⟨p1, p2, [], rfl, rfl, SqL.of (same_new hp2 _ _ _ upd_same), SqL.of upd_same, ?_⟩
      exact q _ (g2.trans ((same_new hp1 _).trans (same_new hp2 _)))
abbrev sLaw : Stmt := top 41
theorem perm_row {ws us : List T} (hp : ws.Perm us) (hl : us.length ≤ 14) (h : ∀ u ∈ us, Fik 8 200 u) : Fik 9 2801 (.lst ws) := row_few (by have := hp.length_eq; omega) fun u hu => h u (hp.mem_iff.mp hu)
theorem new_off {A B : Hp} {b : Addr} {o : HO} (e : A b = some o) : newH A B b = none := by unfold newH; rw [e]
theorem new_none {A B : Hp} {b : Addr} (e : B b = none) : newH A B b = none := none_back (newH_sub A B) e
def spLaw (K : PySem.W.Frag) : Sp := fun vs H Q _ => ∃ (a : Addr) (ns : List Int), vs = [.ref a] ∧ SqL K H a (ns.map V.int) ∧ ns.length ≤ 63 ∧ ∀ H', Q (.bl true) H'
theorem scLaw : FnScope ["_law_script", "_law_things", "_law_kept", "_law_told", "_law_k", "_law_result"] ["_law_script"] (defScope sLaw) := ⟨rfl, rfl, rfl, by decide +kernel, rfl, by decide +kernel, by decide +kernel⟩
theorem ok_law (F : Fun K "law" "law" sLaw f fd) (B : Bl2 mg) (G_law_things_by : Dn P w K mg base (11 + 10 + 1) "_law_things_by" ["_law_script"] (spThs K)) (G_law_held : Dn P w K mg base (1 + 10) "_law_held" ["_law_thing"] (spCp 10))
    (Gin_order : Dn P w K mg base (13 + 1) "in_order" ["things", "falling"] spIn) (Gin_orderd : Dd P w K mg base (13 + 1) "in_order" ["things", "falling"] [.bl false] spIn) (G_law_right : Dn P w K mg base (2 + 2 * 18 + 1 + 1 + 1) "_law_right" ["_law_result", "_law_things", "_law_falling"] spRgt)
    (G_law_marked : Dn P w K mg base (1 + 10) "_law_marked" ["_law_thing"] (spMk 10)) : FnOk P w K mg base CX0 (2 + 2 * 18 + 1 + 1 + 1 + 1) f fd ["_law_script"] (spLaw K) := by
  refine F.ok scLaw (fun vs H Q E h => ?_) (fun cdv A outer s H vs Q E hr h => ?_)
  · obtain ⟨a, ns, rfl, _⟩ := h
    rfl
  obtain ⟨a, ns, rfl, hS, h63, q⟩ := h
  have nd := scLaw.nd
  have hu64 := hr.units
  refine ⟨_, (pss_cons (ps_set (i := 1) nd rfl (Or.inl rfl) (pe_cd G_law_things_by hr (by omega) rfl (pa_cons (pv 0) pa_nil)))
    (pss_cons (ps_set (i := 2) nd rfl (Or.inl rfl) (pe_cd G_law_held hr (by omega) rfl (pa_cons (pv 1) pa_nil)))
    (pss_cons (ps_set (i := 3) nd rfl (Or.inl rfl) (pe_lst (pa_cons (pe_cdd Gin_orderd hr (by omega) rfl (pa_cons (pv 1) pa_nil)) (pa_cons (pe_cd Gin_order hr (by omega) rfl (pa_cons (pv 1) (pa_cons pe_bl pa_nil))) (pa_cons (pe_cd Gin_order hr (by omega) rfl (pa_cons (pv 1) (pa_cons pe_bl pa_nil))) pa_nil)))))
    (pss_cons (ps_for PassesOwn.never rfl (pi_range1 rfl B.range (pa_cons pe_int pa_nil)) (pg_name (i := 4) nd rfl (Or.inl rfl)) (pss_one (ps_if (PW.pt (pw_or (pt_not (pt_val (pe_cd G_law_right hr (by omega) rfl (pa_cons (pe_ix ix_list (pv 3) (pv 4) (fun _ _ => rfl)) (pa_cons (pv 2) (pa_cons (pe_cmpR op_eq (pv 4) pe_int (nomark _)) pa_nil)))))) (pw_or1 (pt_cmpR (op_ne_T hu64) (pv 1) (pv 2) (nomark _))))) (pss_one (ps_ret pe_bl)) pss_nil)))
    (pss_cons (ps_for PassesOwn.never rfl (pi_list (pv 3)) (pg_name (i := 5) nd rfl (Or.inl rfl)) (pss_one (ps_expr (pe_cd G_law_marked hr (by omega) rfl (pa_cons (pv 5) pa_nil)))))
    (pss_cons (ps_if (PW.pt (pw_or (pt_cmpR (op_ne_T hu64) (pv 1) (pv 2) (nomark _)) (pw_or1 (pt_not (pt_val (pe_cd G_law_right hr (by omega) rfl (pa_cons (pe_cdd Gin_orderd hr (by omega) rfl (pa_cons (pv 1) pa_nil)) (pa_cons (pv 2) (pa_cons pe_bl pa_nil))))))))) (pss_one (ps_ret pe_bl)) pss_nil)
    (pss_cons (ps_set (i := 5) nd rfl (Or.inl rfl) (pe_cdd Gin_orderd hr (by omega) rfl (pa_cons (pv 1) pa_nil)))
    (pss_cons (ps_expr (pe_cd G_law_marked hr (by omega) rfl (pa_cons (pv 1) pa_nil)))
    (pss_one (ps_ret (pe_cd G_law_right hr (by omega) rfl (pa_cons (pv 5) (pa_cons (pv 2) (pa_cons pe_bl pa_nil)))))))))))))), ?_⟩
  rw [show start ["_law_script", "_law_things", "_law_kept", "_law_told", "_law_k", "_law_result"] [.ref a] = [some (.ref a), none, none, none, none, none] from rfl]
  walk_at "rd2"
  refine ⟨a, ns, rfl, hS, h63, fun l xs us H1 g1 hl hR h14 hF => ?_⟩
  have fr := row_few h14 hF
  refine ⟨.ref l, .lst us, rfl, ⟨l, xs, rfl, hl, hR⟩, fr.pure, Nat.lt_succ_of_le fr.dep, Nat.le_trans fr.sz (by decide), fun kv H2 D g2 hk hD => ?_⟩
  obtain ⟨kl, ks, rfl, hkl, hkR⟩ := hk.new hD
  refine ⟨l, xs, us, false, rfl, g2 _ _ hl, Reps.same g2 _ _ hR, h14, hF, fun l1 w1 H3 g3 hN1 hp1 hs1 => ?_⟩
  refine ⟨l, xs, us, false, rfl, (g2.trans g3) _ _ hl, Reps.same (g2.trans g3) _ _ hR, h14, hF, fun l2 w2 H4 g4 hN2 hp2 hs2 => ?_⟩
  refine ⟨l, xs, us, true, rfl, (g2.trans (g3.trans g4)) _ _ hl, Reps.same (g2.trans (g3.trans g4)) _ _ hR, h14, hF, fun l3 w3 H5 g5 hN3 hp3 hs3 => fun pT hpT => ?_⟩
  have g6 := same_new hpT (.lst [V.ref l1, V.ref l2, V.ref l3])
  have hT6 : upd H5 pT (.lst [V.ref l1, V.ref l2, V.ref l3]) pT = some (.lst [V.ref l1, V.ref l2, V.ref l3]) := upd_same
  generalize upd H5 pT (.lst [V.ref l1, V.ref l2, V.ref l3]) = H6 at g6 hT6 ⊢
  have n1 : Same (newH H2 H3) H6 := (newH_sub _ _).trans (g4.trans (g5.trans g6))
  have n2 : Same (newH H3 H4) H6 := (newH_sub _ _).trans (g5.trans g6)
  have n3 : Same (newH H4 H5) H6 := (newH_sub _ _).trans g6
  have gK : Same (newH H1 H2) H2 := newH_sub _ _
  have g26 : Same H2 H6 := g3.trans (g4.trans (g5.trans g6))
  have f1 := perm_row hp1 h14 hF
  have f2 := perm_row hp2 h14 hF
  have f3 := perm_row hp3 h14 hF
  have hdp := fr.dep
  have hdq : T.deps us + 1 ≤ 9 := hdp
  have pu : T.pures us := fr.pure
  have neq : ∀ (HX : Hp) (Q' : VK), Same H2 HX → Q' (.bl false) HX → rNeT (.ref l) (.ref kl) HX Q' := fun HX Q' gX q' =>
    ⟨us, ⟨l, xs, rfl, (g2.trans gX) _ _ hl, Reps.same (g2.trans gX) _ _ hR⟩, ⟨kl, ks, rfl, (gK.trans gX) _ _ hkl, Reps.same (gK.trans gX) _ _ hkR⟩, pu, by omega, q'⟩
  refine forB_rng (fun i σ HX => (∃ o4, σ = [some (V.ref a), some (V.ref l), some (V.ref kl), some (V.ref pT), o4, none]) ∧ Same H6 HX) ⟨⟨_, rfl⟩, Same.refl _⟩ ?_ ?_
  · rintro i σ HX hi ⟨⟨o4, rfl⟩, gX⟩
    obtain ⟨lk, wk, hat, hRk, hpk, hsk⟩ : ∃ lk wk, atI [V.ref l1, V.ref l2, V.ref l3] (0 + (i : Int)) = some (V.ref lk) ∧ Rep H6 (.ref lk) (.lst wk) ∧ wk.Perm us ∧ Srt (decide (0 + (i : Int) = 2)) wk := by
      rcases (by omega : i = 0 ∨ i = 1 ∨ i = 2) with rfl | rfl | rfl
      · exact ⟨l1, w1, rfl, Rep.same n1 _ _ hN1, hp1, hs1⟩
      · exact ⟨l2, w2, rfl, Rep.same n2 _ _ hN2, hp2, hs2⟩
      · exact ⟨l3, w3, rfl, Rep.same n3 _ _ hN3, hp3, hs3⟩
    obtain ⟨_, xk, e, hlk, hxk⟩ := hRk
    injection e with e
    subst e
    walk_at "rd2"
    have gk := gK.trans (g26.trans gX)
    refine rIxL_i (SqL.of (gX _ _ hT6)) hat ⟨lk, kl, xk, ks, wk, us, _, rfl, gX _ _ hlk, gk _ _ hkl, Reps.same gX _ _ hxk, Reps.same gk _ _ hkR, hpk, hsk, h14, hF, fun HY gY => ?_⟩
    refine ⟨true, rfl, iN (by decide) (neq HY _ (g26.trans (gX.trans gY)) ⟨false, rfl, iN (by decide) ⟨⟨_, rfl⟩, gX.trans gY⟩⟩)⟩
  rintro σ H7 ⟨⟨o4, rfl⟩, g7⟩
  walk_at "rd2"
  refine ⟨⟨_, SqL.of (g7 _ _ hT6)⟩, ?_⟩
  refine forB_list (K := K) (a := pT) (xs := [V.ref l1, V.ref l2, V.ref l3]) (fun i σ HX => (∃ o5, σ = [some (V.ref a), some (V.ref l), some (V.ref kl), some (V.ref pT), o4, o5]) ∧ Same H2 HX ∧ HX pT = some (.lst [V.ref l1, V.ref l2, V.ref l3]) ∧ (i ≤ 0 → Same (newH H2 H3) HX) ∧ (i ≤ 1 → Same (newH H3 H4) HX) ∧ (i ≤ 2 → Same (newH H4 H5) HX))
    ⟨⟨_, rfl⟩, g26.trans g7, g7 _ _ hT6, fun _ => n1.trans g7, fun _ => n2.trans g7, fun _ => n3.trans g7⟩ (fun i σ HX _ h => SqL.of h.2.2.1) ?_ ?_
  · rintro i x σ HX hx ⟨⟨o5, rfl⟩, gX, hT, k1, k2, k3⟩
    have hi : i < 3 := (List.getElem?_eq_some_iff.mp hx).1
    walk_at "rd2"
    have hpT4 : H4 pT = none := none_back g5 hpT
    have hpT3 : H3 pT = none := none_back g4 hpT4
    rcases (by omega : i = 0 ∨ i = 1 ∨ i = 2) with rfl | rfl | rfl
    · cases hx
      have c := T.cn_sz (.lst w1)
      have z := f1.sz
      refine ⟨.ref l1, .lst w1, newH H2 H3, 0, rfl, hN1, Md.of (k1 (Nat.le_refl _)), f1.few, Nat.lt_succ_of_le f1.dep, by omega, fun HY _ mp => ⟨⟨_, rfl⟩, mp.out gX fun b o e => new_off e, mp.keep _ _ (new_none hpT3) hT, fun c => absurd c (by decide), fun _ => mp.out (k2 (by decide)) fun b o e => new_none (newH_old e), fun _ => mp.out (k3 (by decide)) fun b o e => new_none (none_back g4 (newH_old e))⟩⟩
    · cases hx
      have c := T.cn_sz (.lst w2)
      have z := f2.sz
      refine ⟨.ref l2, .lst w2, newH H3 H4, 0, rfl, hN2, Md.of (k2 (Nat.le_refl _)), f2.few, Nat.lt_succ_of_le f2.dep, by omega, fun HY _ mp => ⟨⟨_, rfl⟩, mp.out gX fun b o e => new_off (g3 _ _ e), mp.keep _ _ (new_none hpT4) hT, fun c => absurd c (by decide), fun c => absurd c (by decide), fun _ => mp.out (k3 (by decide)) fun b o e => new_none (newH_old e)⟩⟩
    · cases hx
      have c := T.cn_sz (.lst w3)
      have z := f3.sz
      refine ⟨.ref l3, .lst w3, newH H4 H5, 0, rfl, hN3, Md.of (k3 (Nat.le_refl _)), f3.few, Nat.lt_succ_of_le f3.dep, by omega, fun HY _ mp => ⟨⟨_, rfl⟩, mp.out gX fun b o e => new_off (g4 _ _ (g3 _ _ e)), mp.keep _ _ (new_none hpT) hT, fun c => absurd c (by decide), fun c => absurd c (by decide), fun c => absurd c (by decide)⟩⟩
  rintro σ H8 ⟨⟨o5, rfl⟩, g8, _⟩
  walk_at "rd2"
  refine neq H8 _ g8 ⟨false, rfl, iN (by decide) ?_⟩
  refine ⟨l, xs, us, false, rfl, (g2.trans g8) _ _ hl, Reps.same (g2.trans g8) _ _ hR, h14, hF, fun l5 w5 H9 g9 hN5 hp5 hs5 => ?_⟩
  obtain ⟨_, x5, e, hl5, hx5⟩ := Rep.same (newH_sub _ _) _ _ hN5
  injection e with e
  subst e
  have gk := gK.trans (g8.trans g9)
  refine ⟨l5, kl, x5, ks, w5, us, false, rfl, hl5, gk _ _ hkl, hx5, Reps.same gk _ _ hkR, hp5, hs5, h14, hF, fun HA gA => ⟨true, rfl, iN (by decide) ?_⟩⟩
  have gA2 := g8.trans (g9.trans gA)
  refine ⟨l, xs, us, false, rfl, (g2.trans gA2) _ _ hl, Reps.same (g2.trans gA2) _ _ hR, h14, hF, fun l6 w6 HB gB hN6 hp6 hs6 => ?_⟩
  have c := T.cn_sz (.lst us)
  have z := fr.sz
  refine ⟨.ref l, .lst us, H1, 0, rfl, ⟨l, xs, rfl, hl, hR⟩, Md.of (g2.trans (gA2.trans gB)), fr.few, Nat.lt_succ_of_le fr.dep, by omega, fun HC _ mp => ?_⟩
  have sK : Same (newH H1 H2) HC := mp.out (gK.trans (gA2.trans gB)) fun b o e => newH_old e
  have s6 : Same (newH HA HB) HC := mp.out (newH_sub _ _) fun b o e => none_back (g2.trans gA2) (newH_old e)
  obtain ⟨_, x6, e, hl6, hx6⟩ := Rep.same s6 _ _ hN6
  injection e with e
  subst e
  exact ⟨l6, kl, x6, ks, w6, us, false, rfl, hl6, sK _ _ hkl, hx6, Reps.same sK _ _ hkR, hp6, hs6, h14, hF, fun HD gD => q _⟩
end
end K16
namespace K16
open PySem L2 PySem.W
section
variable {K : Frag} {dT : Addr} {kV doc pm cdv ct : Value} {an : Option Addr}
theorem biIn {o : Obj} {i0 : Value} {n : Nat} (hd : K.lookup dT = some o) (hs : o.data = .seq #[i0] n) : Binds K (fnOf "in_order" "in_order" (defArgs sIn) (defBody sIn) (defScope sIn) (.ref dT) kV doc pm an cdv ct) ["things", "falling"] [] ∧ Binds K (fnOf "in_order" "in_order" (defArgs sIn) (defBody sIn) (defScope sIn) (.ref dT) kV doc pm an cdv ct) ["things", "falling"] [i0] := by
  refine ⟨fun s us hK hl => ?_, fun s us hK hl => ?_⟩
  · rw [List.append_nil] at hl ⊢
    match us, (show us.length = 2 from hl) with
    | [a, b], _ => exact binds_K hK rfl hd hs rfl rfl
  · match us, (show us.length = 1 by simpa using hl) with
    | [a], _ => exact binds_K hK rfl hd hs rfl rfl
end
end K16
namespace K16
open PySem L2
theorem all_mk {l : PySem.W.OpenLaw} {w : World} {K : PySem.W.Frag} {h : Heap} {mg : Str → Option Value} {fa f0 f1 f2 f3 f4 f5 f6 f7 f8 f9 f10 f11 f12 f13 f14 f15 f16 f17 f18 f19 f20 f21 f22 f23 f24 f25 f26 f27 f28 ka0 : Addr} (X : K.In h) (G : h.Ns mainGlobals mg) (hfa : mg "law" = some (.ref fa))
    {od0 an0 : Option Addr} {sl0 : Array (Option Value)} {oc0 kV0 dc0 pm0 cd0 ct0 : Value}
    {od1 an1 : Option Addr} {sl1 : Array (Option Value)} {oc1 kV1 dc1 pm1 cd1 ct1 : Value}
    {od2 an2 : Option Addr} {sl2 : Array (Option Value)} {oc2 kV2 dc2 pm2 cd2 ct2 : Value}
    {od3 an3 : Option Addr} {sl3 : Array (Option Value)} {oc3 kV3 dc3 pm3 cd3 ct3 : Value}
    {od4 an4 : Option Addr} {sl4 : Array (Option Value)} {oc4 kV4 dc4 pm4 cd4 ct4 : Value}
    {od5 an5 : Option Addr} {sl5 : Array (Option Value)} {oc5 kV5 dc5 pm5 cd5 ct5 : Value}
    {od6 an6 : Option Addr} {sl6 : Array (Option Value)} {oc6 kV6 dc6 pm6 cd6 ct6 : Value}
    {od7 an7 : Option Addr} {sl7 : Array (Option Value)} {oc7 kV7 dc7 pm7 cd7 ct7 : Value}
    {od8 an8 : Option Addr} {sl8 : Array (Option Value)} {oc8 kV8 dc8 pm8 cd8 ct8 : Value}
    {od9 an9 : Option Addr} {sl9 : Array (Option Value)} {oc9 kV9 dc9 pm9 cd9 ct9 : Value}
    {od10 an10 : Option Addr} {sl10 : Array (Option Value)} {oc10 kV10 dc10 pm10 cd10 ct10 : Value}
    {od11 an11 : Option Addr} {sl11 : Array (Option Value)} {oc11 kV11 dc11 pm11 cd11 ct11 : Value}
    {od12 an12 : Option Addr} {sl12 : Array (Option Value)} {oc12 kV12 dc12 pm12 cd12 ct12 : Value}
    {od13 an13 : Option Addr} {sl13 : Array (Option Value)} {oc13 kV13 dc13 pm13 cd13 ct13 : Value}
    {od14 an14 : Option Addr} {sl14 : Array (Option Value)} {oc14 kV14 dc14 pm14 cd14 ct14 : Value}
    {od15 an15 : Option Addr} {sl15 : Array (Option Value)} {oc15 kV15 dc15 pm15 cd15 ct15 : Value}
    {od16 an16 : Option Addr} {sl16 : Array (Option Value)} {oc16 kV16 dc16 pm16 cd16 ct16 : Value}
    {od17 an17 : Option Addr} {sl17 : Array (Option Value)} {oc17 kV17 dc17 pm17 cd17 ct17 : Value}
    {od18 an18 : Option Addr} {sl18 : Array (Option Value)} {oc18 kV18 dc18 pm18 cd18 ct18 : Value}
    {od19 an19 : Option Addr} {sl19 : Array (Option Value)} {oc19 kV19 dc19 pm19 cd19 ct19 : Value}
    {od20 an20 : Option Addr} {sl20 : Array (Option Value)} {oc20 kV20 dc20 pm20 cd20 ct20 : Value}
    {od21 an21 : Option Addr} {sl21 : Array (Option Value)} {oc21 kV21 dc21 pm21 cd21 ct21 : Value}
    {od22 an22 : Option Addr} {sl22 : Array (Option Value)} {oc22 kV22 dc22 pm22 cd22 ct22 : Value}
    {od23 an23 : Option Addr} {sl23 : Array (Option Value)} {oc23 kV23 dc23 pm23 cd23 ct23 : Value}
    {od24 an24 : Option Addr} {sl24 : Array (Option Value)} {oc24 kV24 dc24 pm24 cd24 ct24 : Value}
    {od25 an25 : Option Addr} {sl25 : Array (Option Value)} {oc25 kV25 dc25 pm25 cd25 ct25 : Value}
    {od26 an26 : Option Addr} {sl26 : Array (Option Value)} {oc26 kV26 dc26 pm26 cd26 ct26 : Value}
    {od27 an27 : Option Addr} {sl27 : Array (Option Value)} {oc27 kV27 dc27 pm27 cd27 ct27 : Value}
    {od28 an28 : Option Addr} {sl28 : Array (Option Value)} {oc28 kV28 dc28 pm28 cd28 ct28 : Value}
    {u0 : Tok}
    {u1 : Tok}
    {v0 : Tok}
    {v1 : Tok}
    {v2 : Tok}
    {v3 : Tok}
    {v4 : Tok}
    {v5 : Tok}
    {w0_0 w0_1 w0_2 w0_3 w0_4 w0_5 : Tok} {wn0 : Nat} {ws0 : Array (Option Value)}
    {xF xD : Addr} {xoc xkV xdc xpm xcd xct xtc : Value} {xod xan xto : Option Addr} {xsl xts : Array (Option Value)} {xtn : Nat}
    (a0 : PySem.W.nsIn K mainGlobals "kind_of" = some (some (.ref f0)))
    (l0 : K.lookup f0 = some ⟨oc0, od0, .func (PySem.W.fnOf "kind_of" "kind_of" (defArgs sKindOf) (defBody sKindOf) (defScope sKindOf) .none kV0 dc0 pm0 an0 cd0 ct0), sl0⟩)
    (c0 : PySem.W.codeIn K cd0 "kind_of" = true)
    (k0 : PySem.W.keepIn K (.ref f0) = true)
    (a1 : PySem.W.nsIn K mainGlobals "is_name" = some (some (.ref f1)))
    (l1 : K.lookup f1 = some ⟨oc1, od1, .func (PySem.W.fnOf "is_name" "is_name" (defArgs sIsName) (defBody sIsName) (defScope sIsName) .none kV1 dc1 pm1 an1 cd1 ct1), sl1⟩)
    (c1 : PySem.W.codeIn K cd1 "is_name" = true)
    (k1 : PySem.W.keepIn K (.ref f1) = true)
    (a2 : PySem.W.nsIn K mainGlobals "is_text_sign" = some (some (.ref f2)))
    (l2 : K.lookup f2 = some ⟨oc2, od2, .func (PySem.W.fnOf "is_text_sign" "is_text_sign" (defArgs sSgn) (defBody sSgn) (defScope sSgn) .none kV2 dc2 pm2 an2 cd2 ct2), sl2⟩)
    (c2 : PySem.W.codeIn K cd2 "is_text_sign" = true)
    (k2 : PySem.W.keepIn K (.ref f2) = true)
    (a3 : PySem.W.nsIn K mainGlobals "is_thing" = some (some (.ref f3)))
    (l3 : K.lookup f3 = some ⟨oc3, od3, .func (PySem.W.fnOf "is_thing" "is_thing" (defArgs sTh) (defBody sTh) (defScope sTh) .none kV3 dc3 pm3 an3 cd3 ct3), sl3⟩)
    (c3 : PySem.W.codeIn K cd3 "is_thing" = true)
    (k3 : PySem.W.keepIn K (.ref f3) = true)
    (a4 : PySem.W.nsIn K mainGlobals "is_sound_outside" = some (some (.ref f4)))
    (l4 : K.lookup f4 = some ⟨oc4, od4, .func (PySem.W.fnOf "is_sound_outside" "is_sound_outside" (defArgs sSnd) (defBody sSnd) (defScope sSnd) .none kV4 dc4 pm4 an4 cd4 ct4), sl4⟩)
    (c4 : PySem.W.codeIn K cd4 "is_sound_outside" = true)
    (k4 : PySem.W.keepIn K (.ref f4) = true)
    (a5 : PySem.W.nsIn K mainGlobals "holds_parts" = some (some (.ref f5)))
    (l5 : K.lookup f5 = some ⟨oc5, od5, .func (PySem.W.fnOf "holds_parts" "holds_parts" (defArgs sHp) (defBody sHp) (defScope sHp) .none kV5 dc5 pm5 an5 cd5 ct5), sl5⟩)
    (c5 : PySem.W.codeIn K cd5 "holds_parts" = true)
    (k5 : PySem.W.keepIn K (.ref f5) = true)
    (a6 : PySem.W.nsIn K mainGlobals "parts_of" = some (some (.ref f6)))
    (l6 : K.lookup f6 = some ⟨oc6, od6, .func (PySem.W.fnOf "parts_of" "parts_of" (defArgs sPo) (defBody sPo) (defScope sPo) .none kV6 dc6 pm6 an6 cd6 ct6), sl6⟩)
    (c6 : PySem.W.codeIn K cd6 "parts_of" = true)
    (k6 : PySem.W.keepIn K (.ref f6) = true)
    (a7 : PySem.W.nsIn K mainGlobals "parts_of_all" = some (some (.ref f7)))
    (l7 : K.lookup f7 = some ⟨oc7, od7, .func (PySem.W.fnOf "parts_of_all" "parts_of_all" (defArgs sPa) (defBody sPa) (defScope sPa) .none kV7 dc7 pm7 an7 cd7 ct7), sl7⟩)
    (c7 : PySem.W.codeIn K cd7 "parts_of_all" = true)
    (k7 : PySem.W.keepIn K (.ref f7) = true)
    (a8 : PySem.W.nsIn K mainGlobals "copied" = some (some (.ref f8)))
    (l8 : K.lookup f8 = some ⟨oc8, od8, .func (PySem.W.fnOf "copied" "copied" (defArgs sCp) (defBody sCp) (defScope sCp) .none kV8 dc8 pm8 an8 cd8 ct8), sl8⟩)
    (c8 : PySem.W.codeIn K cd8 "copied" = true)
    (k8 : PySem.W.keepIn K (.ref f8) = true)
    (a9 : PySem.W.nsIn K mainGlobals "rank" = some (some (.ref f9)))
    (l9 : K.lookup f9 = some ⟨oc9, od9, .func (PySem.W.fnOf "rank" "rank" (defArgs sRank) (defBody sRank) (defScope sRank) .none kV9 dc9 pm9 an9 cd9 ct9), sl9⟩)
    (c9 : PySem.W.codeIn K cd9 "rank" = true)
    (k9 : PySem.W.keepIn K (.ref f9) = true)
    (a10 : PySem.W.nsIn K mainGlobals "_law_cell" = some (some (.ref f10)))
    (l10 : K.lookup f10 = some ⟨oc10, od10, .func (PySem.W.fnOf "_law_cell" "_law_cell" (defArgs sCell) (defBody sCell) (defScope sCell) .none kV10 dc10 pm10 an10 cd10 ct10), sl10⟩)
    (c10 : PySem.W.codeIn K cd10 "_law_cell" = true)
    (k10 : PySem.W.keepIn K (.ref f10) = true)
    (a11 : PySem.W.nsIn K mainGlobals "_law_name_by" = some (some (.ref f11)))
    (l11 : K.lookup f11 = some ⟨oc11, od11, .func (PySem.W.fnOf "_law_name_by" "_law_name_by" (defArgs sName) (defBody sName) (defScope sName) .none kV11 dc11 pm11 an11 cd11 ct11), sl11⟩)
    (c11 : PySem.W.codeIn K cd11 "_law_name_by" = true)
    (k11 : PySem.W.keepIn K (.ref f11) = true)
    (a12 : PySem.W.nsIn K mainGlobals "_law_signs" = some (some (.ref f12)))
    (l12 : K.lookup f12 = some ⟨oc12, od12, .func (PySem.W.fnOf "_law_signs" "_law_signs" (defArgs sSigns) (defBody sSigns) (defScope sSigns) .none kV12 dc12 pm12 an12 cd12 ct12), sl12⟩)
    (c12 : PySem.W.codeIn K cd12 "_law_signs" = true)
    (k12 : PySem.W.keepIn K (.ref f12) = true)
    (a13 : PySem.W.nsIn K mainGlobals "_law_text_by" = some (some (.ref f13)))
    (l13 : K.lookup f13 = some ⟨oc13, od13, .func (PySem.W.fnOf "_law_text_by" "_law_text_by" (defArgs sText) (defBody sText) (defScope sText) .none kV13 dc13 pm13 an13 cd13 ct13), sl13⟩)
    (c13 : PySem.W.codeIn K cd13 "_law_text_by" = true)
    (k13 : PySem.W.keepIn K (.ref f13) = true)
    (a14 : PySem.W.nsIn K mainGlobals "_law_number_by" = some (some (.ref f14)))
    (l14 : K.lookup f14 = some ⟨oc14, od14, .func (PySem.W.fnOf "_law_number_by" "_law_number_by" (defArgs sNum) (defBody sNum) (defScope sNum) .none kV14 dc14 pm14 an14 cd14 ct14), sl14⟩)
    (c14 : PySem.W.codeIn K cd14 "_law_number_by" = true)
    (k14 : PySem.W.keepIn K (.ref f14) = true)
    (a15 : PySem.W.nsIn K mainGlobals "_law_thing_by" = some (some (.ref f15)))
    (l15 : K.lookup f15 = some ⟨oc15, od15, .func (PySem.W.fnOf "_law_thing_by" "_law_thing_by" (defArgs sThing) (defBody sThing) (defScope sThing) .none kV15 dc15 pm15 an15 cd15 ct15), sl15⟩)
    (c15 : PySem.W.codeIn K cd15 "_law_thing_by" = true)
    (k15 : PySem.W.keepIn K (.ref f15) = true)
    (a16 : PySem.W.nsIn K mainGlobals "_law_wide_by" = some (some (.ref f16)))
    (l16 : K.lookup f16 = some ⟨oc16, od16, .func (PySem.W.fnOf "_law_wide_by" "_law_wide_by" (defArgs sWide) (defBody sWide) (defScope sWide) .none kV16 dc16 pm16 an16 cd16 ct16), sl16⟩)
    (c16 : PySem.W.codeIn K cd16 "_law_wide_by" = true)
    (k16 : PySem.W.keepIn K (.ref f16) = true)
    (a17 : PySem.W.nsIn K mainGlobals "_law_kind" = some (some (.ref f17)))
    (l17 : K.lookup f17 = some ⟨oc17, od17, .func (PySem.W.fnOf "_law_kind" "_law_kind" (defArgs sKind) (defBody sKind) (defScope sKind) .none kV17 dc17 pm17 an17 cd17 ct17), sl17⟩)
    (c17 : PySem.W.codeIn K cd17 "_law_kind" = true)
    (k17 : PySem.W.keepIn K (.ref f17) = true)
    (a18 : PySem.W.nsIn K mainGlobals "_law_held" = some (some (.ref f18)))
    (l18 : K.lookup f18 = some ⟨oc18, od18, .func (PySem.W.fnOf "_law_held" "_law_held" (defArgs sHeld) (defBody sHeld) (defScope sHeld) .none kV18 dc18 pm18 an18 cd18 ct18), sl18⟩)
    (c18 : PySem.W.codeIn K cd18 "_law_held" = true)
    (k18 : PySem.W.keepIn K (.ref f18) = true)
    (a19 : PySem.W.nsIn K mainGlobals "_law_marked" = some (some (.ref f19)))
    (l19 : K.lookup f19 = some ⟨oc19, od19, .func (PySem.W.fnOf "_law_marked" "_law_marked" (defArgs sMk) (defBody sMk) (defScope sMk) .none kV19 dc19 pm19 an19 cd19 ct19), sl19⟩)
    (c19 : PySem.W.codeIn K cd19 "_law_marked" = true)
    (k19 : PySem.W.keepIn K (.ref f19) = true)
    (a20 : PySem.W.nsIn K mainGlobals "_law_same" = some (some (.ref f20)))
    (l20 : K.lookup f20 = some ⟨oc20, od20, .func (PySem.W.fnOf "_law_same" "_law_same" (defArgs sSame) (defBody sSame) (defScope sSame) .none kV20 dc20 pm20 an20 cd20 ct20), sl20⟩)
    (c20 : PySem.W.codeIn K cd20 "_law_same" = true)
    (k20 : PySem.W.keepIn K (.ref f20) = true)
    (a21 : PySem.W.nsIn K mainGlobals "_law_rows_compare" = some (some (.ref f21)))
    (l21 : K.lookup f21 = some ⟨oc21, od21, .func (PySem.W.fnOf "_law_rows_compare" "_law_rows_compare" (defArgs sRows) (defBody sRows) (defScope sRows) .none kV21 dc21 pm21 an21 cd21 ct21), sl21⟩)
    (c21 : PySem.W.codeIn K cd21 "_law_rows_compare" = true)
    (k21 : PySem.W.keepIn K (.ref f21) = true)
    (a22 : PySem.W.nsIn K mainGlobals "_law_compare" = some (some (.ref f22)))
    (l22 : K.lookup f22 = some ⟨oc22, od22, .func (PySem.W.fnOf "_law_compare" "_law_compare" (defArgs sCmp) (defBody sCmp) (defScope sCmp) .none kV22 dc22 pm22 an22 cd22 ct22), sl22⟩)
    (c22 : PySem.W.codeIn K cd22 "_law_compare" = true)
    (k22 : PySem.W.keepIn K (.ref f22) = true)
    (a23 : PySem.W.nsIn K mainGlobals "_law_leaf_other" = some (some (.ref f23)))
    (l23 : K.lookup f23 = some ⟨oc23, od23, .func (PySem.W.fnOf "_law_leaf_other" "_law_leaf_other" (defArgs sLeaf) (defBody sLeaf) (defScope sLeaf) .none kV23 dc23 pm23 an23 cd23 ct23), sl23⟩)
    (c23 : PySem.W.codeIn K cd23 "_law_leaf_other" = true)
    (k23 : PySem.W.keepIn K (.ref f23) = true)
    (a24 : PySem.W.nsIn K mainGlobals "_law_varied" = some (some (.ref f24)))
    (l24 : K.lookup f24 = some ⟨oc24, od24, .func (PySem.W.fnOf "_law_varied" "_law_varied" (defArgs sVar) (defBody sVar) (defScope sVar) .none kV24 dc24 pm24 an24 cd24 ct24), sl24⟩)
    (c24 : PySem.W.codeIn K cd24 "_law_varied" = true)
    (k24 : PySem.W.keepIn K (.ref f24) = true)
    (a25 : PySem.W.nsIn K mainGlobals "_law_things_by" = some (some (.ref f25)))
    (l25 : K.lookup f25 = some ⟨oc25, od25, .func (PySem.W.fnOf "_law_things_by" "_law_things_by" (defArgs sThs) (defBody sThs) (defScope sThs) .none kV25 dc25 pm25 an25 cd25 ct25), sl25⟩)
    (c25 : PySem.W.codeIn K cd25 "_law_things_by" = true)
    (k25 : PySem.W.keepIn K (.ref f25) = true)
    (a26 : PySem.W.nsIn K mainGlobals "_law_often" = some (some (.ref f26)))
    (l26 : K.lookup f26 = some ⟨oc26, od26, .func (PySem.W.fnOf "_law_often" "_law_often" (defArgs sOft) (defBody sOft) (defScope sOft) .none kV26 dc26 pm26 an26 cd26 ct26), sl26⟩)
    (c26 : PySem.W.codeIn K cd26 "_law_often" = true)
    (k26 : PySem.W.keepIn K (.ref f26) = true)
    (a27 : PySem.W.nsIn K mainGlobals "_law_right" = some (some (.ref f27)))
    (l27 : K.lookup f27 = some ⟨oc27, od27, .func (PySem.W.fnOf "_law_right" "_law_right" (defArgs sRgt) (defBody sRgt) (defScope sRgt) .none kV27 dc27 pm27 an27 cd27 ct27), sl27⟩)
    (c27 : PySem.W.codeIn K cd27 "_law_right" = true)
    (k27 : PySem.W.keepIn K (.ref f27) = true)
    (a28 : PySem.W.nsIn K mainGlobals "law" = some (some (.ref f28)))
    (l28 : K.lookup f28 = some ⟨oc28, od28, .func (PySem.W.fnOf "law" "law" (defArgs sLaw) (defBody sLaw) (defScope sLaw) .none kV28 dc28 pm28 an28 cd28 ct28), sl28⟩)
    (c28 : PySem.W.codeIn K cd28 "law" = true)
    (k28 : PySem.W.keepIn K (.ref f28) = true)
    (z0 : PySem.W.nsIn K mainGlobals "len" = some none)
    (z1 : PySem.W.nsIn K mainGlobals "range" = some none)
    (z2 : PySem.W.nsIn K mainGlobals "isinstance" = some none)
    (z3 : PySem.W.nsIn K mainGlobals "all" = some none)
    (z4 : PySem.W.nsIn K mainGlobals "sum" = some none)
    (z5 : PySem.W.nsIn K mainGlobals "int" = some none)
    (z6 : PySem.W.nsIn K mainGlobals "str" = some none)
    (z7 : PySem.W.nsIn K mainGlobals "bool" = some none)
    (z8 : PySem.W.nsIn K mainGlobals "list" = some none)
    (z9 : PySem.W.nsIn K mainGlobals "dict" = some none)
    (z10 : PySem.W.nsIn K mainGlobals "tuple" = some none)
    (y0 : PySem.W.nsIn K mainGlobals "max" = some none)
    (y1 : PySem.W.nsIn K mainGlobals "min" = some none)
    (y2 : PySem.W.nsIn K mainGlobals "sorted" = some none)
    (q0 : PySem.W.nsIn K mainGlobals "abs" = some none)
    (q1 : PySem.W.nsIn K mainGlobals "ord" = some none)
    (s0 : PySem.W.nsIn K mainGlobals "LETTERS" = some (some (.str (Str.ofString "abcdefghijklmnopqrstuvwxyz") u0)))
    (s1 : PySem.W.nsIn K mainGlobals "NAME_SIGNS" = some (some (.str (Str.ofString "abcdefghijklmnopqrstuvwxyz0123456789") u1)))
    (n0 : PySem.W.nsIn K mainGlobals "MOST_IN_NAME" = some (some (.int 12 v0)))
    (n1 : PySem.W.nsIn K mainGlobals "MOST_IN_TEXT" = some (some (.int 30 v1)))
    (n2 : PySem.W.nsIn K mainGlobals "MOST_IN_ROW" = some (some (.int 60 v2)))
    (n3 : PySem.W.nsIn K mainGlobals "MOST_IN_RECORD" = some (some (.int 30 v3)))
    (n4 : PySem.W.nsIn K mainGlobals "MOST_DEPTH" = some (some (.int 8 v4)))
    (n5 : PySem.W.nsIn K mainGlobals "MOST_SIZE" = some (some (.int 200 v5)))
    (ta0 : PySem.W.nsIn K mainGlobals "KINDS" = some (some (.ref ka0)))
    (tl0 : K.lookup ka0 = some ⟨.type "tuple", none, .seq #[.str (Str.ofString "nothing") w0_0, .str (Str.ofString "truth") w0_1, .str (Str.ofString "number") w0_2, .str (Str.ofString "text") w0_3, .str (Str.ofString "row") w0_4, .str (Str.ofString "record") w0_5] wn0, ws0⟩)
    (xa : PySem.W.nsIn K mainGlobals "in_order" = some (some (.ref xF)))
    (xs : K.lookup xF = some ⟨xoc, xod, .func (PySem.W.fnOf "in_order" "in_order" (defArgs sIn) (defBody sIn) (defScope sIn) (.ref xD) xkV xdc xpm xan xcd xct), xsl⟩)
    (xt : PySem.W.codeIn K xcd "in_order" = true)
    (xk : PySem.W.keepIn K (.ref xF) = true)
    (xu : K.lookup xD = some ⟨xtc, xto, .seq #[.bool false] xtn, xts⟩) :
    ∃ fd : FuncData, (∀ (s : Shared) (v : Value), BindsTo s fd ⟨[v], []⟩ [("_law_script", v)]) ∧ ∀ base : Heap, K.In base → base.Ns mainGlobals mg → FnOk l.prog w K mg base CX0 42 fa fd ["_law_script"] (spLaw K) := by
  have e := hfa.symm.trans (PySem.W.mg_of X G a28)
  cases e
  have Fkind_of := fun_mk (st := sKindOf) l0 c0 k0
  have bkind_of := Fkind_of.binds (ps := ["thing"]) fun _ _ _ _ _ _ us hl => match us, hl with | [_], _ => rfl
  have mkind_of := PySem.W.mg_of X G a0
  have pkind_of := k0
  have Fis_name := fun_mk (st := sIsName) l1 c1 k1
  have bis_name := Fis_name.binds (ps := ["thing"]) fun _ _ _ _ _ _ us hl => match us, hl with | [_], _ => rfl
  have mis_name := PySem.W.mg_of X G a1
  have pis_name := k1
  have Fis_text_sign := fun_mk (st := sSgn) l2 c2 k2
  have bis_text_sign := Fis_text_sign.binds (ps := ["sign"]) fun _ _ _ _ _ _ us hl => match us, hl with | [_], _ => rfl
  have mis_text_sign := PySem.W.mg_of X G a2
  have pis_text_sign := k2
  have Fis_thing := fun_mk (st := sTh) l3 c3 k3
  have bis_thing := Fis_thing.binds (ps := ["thing"]) fun _ _ _ _ _ _ us hl => match us, hl with | [_], _ => rfl
  have mis_thing := PySem.W.mg_of X G a3
  have pis_thing := k3
  have Fis_sound_outside := fun_mk (st := sSnd) l4 c4 k4
  have bis_sound_outside := Fis_sound_outside.binds (ps := ["thing"]) fun _ _ _ _ _ _ us hl => match us, hl with | [_], _ => rfl
  have mis_sound_outside := PySem.W.mg_of X G a4
  have pis_sound_outside := k4
  have Fholds_parts := fun_mk (st := sHp) l5 c5 k5
  have bholds_parts := Fholds_parts.binds (ps := ["thing"]) fun _ _ _ _ _ _ us hl => match us, hl with | [_], _ => rfl
  have mholds_parts := PySem.W.mg_of X G a5
  have pholds_parts := k5
  have Fparts_of := fun_mk (st := sPo) l6 c6 k6
  have bparts_of := Fparts_of.binds (ps := ["thing"]) fun _ _ _ _ _ _ us hl => match us, hl with | [_], _ => rfl
  have mparts_of := PySem.W.mg_of X G a6
  have pparts_of := k6
  have Fparts_of_all := fun_mk (st := sPa) l7 c7 k7
  have bparts_of_all := Fparts_of_all.binds (ps := ["holders"]) fun _ _ _ _ _ _ us hl => match us, hl with | [_], _ => rfl
  have mparts_of_all := PySem.W.mg_of X G a7
  have pparts_of_all := k7
  have Fcopied := fun_mk (st := sCp) l8 c8 k8
  have bcopied := Fcopied.binds (ps := ["thing"]) fun _ _ _ _ _ _ us hl => match us, hl with | [_], _ => rfl
  have mcopied := PySem.W.mg_of X G a8
  have pcopied := k8
  have Frank := fun_mk (st := sRank) l9 c9 k9
  have brank := Frank.binds (ps := ["thing"]) fun _ _ _ _ _ _ us hl => match us, hl with | [_], _ => rfl
  have mrank := PySem.W.mg_of X G a9
  have prank := k9
  have F_law_cell := fun_mk (st := sCell) l10 c10 k10
  have b_law_cell := F_law_cell.binds (ps := ["_law_script", "_law_k"]) fun _ _ _ _ _ _ us hl => match us, hl with | [_, _], _ => rfl
  have m_law_cell := PySem.W.mg_of X G a10
  have p_law_cell := k10
  have F_law_name_by := fun_mk (st := sName) l11 c11 k11
  have b_law_name_by := F_law_name_by.binds (ps := ["_law_more"]) fun _ _ _ _ _ _ us hl => match us, hl with | [_], _ => rfl
  have m_law_name_by := PySem.W.mg_of X G a11
  have p_law_name_by := k11
  have F_law_signs := fun_mk (st := sSigns) l12 c12 k12
  have b_law_signs := F_law_signs.binds (ps := []) fun _ _ _ _ _ _ us hl => match us, hl with | [], _ => rfl
  have m_law_signs := PySem.W.mg_of X G a12
  have p_law_signs := k12
  have F_law_text_by := fun_mk (st := sText) l13 c13 k13
  have b_law_text_by := F_law_text_by.binds (ps := ["_law_more"]) fun _ _ _ _ _ _ us hl => match us, hl with | [_], _ => rfl
  have m_law_text_by := PySem.W.mg_of X G a13
  have p_law_text_by := k13
  have F_law_number_by := fun_mk (st := sNum) l14 c14 k14
  have b_law_number_by := F_law_number_by.binds (ps := ["_law_more"]) fun _ _ _ _ _ _ us hl => match us, hl with | [_], _ => rfl
  have m_law_number_by := PySem.W.mg_of X G a14
  have p_law_number_by := k14
  have F_law_thing_by := fun_mk (st := sThing) l15 c15 k15
  have b_law_thing_by := F_law_thing_by.binds (ps := ["_law_script", "_law_k", "_law_deep"]) fun _ _ _ _ _ _ us hl => match us, hl with | [_, _, _], _ => rfl
  have m_law_thing_by := PySem.W.mg_of X G a15
  have p_law_thing_by := k15
  have F_law_wide_by := fun_mk (st := sWide) l16 c16 k16
  have b_law_wide_by := F_law_wide_by.binds (ps := ["_law_script", "_law_k", "_law_deep"]) fun _ _ _ _ _ _ us hl => match us, hl with | [_, _, _], _ => rfl
  have m_law_wide_by := PySem.W.mg_of X G a16
  have p_law_wide_by := k16
  have F_law_kind := fun_mk (st := sKind) l17 c17 k17
  have b_law_kind := F_law_kind.binds (ps := ["_law_thing"]) fun _ _ _ _ _ _ us hl => match us, hl with | [_], _ => rfl
  have m_law_kind := PySem.W.mg_of X G a17
  have p_law_kind := k17
  have F_law_held := fun_mk (st := sHeld) l18 c18 k18
  have b_law_held := F_law_held.binds (ps := ["_law_thing"]) fun _ _ _ _ _ _ us hl => match us, hl with | [_], _ => rfl
  have m_law_held := PySem.W.mg_of X G a18
  have p_law_held := k18
  have F_law_marked := fun_mk (st := sMk) l19 c19 k19
  have b_law_marked := F_law_marked.binds (ps := ["_law_thing"]) fun _ _ _ _ _ _ us hl => match us, hl with | [_], _ => rfl
  have m_law_marked := PySem.W.mg_of X G a19
  have p_law_marked := k19
  have F_law_same := fun_mk (st := sSame) l20 c20 k20
  have b_law_same := F_law_same.binds (ps := ["_law_one", "_law_other"]) fun _ _ _ _ _ _ us hl => match us, hl with | [_, _], _ => rfl
  have m_law_same := PySem.W.mg_of X G a20
  have p_law_same := k20
  have F_law_rows_compare := fun_mk (st := sRows) l21 c21 k21
  have b_law_rows_compare := F_law_rows_compare.binds (ps := ["_law_one", "_law_other"]) fun _ _ _ _ _ _ us hl => match us, hl with | [_, _], _ => rfl
  have m_law_rows_compare := PySem.W.mg_of X G a21
  have p_law_rows_compare := k21
  have F_law_compare := fun_mk (st := sCmp) l22 c22 k22
  have b_law_compare := F_law_compare.binds (ps := ["_law_one", "_law_other"]) fun _ _ _ _ _ _ us hl => match us, hl with | [_, _], _ => rfl
  have m_law_compare := PySem.W.mg_of X G a22
  have p_law_compare := k22
  have F_law_leaf_other := fun_mk (st := sLeaf) l23 c23 k23
  have b_law_leaf_other := F_law_leaf_other.binds (ps := ["_law_thing", "_law_more"]) fun _ _ _ _ _ _ us hl => match us, hl with | [_, _], _ => rfl
  have m_law_leaf_other := PySem.W.mg_of X G a23
  have p_law_leaf_other := k23
  have F_law_varied := fun_mk (st := sVar) l24 c24 k24
  have b_law_varied := F_law_varied.binds (ps := ["_law_thing", "_law_more", "_law_names"]) fun _ _ _ _ _ _ us hl => match us, hl with | [_, _, _], _ => rfl
  have m_law_varied := PySem.W.mg_of X G a24
  have p_law_varied := k24
  have F_law_things_by := fun_mk (st := sThs) l25 c25 k25
  have b_law_things_by := F_law_things_by.binds (ps := ["_law_script"]) fun _ _ _ _ _ _ us hl => match us, hl with | [_], _ => rfl
  have m_law_things_by := PySem.W.mg_of X G a25
  have p_law_things_by := k25
  have F_law_often := fun_mk (st := sOft) l26 c26 k26
  have b_law_often := F_law_often.binds (ps := ["_law_thing", "_law_things"]) fun _ _ _ _ _ _ us hl => match us, hl with | [_, _], _ => rfl
  have m_law_often := PySem.W.mg_of X G a26
  have p_law_often := k26
  have F_law_right := fun_mk (st := sRgt) l27 c27 k27
  have b_law_right := F_law_right.binds (ps := ["_law_result", "_law_things", "_law_falling"]) fun _ _ _ _ _ _ us hl => match us, hl with | [_, _, _], _ => rfl
  have m_law_right := PySem.W.mg_of X G a27
  have p_law_right := k27
  have Flaw := fun_mk (st := sLaw) l28 c28 k28
  have blaw := Flaw.binds (ps := ["_law_script"]) fun _ _ _ _ _ _ us hl => match us, hl with | [_], _ => rfl
  have mlaw := PySem.W.mg_of X G a28
  have plaw := k28
  have TKINDS : TupG K mg "KINDS" [Str.ofString "nothing", Str.ofString "truth", Str.ofString "number", Str.ofString "text", Str.ofString "row", Str.ofString "record"] ka0 := ⟨PySem.W.mg_of X G ta0, _, _, _, tl0, rfl, rfl, rfl, by rw [sizeLine_eq]; exact Nat.le_of_ble_eq_true rfl, (.cons ⟨_, rfl⟩ (.cons ⟨_, rfl⟩ (.cons ⟨_, rfl⟩ (.cons ⟨_, rfl⟩ (.cons ⟨_, rfl⟩ (.cons ⟨_, rfl⟩ .nil))))))⟩
  have B : Bl mg := ⟨PySem.W.mg_none_of X G z0, PySem.W.mg_none_of X G z1, PySem.W.mg_none_of X G z2, PySem.W.mg_none_of X G z3, PySem.W.mg_none_of X G z4, PySem.W.mg_none_of X G z5, PySem.W.mg_none_of X G z6, PySem.W.mg_none_of X G z7, PySem.W.mg_none_of X G z8, PySem.W.mg_none_of X G z9, PySem.W.mg_none_of X G z10⟩
  have B2 : Bl2 mg := ⟨B, PySem.W.mg_none_of X G y0, PySem.W.mg_none_of X G y1, PySem.W.mg_none_of X G y2⟩
  have B5 : Bl5 mg := ⟨B2, PySem.W.mg_none_of X G q0, PySem.W.mg_none_of X G q1⟩
  have M : Ms mg := ⟨⟨_, PySem.W.mg_of X G s0⟩, ⟨_, PySem.W.mg_of X G s1⟩, ⟨_, PySem.W.mg_of X G n0⟩, ⟨_, PySem.W.mg_of X G n1⟩, ⟨_, PySem.W.mg_of X G n2⟩, ⟨_, PySem.W.mg_of X G n3⟩, ⟨_, PySem.W.mg_of X G n4⟩, ⟨_, PySem.W.mg_of X G n5⟩⟩
  refine ⟨PySem.W.fnOf "law" "law" (defArgs sLaw) (defBody sLaw) (defScope sLaw) .none kV28 dc28 pm28 an28 cd28 ct28, fun s v => .of_eq rfl, fun base _ _ => ?_⟩
  have Gcell : Dn l.prog w K mg base 1 "_law_cell" ["_law_script", "_law_k"] (spCell K) := ⟨_, _, ok_cell F_law_cell B, b_law_cell, p_law_cell, m_law_cell⟩
  have Gnum : Dn l.prog w K mg base 1 "_law_number_by" ["_law_more"] spNum := ⟨_, _, ok_num F_law_number_by, b_law_number_by, p_law_number_by, m_law_number_by⟩
  have Gname : Dn l.prog w K mg base 1 "_law_name_by" ["_law_more"] spName := ⟨_, _, ok_name F_law_name_by B, b_law_name_by, p_law_name_by, m_law_name_by⟩
  have Gsigns : Dn l.prog w K mg base 1 "_law_signs" [] spSigns := ⟨_, _, ok_signs F_law_signs, b_law_signs, p_law_signs, m_law_signs⟩
  have Gtext : Dn l.prog w K mg base 2 "_law_text_by" ["_law_more"] spText := ⟨_, _, ok_text F_law_text_by B Gsigns, b_law_text_by, p_law_text_by, m_law_text_by⟩
  have Gthing : Dn l.prog w K mg base (3 + 3) "_law_thing_by" ["_law_script", "_law_k", "_law_deep"] (spThingAny K 3) := ⟨_, _, thing_any (thing_all F_law_thing_by B Gcell Gnum Gtext Gname b_law_thing_by p_law_thing_by m_law_thing_by), b_law_thing_by, p_law_thing_by, m_law_thing_by⟩
  have Gheld : Dn l.prog w K mg base (1 + 10) "_law_held" ["_law_thing"] (spHeld 10) := ⟨_, _, held_all F_law_held B b_law_held p_law_held m_law_held 10, b_law_held, p_law_held, m_law_held⟩
  have Gkind : Dn l.prog w K mg base 1 "_law_kind" ["_law_thing"] spKind := ⟨_, _, ok_kind F_law_kind B, b_law_kind, p_law_kind, m_law_kind⟩
  have Gkindof : Dn l.prog w K mg base 1 "kind_of" ["thing"] spKind := ⟨_, _, ok_kind_of Fkind_of B, bkind_of, pkind_of, mkind_of⟩
  have Gko : Dn l.prog w K mg base 1 "kind_of" ["thing"] spKindR := ⟨_, _, ok_kind_ofR Fkind_of B, bkind_of, pkind_of, mkind_of⟩
  have Gcmp : Dn l.prog w K mg base (2 + 2 * 18) "_law_compare" ["_law_one", "_law_other"] (spCmp 18) := ⟨_, _, cmp_all F_law_compare F_law_rows_compare B2 Gkind b_law_compare p_law_compare m_law_compare b_law_rows_compare p_law_rows_compare m_law_rows_compare 18, b_law_compare, p_law_compare, m_law_compare⟩
  have Gsame : Dn l.prog w K mg base (2 + 2 * 18 + 1) "_law_same" ["_law_one", "_law_other"] (spSame 18) := ⟨_, _, ok_same F_law_same B2 Gkind Gcmp, b_law_same, p_law_same, m_law_same⟩
  have Grank : Dn l.prog w K mg base (2 + 9) "rank" ["thing"] (spRank 9) := ⟨_, _, rank_all Frank B2 TKINDS Gkindof brank prank mrank 9, brank, prank, mrank⟩
  have Gleaf : Dn l.prog w K mg base 1 "_law_leaf_other" ["_law_thing", "_law_more"] spLeaf := ⟨_, _, ok_leaf F_law_leaf_other B, b_law_leaf_other, p_law_leaf_other, m_law_leaf_other⟩
  have Gvar : Dn l.prog w K mg base (11 + 10) "_law_varied" ["_law_thing", "_law_more", "_law_names"] (spVar 10) := ⟨_, _, var_all F_law_varied B2 Gleaf Gheld b_law_varied p_law_varied m_law_varied 10, b_law_varied, p_law_varied, m_law_varied⟩
  have Gwide : Dn l.prog w K mg base (3 + 3 + 1) "_law_wide_by" ["_law_script", "_law_k", "_law_deep"] (spWide K) := ⟨_, _, ok_wide F_law_wide_by B2 Gcell Gnum Gthing, b_law_wide_by, p_law_wide_by, m_law_wide_by⟩
  have Gcp : Dn l.prog w K mg base (1 + 10) "copied" ["thing"] (spCp 10) := ⟨_, _, cp_all Fcopied B bcopied pcopied mcopied 10, bcopied, pcopied, mcopied⟩
  have Ghd : Dn l.prog w K mg base (1 + 10) "_law_held" ["_law_thing"] (spCp 10) := ⟨_, _, hd_all F_law_held B b_law_held p_law_held m_law_held 10, b_law_held, p_law_held, m_law_held⟩
  have Gmk : Dn l.prog w K mg base (1 + 10) "_law_marked" ["_law_thing"] (spMk 10) := ⟨_, _, mk_all F_law_marked B b_law_marked p_law_marked m_law_marked 10, b_law_marked, p_law_marked, m_law_marked⟩
  have Gin : Dn l.prog w K mg base 1 "is_name" ["thing"] spGood := ⟨_, _, ok_is_name Fis_name B M, bis_name, pis_name, mis_name⟩
  have Gsg : Dn l.prog w K mg base 1 "is_text_sign" ["sign"] spSgn := ⟨_, _, ok_sgn Fis_text_sign B5, bis_text_sign, pis_text_sign, mis_text_sign⟩
  have Gso : Dn l.prog w K mg base 2 "is_sound_outside" ["thing"] spSnd := ⟨_, _, ok_snd Fis_sound_outside B5 M Gko Gsg Gin, bis_sound_outside, pis_sound_outside, mis_sound_outside⟩
  have Ghp : Dn l.prog w K mg base 1 "holds_parts" ["thing"] spHp := ⟨_, _, ok_hp Fholds_parts B, bholds_parts, pholds_parts, mholds_parts⟩
  have Gpo : Dn l.prog w K mg base 1 "parts_of" ["thing"] spPo := ⟨_, _, ok_po Fparts_of B, bparts_of, pparts_of, mparts_of⟩
  have Gpa : Dn l.prog w K mg base 2 "parts_of_all" ["holders"] spPa := ⟨_, _, ok_pa Fparts_of_all B Gpo, bparts_of_all, pparts_of_all, mparts_of_all⟩
  have Gth : Dn l.prog w K mg base 3 "is_thing" ["thing"] spTh := ⟨_, _, ok_th Fis_thing B M Gso Ghp Gpa, bis_thing, pis_thing, mis_thing⟩
  have Gths : Dn l.prog w K mg base (11 + 10 + 1) "_law_things_by" ["_law_script"] (spThs K) := ⟨_, _, ok_ths F_law_things_by B2 Gcell Gname Gwide Ghd Gvar Gth, b_law_things_by, p_law_things_by, m_law_things_by⟩
  have Goft : Dn l.prog w K mg base (2 + 2 * 18 + 1 + 1) "_law_often" ["_law_thing", "_law_things"] spOft := ⟨_, _, ok_oft F_law_often B2 Gsame, b_law_often, p_law_often, m_law_often⟩
  have Grgt : Dn l.prog w K mg base (2 + 2 * 18 + 1 + 1 + 1) "_law_right" ["_law_result", "_law_things", "_law_falling"] spRgt := ⟨_, _, ok_rgt F_law_right B2 Gcmp Goft, b_law_right, p_law_right, m_law_right⟩
  have mIn := PySem.W.mg_of X G xa
  have FI : FunD K "in_order" "in_order" sIn xF (PySem.W.fnOf "in_order" "in_order" (defArgs sIn) (defBody sIn) (defScope sIn) (.ref xD) xkV xdc xpm xan xcd xct) := ⟨⟨xoc, xod, .ref xD, xkV, xdc, xpm, xan, xcd, xct, xsl, rfl, xs, xt⟩⟩
  have Gi : Dn l.prog w K mg base (13 + 1) "in_order" ["things", "falling"] spIn := ⟨_, _, ok_in FI B2 Gcp Grank, (biIn xu rfl).1, xk, mIn⟩
  have Gid : Dd l.prog w K mg base (13 + 1) "in_order" ["things", "falling"] [.bl false] spIn := ⟨_, _, [.bool false], ok_in FI B2 Gcp Grank, (biIn xu rfl).2, .cons rfl .nil, xk, mIn⟩
  exact ok_law Flaw B2 Gths Ghd Gi Gid Grgt Gmk
theorem walk {l : PySem.W.OpenLaw} {q : Program} {loose : List Str} {XP : (Str → Option Value) → Heap → Prop} {YP : World → Heap → Prop} {d : DefRec} {K : Params → PySem.W.Frag} (hn : l.most = some 63) (hdf : d.params.defaults = [])
    (hY : ∀ (w : World) (h : Heap), YP w h → (K w.params).In h)
    (F : ∀ (w : World) (mg : Str → Option Value) (fa : Addr) (h : Heap), (K w.params).In h → h.Ns mainGlobals mg → mg d.name = some (.ref fa) →
      ∃ fd : FuncData, (∀ (s : Shared) (u : Value), BindsTo s fd ⟨[u], []⟩ [("_law_script", u)]) ∧ ∀ base : Heap, (K w.params).In base → base.Ns mainGlobals mg → FnOk l.prog w (K w.params) mg base CX0 42 fa fd ["_law_script"] (spLaw (K w.params))) :
    PySem.W.WalkO q loose XP YP l.row.toRowW d [] (fun f vs => PySem.call f vs) :=
  L2.walk_of (n := 63) (k := 42) (x := "_law_script") (CX := fun _ => CX0) (sp := fun w => spLaw (K w.params)) hn (by decide) hdf ⟨rfl, by decide, by decide⟩ hY F (fun _ _ a ns hl _ hS => ⟨a, ns, rfl, hS, hl, fun _ => rfl⟩) fun _ _ _ _ _ z => z
end K16
def PySem.W.Fast.tw12690032849348958855 : Unit := ()
def PySem.W.Fast.tw248278713478265335 : Unit := ()
def PySem.W.Fast.tw6889692430976459426 : Unit := ()
def PySem.W.Fast.tw8716607414598381634 : Unit := ()
def PySem.W.Fast.tw1414786575138530068 : Unit := ()
def PySem.W.Fast.tw8517120141750424546 : Unit := ()
def PySem.W.Fast.tw3153478522994683837 : Unit := ()
def PySem.W.Fast.tw16228844930917072966 : Unit := ()
def PySem.W.Fast.tw2207404735859793936 : Unit := ()
open PySem PySem.W PyProof.Rows
set_option maxRecDepth 100000 in
set_option maxHeartbeats 0 in
theorem PySem.Challenge.cw_cabinet_k16_whole_in_order_holds : PySem.Challenge.rw_cabinet_k16_whole_in_order.Holds := by
  w_on; o_law; k_head; (case hw => w_witness2)
  k_fill
  refine K16.walk (l := PySem.Challenge.rw_cabinet_k16_whole_in_order) rfl rfl (fun w h Y => PySem.W.kIn_of Y) ?F
  case F =>
    intro w mg fa h KX G hmg
    refine' K16.all_mk KX G hmg ?a0 ?l0 ?c0 ?k0 ?a1 ?l1 ?c1 ?k1 ?a2 ?l2 ?c2 ?k2 ?a3 ?l3 ?c3 ?k3 ?a4 ?l4 ?c4 ?k4 ?a5 ?l5 ?c5 ?k5 ?a6 ?l6 ?c6 ?k6 ?a7 ?l7 ?c7 ?k7 ?a8 ?l8 ?c8 ?k8 ?a9 ?l9 ?c9 ?k9 ?a10 ?l10 ?c10 ?k10 ?a11 ?l11 ?c11 ?k11 ?a12 ?l12 ?c12 ?k12 ?a13 ?l13 ?c13 ?k13 ?a14 ?l14 ?c14 ?k14 ?a15 ?l15 ?c15 ?k15 ?a16 ?l16 ?c16 ?k16 ?a17 ?l17 ?c17 ?k17 ?a18 ?l18 ?c18 ?k18 ?a19 ?l19 ?c19 ?k19 ?a20 ?l20 ?c20 ?k20 ?a21 ?l21 ?c21 ?k21 ?a22 ?l22 ?c22 ?k22 ?a23 ?l23 ?c23 ?k23 ?a24 ?l24 ?c24 ?k24 ?a25 ?l25 ?c25 ?k25 ?a26 ?l26 ?c26 ?k26 ?a27 ?l27 ?c27 ?k27 ?a28 ?l28 ?c28 ?k28 ?z0 ?z1 ?z2 ?z3 ?z4 ?z5 ?z6 ?z7 ?z8 ?z9 ?z10 ?y0 ?y1 ?y2 ?q0 ?q1 ?s0 ?s1 ?n0 ?n1 ?n2 ?n3 ?n4 ?n5 ?ta0 ?tl0 ?xa ?xs ?xt ?xk ?xu
    (case a0 => k_is); (case l0 => k_is); (case c0 => k_is); (case k0 => k_is); (case a1 => k_is); (case l1 => k_is); (case c1 => k_is); (case k1 => k_is)
    (case a2 => k_is); (case l2 => k_is); (case c2 => k_is); (case k2 => k_is); (case a3 => k_is); (case l3 => k_is); (case c3 => k_is); (case k3 => k_is)
    (case a4 => k_is); (case l4 => k_is); (case c4 => k_is); (case k4 => k_is); (case a5 => k_is); (case l5 => k_is); (case c5 => k_is); (case k5 => k_is)
    (case a6 => k_is); (case l6 => k_is); (case c6 => k_is); (case k6 => k_is); (case a7 => k_is); (case l7 => k_is); (case c7 => k_is); (case k7 => k_is)
    (case a8 => k_is); (case l8 => k_is); (case c8 => k_is); (case k8 => k_is); (case a9 => k_is); (case l9 => k_is); (case c9 => k_is); (case k9 => k_is)
    (case a10 => k_is); (case l10 => k_is); (case c10 => k_is); (case k10 => k_is); (case a11 => k_is); (case l11 => k_is); (case c11 => k_is); (case k11 => k_is)
    (case a12 => k_is); (case l12 => k_is); (case c12 => k_is); (case k12 => k_is); (case a13 => k_is); (case l13 => k_is); (case c13 => k_is); (case k13 => k_is)
    (case a14 => k_is); (case l14 => k_is); (case c14 => k_is); (case k14 => k_is); (case a15 => k_is); (case l15 => k_is); (case c15 => k_is); (case k15 => k_is)
    (case a16 => k_is); (case l16 => k_is); (case c16 => k_is); (case k16 => k_is); (case a17 => k_is); (case l17 => k_is); (case c17 => k_is); (case k17 => k_is)
    (case a18 => k_is); (case l18 => k_is); (case c18 => k_is); (case k18 => k_is); (case a19 => k_is); (case l19 => k_is); (case c19 => k_is); (case k19 => k_is)
    (case a20 => k_is); (case l20 => k_is); (case c20 => k_is); (case k20 => k_is); (case a21 => k_is); (case l21 => k_is); (case c21 => k_is); (case k21 => k_is)
    (case a22 => k_is); (case l22 => k_is); (case c22 => k_is); (case k22 => k_is); (case a23 => k_is); (case l23 => k_is); (case c23 => k_is); (case k23 => k_is)
    (case a24 => k_is); (case l24 => k_is); (case c24 => k_is); (case k24 => k_is); (case a25 => k_is); (case l25 => k_is); (case c25 => k_is); (case k25 => k_is)
    (case a26 => k_is); (case l26 => k_is); (case c26 => k_is); (case k26 => k_is); (case a27 => k_is); (case l27 => k_is); (case c27 => k_is); (case k27 => k_is)
    (case a28 => k_is); (case l28 => k_is); (case c28 => k_is); (case k28 => k_is); (case z0 => k_is); (case z1 => k_is); (case z2 => k_is); (case z3 => k_is)
    (case z4 => k_is); (case z5 => k_is); (case z6 => k_is); (case z7 => k_is); (case z8 => k_is); (case z9 => k_is); (case z10 => k_is); (case y0 => k_is)
    (case y1 => k_is); (case y2 => k_is); (case q0 => k_is); (case q1 => k_is); (case s0 => k_is); (case s1 => k_is); (case n0 => k_is); (case n1 => k_is)
    (case n2 => k_is); (case n3 => k_is); (case n4 => k_is); (case n5 => k_is); (case ta0 => k_is); (case tl0 => k_is); (case xa => k_is); (case xs => k_is)
    (case xt => k_is); (case xk => k_is); (case xu => k_is)
