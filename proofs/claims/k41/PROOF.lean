import PyProof.Rows.All
import Wide.All
import OpenK.AllK
import Wide.FinOn
import Lean
import PyProof.EqAt
import PyProof.EqKinds
import PyProof.TupleCall
import PySem.Challenge.RW_spinfloor_k41_fronts
set_option Elab.async false
set_option linter.all false
set_option maxRecDepth 100000
/-! THE HAND LAYER, for ints, bools, texts, own classes, LISTS and tuples (index, slices, in, append, pop ..), calls, loops. Paste it whole ahead of your own text; what your proof does not reach may be deleted. -/
namespace L2
open PySem PySem.Spec PyProof.Rows

/-- a key: an int or a str -/
abbrev Key := Sum Int Str
def keyIs : Key → Value → Bool
  | .inl k, v => Value.isInt k v
  | .inr x, v => Value.isStrOf x v
def keyH (w : World) : Key → Int
  | .inl k => hashInt k
  | .inr x => hashStr w x
theorem keyIs_shape : ∀ {k : Key} {v : Value}, keyIs k v = true → (∃ i t, k = Sum.inl i ∧ v = Value.int i t) ∨ (∃ x t, k = Sum.inr x ∧ v = Value.str x t)
  | .inl i, v, h => by
    obtain ⟨t, e⟩ := Value.isInt_shape (k := i) (v := v) h
    exact .inl ⟨i, t, rfl, e⟩
  | .inr x, v, h => by
    obtain ⟨t, e⟩ := Value.isStrOf_shape (x := x) (v := v) h
    exact .inr ⟨x, t, rfl, e⟩
theorem keyIs_int (i : Int) (t : Tok) : keyIs (.inl i) (.int i t) = true := by simp [keyIs, Value.isInt]
theorem keyIs_str (x : Str) (t : Tok) : keyIs (.inr x) (.str x t) = true := by simp [keyIs, Value.isStrOf]
theorem key_ll (a b : Int) : decide ((Sum.inl a : Key) = Sum.inl b) = (a == b) := by
  by_cases e : a = b
  · subst e; simp
  · have h : ¬ (Sum.inl a : Key) = Sum.inl b := fun q => e (Sum.inl.inj q)
    rw [decide_eq_false h]
    exact (beq_eq_false_iff_ne.mpr e).symm
theorem key_rr (a b : Str) : decide ((Sum.inr a : Key) = Sum.inr b) = decide (a = b) := by
  by_cases e : a = b
  · subst e; simp
  · have h : ¬ (Sum.inr a : Key) = Sum.inr b := fun q => e (Sum.inr.inj q)
    rw [decide_eq_false h, decide_eq_false e]
theorem key_lr (a : Int) (b : Str) : decide ((Sum.inl a : Key) = Sum.inr b) = false := decide_eq_false (fun q => nomatch q)
theorem key_rl (a : Str) (b : Int) : decide ((Sum.inr a : Key) = Sum.inl b) = false := decide_eq_false (fun q => nomatch q)

def mixKind (prog : Program) (w : World) : PySem.KeyKind prog w Key where
  is := keyIs
  hash := keyH w
  inj := fun v a b ha hb => by
    rcases keyIs_shape ha with ⟨i, t, rfl, rfl⟩ | ⟨x, t, rfl, rfl⟩
    · rcases keyIs_shape hb with ⟨j, u, rfl, e⟩ | ⟨y, u, rfl, e⟩
      · injection e with e1 _; rw [e1]
      · exact nomatch e
    · rcases keyIs_shape hb with ⟨j, u, rfl, e⟩ | ⟨y, u, rfl, e⟩
      · exact nomatch e
      · injection e with e1 _; rw [e1]
  byValue := fun k v h => by
    rcases keyIs_shape h with ⟨i, t, rfl, rfl⟩ | ⟨x, t, rfl, rfl⟩ <;> rfl
  pyHash := fun hv h => by
    rcases keyIs_shape hv with ⟨i, t, rfl, rfl⟩ | ⟨x, t, rfl, rfl⟩
    · exact wpAny_pyHash_int h
    · exact wpAny_pyHash_str h
  eqBool := fun hu hv h => by
    rcases keyIs_shape hu with ⟨i, t, rfl, rfl⟩ | ⟨x, t, rfl, rfl⟩
    · rcases keyIs_shape hv with ⟨j, u, rfl, rfl⟩ | ⟨y, u, rfl, rfl⟩
      · rw [key_ll] at h; exact wpAny_eqBool_int h
      · rw [key_lr] at h; exact SeqAt.EqAt.int_str i t y u _ _ _ _ h
    · rcases keyIs_shape hv with ⟨j, u, rfl, rfl⟩ | ⟨y, u, rfl, rfl⟩
      · rw [key_rl] at h; exact SeqAt.EqAt.str_int x t j u _ _ _ _ h
      · rw [key_rr] at h; exact wpAny_eqBool_str h
  «strs» := fun k x t v h => by
    rcases keyIs_shape h with ⟨i, u, rfl, e⟩ | ⟨y, u, rfl, e⟩
    · exact nomatch e
    · injection e with e1 _
      subst e1
      cases v <;> rfl

theorem mixKind_int (prog : Program) (w : World) (i : Int) (t : Tok) : (mixKind prog w).is (.inl i) (.int i t) = true := keyIs_int i t
theorem mixKind_str (prog : Program) (w : World) (x : Str) (t : Tok) : (mixKind prog w).is (.inr x) (.str x t) = true := keyIs_str x t
end L2

namespace L2
open PySem PySem.Spec PyProof.Rows

/-- a value, without the heap -/
inductive V where
  | non | bl (b : Bool) | int (i : Int) | str (x : Str) | byt (b : Array UInt8) | flt (b : UInt64) | ref (a : Addr) | ty (n : String)
  deriving DecidableEq

def RelV : V → Value → Prop
  | .non, u => u = Value.none
  | .bl b, u => u = Value.bool b
  | .int i, u => ∃ t, u = Value.int i t
  | .str x, u => ∃ t, u = Value.str x t
  | .byt b, u => ∃ t, u = Value.bytes b t
  | .flt b, u => ∃ t, u = Value.float b t
  | .ref a, u => u = Value.ref a
  | .ty n, u => u = Value.type n

abbrev Vals : List V → List Value → Prop := Paired RelV
theorem Vals.length {xs : List V} {us : List Value} (r : Vals xs us) : xs.length = us.length := Paired.length r
theorem Vals.get : ∀ {xs : List V} {us : List Value} {i : Nat} {x : V}, Vals xs us → xs[i]? = some x → ∃ u, us[i]? = some u ∧ RelV x u
  | _, _, _, _, .nil, e => by simp at e
  | _, _, 0, _, .cons r _, e => by simp at e; subst e; exact ⟨_, rfl, r⟩
  | _, _, i + 1, x, .cons _ t, e => by
    obtain ⟨u, h1, h2⟩ := Vals.get (i := i) (x := x) t (by simpa using e)
    exact ⟨u, by simpa using h1, h2⟩
theorem Vals.set {x : V} {u : Value} (r : RelV x u) : ∀ {xs : List V} {us : List Value} (i : Nat), Vals xs us → Vals (xs.set i x) (us.set i u)
  | _, _, _, .nil => .nil
  | _, _, 0, .cons _ t => .cons r t
  | _, _, i + 1, .cons q t => .cons q (Vals.set r i t)
theorem Vals.append : ∀ {xs ys : List V} {us ws : List Value}, Vals xs us → Vals ys ws → Vals (xs ++ ys) (us ++ ws)
  | _, _, _, _, .nil, s => s
  | _, _, _, _, .cons r t, s => .cons r (Vals.append t s)
theorem Vals.take : ∀ {xs : List V} {us : List Value} (n : Nat), Vals xs us → Vals (xs.take n) (us.take n)
  | _, _, 0, _ => .nil
  | _, _, _ + 1, .nil => .nil
  | _, _, n + 1, .cons r t => .cons r (Vals.take n t)
theorem Vals.drop : ∀ {xs : List V} {us : List Value} (n : Nat), Vals xs us → Vals (xs.drop n) (us.drop n)
  | _, _, 0, r => r
  | _, _, _ + 1, .nil => .nil
  | _, _, n + 1, .cons _ t => Vals.drop n t

def RelO : Option V → Option Value → Prop
  | some v, some u => RelV v u
  | none, none => True
  | _, _ => False
def KV {κ : Type} : List (κ × V) → List (κ × Value) → Prop := Paired fun (p : κ × V) (q : κ × Value) => p.1 = q.1 ∧ RelV p.2 q.2

/-- a key of a dict (00_mix): an int or a text -/
def kV : Key → V
  | .inl i => .int i
  | .inr x => .str x

/-- what stands at a tracked address -/
inductive HO where
  /-- a list -/
  | lst (xs : List V)
  /-- a tuple (never changes) -/
  | tup (xs : List V)
  /-- a dict whose keys are ints and texts; one whose keys are tuples of ints and texts (the empty one is both) -/
  | dK (kvs : List (Key × V)) | dT (kvs : List (List Key × V))
  /-- a set of ints: its members, its size -/
  | set (S : Int → Bool) (n : Nat)
  /-- an instance of the class at C, its dict at dx, its attributes -/
  | ins (C dx : Addr) (fs : List (Str × V))
  /-- the dict of the instance at x -/
  | own (x : Addr)
  /-- the dict of an exception -/
  | xd (fs : List (Str × V))
  /-- a bound method, f of x -/
  | met (f x : Addr)
  /-- a range object lo, lo + 1, .. below hi -/
  | rng (lo hi : Int)
  /-- a thing that is known to the object (the script; a dict while a loop walks it): read, never written while it is so -/
  | frz (o : Obj) (u : HO)
  /-- a code object's table -/
  | tbl (ps : Array Value)
  /-- any other thing, by what is true of its one object (a def of one's own: SetO a S n := HO.ext fun h => ..) -/
  | ext (φ : Heap → Prop)

abbrev Hp := Addr → Option HO
def upd (H : Hp) (a : Addr) (o : HO) : Hp := fun b => if b = a then some o else H b
theorem upd_same {H : Hp} {a : Addr} {o : HO} : upd H a o a = some o := by unfold upd; rw [if_pos rfl]
theorem upd_ne {H : Hp} {a b : Addr} {o : HO} (h : b ≠ a) : upd H a o b = H b := by unfold upd; rw [if_neg h]
/-- two objects of different content stand apart -/
theorem ne_of {H : Hp} {a b : Addr} {o u : HO} (h : H a = some o) (h' : H b = some u) (d : o ≠ u) : a ≠ b := by
  intro e; subst e; rw [h] at h'; exact d (Option.some.inj h')
theorem ne_of_none {H : Hp} {a b : Addr} {o : HO} (h : H a = some o) (h' : H b = none) : a ≠ b := by
  intro e; subst e; rw [h] at h'; cases h'

section
variable (P : Program) (w : World)
def ObjOk (H : Hp) (h : Heap) (a : Addr) : HO → Prop
  | .lst xs => xs.length ≤ sizeLine ∧ ∃ (its : List Value) (n : Nat), Vals xs its ∧ h.get? a = some { cls := .type "list", data := .seq its.toArray n }
  | .tup xs => xs.length ≤ sizeLine ∧ ∃ its : List Value, Vals xs its ∧ IsTup h a its.toArray
  | .dK kvs => kvs.length ≤ sizeLine ∧ (a == sysModules) = false ∧ ∃ vs, KV kvs vs ∧ h.DictOf (mixKind P w) a vs
  | .dT kvs => kvs.length ≤ sizeLine ∧ (a == sysModules) = false ∧ ∃ xs : List (List Key × Addr × Value),
      Paired (fun (p : List Key × V) (q : List Key × Addr × Value) => p.1 = q.1 ∧ H q.2.1 = some (.tup (p.1.map kV)) ∧ RelV p.2 q.2.2) kvs xs ∧
      ∃ o es ep, h.get? a = some o ∧ o.ExactDict ∧ o.data = .dict es ep ∧ es.toList = xs.map (entryOfKey (tupleKind (mixKind P w))) ∧ (xs.map (·.1)).Nodup
  | .set S n => h.SetOf (intKind P w) a S n
  | .ins C dx fs => H dx = some (.own a) ∧ fs.length ≤ 1000 ∧ dx ≠ a ∧ h.get? a = some (PySem.W.instObj C dx) ∧
      ∃ mA, h.Ns1 dx mA ∧ (∀ f, RelO (fs.lookup f) (mA f)) ∧ PySem.Within mA (fs.map (·.1))
  | .own _ => ∃ o, h.get? a = some o
  | .xd fs => ∃ mA, h.Ns1 a mA ∧ ∀ f, RelO (fs.lookup f) (mA f)
  | .rng lo hi => ∃ t u v, h.get? a = some { cls := .type "range", data := .fields #[.int lo t, .int hi u, .int 1 v] }
  | .frz o u => h.get? a = some o ∧ ObjOk H h a u
  | .tbl ps => h.get? a = some { cls := .none, data := .fields ps }
  | .met f x => h.get? a = some (PySem.W.methodObj (.ref f) (.ref x))
  | .ext φ => φ h ∧ (∃ o, h.get? a = some o) ∧ ∀ h1 h2 : Heap, φ h1 → (∀ o, h1.get? a = some o → h2.get? a = some o) → φ h2
/-- the abstract heap is held -/
def HOk (H : Hp) (h : Heap) : Prop := ∀ a o, H a = some o → ObjOk P w H h a o
end

section
variable {P : Program} {w : World} {H H' : Hp} {h h' : Heap} {a : Addr} {o : HO}
theorem ObjOk.lt (x : ObjOk P w H h a o) : a < h.objs.size := by
  cases o with
  | lst xs => obtain ⟨_, _, _, _, e⟩ := x; exact Heap.lt_size e
  | tup xs => obtain ⟨_, _, _, p⟩ := x; exact p.lt
  | dK kvs => obtain ⟨_, _, _, _, o, _, _, e, _⟩ := x; exact Heap.lt_size e
  | dT kvs => obtain ⟨_, _, _, _, o, _, _, e, _⟩ := x; exact Heap.lt_size e
  | set S n => obtain ⟨o, _, _, _, e, _⟩ := x; exact Heap.lt_size e
  | ins C dx fs => obtain ⟨_, _, _, e, _⟩ := x; exact Heap.lt_size e
  | own y => obtain ⟨_, e⟩ := x; exact Heap.lt_size e
  | xd fs => obtain ⟨_, ⟨_, _, _, e, _⟩, _⟩ := x; exact Heap.lt_size e
  | rng lo hi => obtain ⟨_, _, _, e⟩ := x; exact Heap.lt_size e
  | frz ob u => obtain ⟨e, _⟩ := x; exact Heap.lt_size e
  | tbl ps => exact Heap.lt_size (show h.get? a = some _ from x)
  | met f y => exact Heap.lt_size (show h.get? a = some _ from x)
  | ext φ => obtain ⟨_, ⟨_, e⟩, _⟩ := x; exact Heap.lt_size e
theorem Paired.mapP {α β : Type} {F G : α → β → Prop} : ∀ {l₁ : List α} {l₂ : List β}, Paired F l₁ l₂ → (∀ a b, F a b → G a b) → Paired G l₁ l₂
  | _, _, .nil, _ => .nil
  | _, _, .cons r t, f => .cons (f _ _ r) (Paired.mapP t f)
/-- what an object's description leans on: its own object, its own dict, the tuples -/
theorem ObjOk.stay (x : ObjOk P w H h a o) (k : ∀ b u, (b = a ∨ H b = some (.own a)) → h.get? b = some u → h'.get? b = some u)
    (ho : ∀ b, H b = some (.own a) → H' b = some (.own a)) (ht : ∀ b xs, H b = some (.tup xs) → H' b = some (.tup xs)) : ObjOk P w H' h' a o := by
  induction o with
  | lst xs => obtain ⟨z, its, n, r, e⟩ := x; exact ⟨z, its, n, r, k _ _ (.inl rfl) e⟩
  | tup xs => obtain ⟨z, its, r, ob, e, c⟩ := x; exact ⟨z, its, r, ob, k _ _ (.inl rfl) e, c⟩
  | dK kvs => obtain ⟨z, y, vs, r, ob, es, ep, e, c⟩ := x; exact ⟨z, y, vs, r, ob, es, ep, k _ _ (.inl rfl) e, c⟩
  | dT kvs =>
    obtain ⟨z, y, xs, r, ob, es, ep, e, c⟩ := x
    exact ⟨z, y, xs, Paired.mapP r fun p q z => ⟨z.1, ht _ _ z.2.1, z.2.2⟩, ob, es, ep, k _ _ (.inl rfl) e, c⟩
  | set S n => obtain ⟨ob, es, ep, t, e, c⟩ := x; exact ⟨ob, es, ep, t, k _ _ (.inl rfl) e, c⟩
  | ins C dx fs =>
    obtain ⟨d, z, ne, e, mA, ⟨od, es, ep, e2, c⟩, r⟩ := x
    exact ⟨ho _ d, z, ne, k _ _ (.inl rfl) e, mA, ⟨od, es, ep, k _ _ (.inr d) e2, c⟩, r⟩
  | own y => obtain ⟨ob, e⟩ := x; exact ⟨ob, k _ _ (.inl rfl) e⟩
  | xd fs => obtain ⟨mA, ⟨od, es, ep, e, c⟩, r⟩ := x; exact ⟨mA, ⟨od, es, ep, k _ _ (.inl rfl) e, c⟩, r⟩
  | rng lo hi => obtain ⟨t, u, v, e⟩ := x; exact ⟨t, u, v, k _ _ (.inl rfl) e⟩
  | frz ob u ih => obtain ⟨e, q⟩ := x; exact ⟨k _ _ (.inl rfl) e, ih q⟩
  | tbl ps =>
    have e : h.get? a = some { cls := .none, data := .fields ps } := x
    show h'.get? a = some { cls := .none, data := .fields ps }
    exact k a _ (.inl rfl) e
  | met f y =>
    have e : h.get? a = some (PySem.W.methodObj (.ref f) (.ref y)) := x
    show h'.get? a = some (PySem.W.methodObj (.ref f) (.ref y))
    exact k a _ (.inl rfl) e
  | ext φ => obtain ⟨p, ⟨o, e⟩, st⟩ := x; exact ⟨st _ _ p fun o q => k _ _ (.inl rfl) q, ⟨o, k _ _ (.inl rfl) e⟩, st⟩
theorem HOk.lt (x : HOk P w H h) (e : H a = some o) : a < h.objs.size := (x a o e).lt
theorem HOk.fresh (x : HOk P w H h) (e : h.objs.size ≤ a) : H a = none := by
  cases q : H a with
  | none => rfl
  | some u => exact absurd (Nat.lt_of_lt_of_le (x.lt q) e) (Nat.lt_irrefl _)
/-- every object of the heap is kept -/
theorem HOk.kept (x : HOk P w H h) (k : ∀ b u, h.get? b = some u → h'.get? b = some u) : HOk P w H h' := fun a o e =>
  (x a o e).stay (fun b u _ q => k b u q) (fun _ q => q) fun _ _ q => q
/-- a new object is laid and tracked -/
theorem HOk.laid (x : HOk P w H h) (k : ∀ b u, h.get? b = some u → h'.get? b = some u) (hp : h.objs.size ≤ a) (new : ObjOk P w (upd H a o) h' a o) : HOk P w (upd H a o) h' := fun b u e => by
  have hn := x.fresh hp
  by_cases hb : b = a
  · subst hb; rw [upd_same] at e; cases e; exact new
  · rw [upd_ne hb] at e
    exact (x b u e).stay (fun c v _ q => k c v q) (fun c q => by rw [upd_ne (ne_of_none q hn)]; exact q) fun c xs q => by rw [upd_ne (ne_of_none q hn)]; exact q
end

/-- what may be read as u: it is u, or a known u -/
def Rd (H : Hp) (a : Addr) (u : HO) : Prop := H a = some u ∨ ∃ o, H a = some (.frz o u)
theorem Rd.ok {P : Program} {w : World} {H : Hp} {h : Heap} {a : Addr} {u : HO} (r : Rd H a u) (x : HOk P w H h) : ObjOk P w H h a u := by
  rcases r with r | ⟨o, r⟩
  · exact x a u r
  · obtain ⟨_, q⟩ := x a _ r
    exact q
/-- what may be written -/
def Mut : Option HO → Prop
  | some (.lst _) => True
  | some (.dK _) => True
  | some (.dT _) => True
  | some (.set _ _) => True
  | some (.ins _ _ _) => True
  | some (.ext _) => True
  | _ => False
section
variable {P : Program} {w : World} {H : Hp} {h h' : Heap} {x e : Addr} {o' : HO}
/-- the object at e is changed: x itself, or the dict of the instance x -/
theorem HOk.write (ok : HOk P w H h) (mu : Mut (H x)) (he : e = x ∨ H e = some (.own x)) (k : ∀ b u, b ≠ e → h.get? b = some u → h'.get? b = some u) (heo : ∃ u, h'.get? e = some u)
    (new : ObjOk P w (upd H x o') h' x o') : HOk P w (upd H x o') h' := fun b u q => by
  have nown : ∀ c y, H c = some (.own y) → c ≠ x := fun c y r z => by subst z; rw [r] at mu; exact mu
  have ntup : ∀ c xs, H c = some (.tup xs) → c ≠ x := fun c xs r z => by subst z; rw [r] at mu; exact mu
  by_cases hb : b = x
  · subst hb; rw [upd_same] at q; cases q; exact new
  · rw [upd_ne hb] at q
    by_cases hbe : b = e
    · have q' : H b = some (.own x) := by
        rcases he with z | z
        · exact absurd (hbe.trans z) hb
        · rw [hbe]; exact z
      rw [q] at q'; cases q'
      obtain ⟨v, hv⟩ := heo
      exact ⟨v, by rw [hbe]; exact hv⟩
    · refine (ok b u q).stay (fun c v hc r => k c v ?_ r) (fun c r => by rw [upd_ne (nown c b r)]; exact r) fun c xs r => by rw [upd_ne (ntup c xs r)]; exact r
      rcases hc with rfl | hc
      · exact hbe
      · rintro rfl
        rcases he with z | z
        · exact nown c b hc z
        · rw [hc] at z; cases z; exact hb rfl
end

/-! ### kept unless tracked; of the frames at fs (the callers') the slots may change (an exception that passes writes there); of the records at ex (iterators) nothing is said -/
structure Un (fs ex : List Addr) (H H' : Hp) (h h' : Heap) : Prop where
  keep : ∀ b o, h.get? b = some o → H b = none → b ∉ fs → b ∉ ex → h'.get? b = some o
  slot : ∀ b o, h.get? b = some o → H b = none → b ∈ fs → b ∉ ex → ∃ sl, h'.get? b = some { o with slots := sl }
  free : ∀ b o, h.get? b = some o → H b = none → b ∉ ex → H' b = none
  there : ∀ b o, h.get? b = some o → b ∉ ex → ∃ o', h'.get? b = some o'
  tups : ∀ b xs, H b = some (.tup xs) → H' b = some (.tup xs)
  frzs : ∀ b o u, H b = some (.frz o u) → H' b = some (.frz o u)
  tbls : ∀ b ps, H b = some (.tbl ps) → ∃ more, H' b = some (.tbl (ps ++ more))
section
variable {fs fs' ex ex' : List Addr} {H H1 H2 : Hp} {h h1 h2 h' : Heap} {a x e : Addr} {o : HO}
theorem Un.any (u : Un fs ex H H1 h h1) {b : Addr} {ob : Obj} (q : h.get? b = some ob) (n : H b = none) (hx : b ∉ ex) : ∃ sl, h1.get? b = some { ob with slots := sl } := by
  by_cases hb : b ∈ fs
  · exact u.slot b ob q n hb hx
  · exact ⟨ob.slots, u.keep b ob q n hb hx⟩
theorem Un.kept (k : ∀ b u, h.get? b = some u → h'.get? b = some u) : Un fs ex H H h h' :=
  ⟨fun b ob q _ _ _ => k b ob q, fun b ob q _ _ _ => ⟨ob.slots, k b ob q⟩, fun _ _ _ n _ => n, fun b ob q _ => ⟨ob, k b ob q⟩, fun _ _ q => q, fun _ _ _ q => q, fun _ ps q => ⟨#[], by rw [q]; simp⟩⟩
theorem Un.refl : Un fs ex H H h h := Un.kept fun _ _ q => q
theorem Un.laid (k : ∀ b u, h.get? b = some u → h'.get? b = some u) (hp : h.objs.size ≤ a) (hn : H a = none) : Un fs ex H (upd H a o) h h' where
  keep := fun b u q _ _ _ => k b u q
  slot := fun b u q _ _ _ => ⟨u.slots, k b u q⟩
  free := fun b u q n _ => by rw [upd_ne (Nat.ne_of_lt (Nat.lt_of_lt_of_le (Heap.lt_size q) hp))]; exact n
  there := fun b u q _ => ⟨u, k b u q⟩
  tups := fun b xs q => by rw [upd_ne (ne_of_none q hn)]; exact q
  frzs := fun b u xs q => by rw [upd_ne (ne_of_none q hn)]; exact q
  tbls := fun b ps q => ⟨#[], by rw [upd_ne (ne_of_none q hn), q]; simp⟩
theorem Un.write (mu : Mut (H x)) (he : e = x ∨ H e = some (.own x)) (k : ∀ b u, b ≠ e → h.get? b = some u → h'.get? b = some u) (heo : ∃ u, h'.get? e = some u) : Un fs ex H (upd H x o) h h' := by
  have hx : ∀ b, H b = none → b ≠ x := fun b n z => by subst z; rw [n] at mu; exact mu
  have hb : ∀ b, H b = none → b ≠ e := fun b n z => by
    subst z
    rcases he with r | r
    · exact hx b n r
    · rw [n] at r; cases r
  have hm : ∀ b u, H b = some u → ¬ Mut (some u) → b ≠ x := fun b u q nm z => by subst z; rw [q] at mu; exact nm mu
  refine ⟨fun b u q n _ _ => k b u (hb b n) q, fun b u q n _ _ => ⟨u.slots, k b u (hb b n) q⟩, fun b u q n _ => by rw [upd_ne (hx b n)]; exact n, fun b u q _ => ?_,
    fun b xs q => by rw [upd_ne (hm b _ q fun z => z)]; exact q, fun b u xs q => by rw [upd_ne (hm b _ q fun z => z)]; exact q, fun b ps q => ⟨#[], by rw [upd_ne (hm b _ q fun z => z), q]; simp⟩⟩
  by_cases hbe : b = e
  · subst hbe; exact heo
  · exact ⟨u, k b u hbe q⟩
end

/-! ### the heap without what is tracked -/
def trk (h : Heap) (H : Hp) : List Addr := (List.range h.objs.size).filter fun a => (H a).isSome
def hidT (h : Heap) (H : Hp) : Heap := PySem.W.hideAll h (trk h H)
theorem hidT_size (h : Heap) (H : Hp) : (hidT h H).objs.size = h.objs.size := PySem.W.hideAll_size _ _
theorem hidT_get {h : Heap} {H : Hp} {b : Addr} {o : Obj} (e : h.get? b = some o) (n : H b = none) : (hidT h H).get? b = some o :=
  PySem.W.hideAll_get _ e fun hm => by
    have q : (H b).isSome = true := (List.mem_filter.mp hm).2
    rw [n] at q; simp at q
theorem of_hidT {h : Heap} {H : Hp} {b : Addr} {o : Obj} (e : (hidT h H).get? b = some o) : h.get? b = some o ∧ H b = none := by
  have e' : h.get? b = some o := PySem.W.of_hideAll (trk h H) e
  refine ⟨e', ?_⟩
  cases q : H b with
  | none => rfl
  | some x =>
    have hm : b ∈ trk h H := List.mem_filter.mpr ⟨List.mem_range.mpr (Heap.lt_size e'), by simp [q]⟩
    have z : (hidT h H).get? b = none := PySem.W.hideAll_none (trk h H) hm
    rw [z] at e; cases e

/-! ### OpenK's ledger, filled with every new object but one -/
end L2

namespace L2
open PySem PySem.Spec PyProof.Rows

/-- the module's facts, over the base: the heap at the law's entry without what is tracked there -/
structure Mod (K : PySem.W.Frag) (mg : Str → Option Value) (base : Heap) : Prop where
  kin : K.In base
  glob : base.Ns mainGlobals mg
  blt : ∃ mb, base.Ns builtinsNs mb ∧ ∀ x : Str, x ≠ "__name__" → mb x = bootBuiltins x
  nolimit : base.NoLimit

/-- the context: a def's body (or a comprehension's block) running. base: fixed through the whole law; s₀, H₀: the entry; outer: the frames whose slots others may change (a def's callers); stack: all frames that run;
   ex: iterators that were made ahead of the entry and are walked here (a comprehension's); fn: the names whose cells were made at the entry (a def: all; a comprehension's block: its own); calm: not within an except suite; pn: pins that every state bears; xe: what is wanted of an exception that leaves the code -/
structure Cx where
  prog : Program
  w : World
  K : PySem.W.Frag
  mg : Str → Option Value
  base : Heap
  A : Around
  N : List Str
  s₀ : Shared
  H₀ : Hp
  env : Env
  outer : List Env
  stack : List Env
  ex : List Addr
  fn : Str → Bool
  calm : Bool
  pn : List (Addr × Obj)
  xe : Value → Shared → Prop
/-- the callers' frames -/
def frs (l : List Env) : List Addr := l.filterMap (·.frame)
abbrev Cx.fs (X : Cx) : List Addr := frs X.outer

def Vis (sc : Scope) (x : Str) : Prop := sc.names.lookup x = some .local ∨ sc.names.lookup x = some .cell ∨ sc.names.lookup x = some .free
def Loc (sc : Scope) (x : Str) : Prop := sc.names.lookup x = some .local ∨ sc.names.lookup x = some .cell
def Look (env : Env) (h : Heap) (m : Str → Option Value) (x : Str) (u : Value) : Prop :=
  (env.kindOf x = some .local ∧ m x = some u) ∨ ((env.kindOf x = some .cell ∨ env.kindOf x = some .free) ∧ ∃ c, env.cells.lookup x = some c ∧ h.IsCell c (some u))

structure Cx.Ok (X : Cx) : Prop where
  mod : Mod X.K X.mg X.base
  kind : X.env.scope.kind = .function
  glob : X.env.globals = mainGlobals
  blt : X.env.builtins = builtinsNs
  above : X.s₀.heap.objs.size ≤ X.env.locals
  inj : ∀ x y c, X.env.cells.lookup x = some c → X.env.cells.lookup y = some c → x = y
  has : ∀ x, (X.env.kindOf x = some .cell ∨ X.env.kindOf x = some .free) → ∃ c, X.env.cells.lookup x = some c
  cab : ∀ x c, X.fn x = true → X.env.cells.lookup x = some c → X.s₀.heap.objs.size ≤ c
  hd : X.calm = true → X.A.handled = none
  frames : X.A.frames = some X.stack
  stk : X.stack = X.outer ∨ (X.stack = X.env :: X.outer ∧ X.env.frame = some X.env.locals)
  exf : ∀ b ∈ X.ex, b ≠ X.env.locals ∧ ∀ x c, X.env.cells.lookup x = some c → c ≠ b
  bs : ∀ b o, X.base.get? b = some o → X.s₀.heap.get? b = some o ∧ X.H₀ b = none
  bsz : X.base.objs.size ≤ X.s₀.heap.objs.size
  noex : ∀ b o, X.base.get? b = some o → b ∉ X.ex
  exfs : ∀ b ∈ X.ex, b ∉ X.fs
  funs : X.s₀.heap.FunFrames X.base X.outer
  frf : ∀ b ∈ X.fs, X.H₀ b = none

structure Inv (X : Cx) (pins : List (Addr × Obj)) (σ : List (Option V)) (H : Hp) (s : Shared) : Prop where
  ok : X.Ok
  os : s.os = X.s₀.os
  bare : AllBare s.gens
  base : Un X.fs X.ex X.H₀ H X.s₀.heap s.heap
  loc : ∃ m, s.heap.Ns X.env.locals m ∧ ∀ (i : Nat) (x : Str) (v : V), X.N[i]? = some x → σ[i]? = some (some v) → Vis X.env.scope x → ∃ u, RelV v u ∧ Look X.env s.heap m x u
  cell : ∀ x c, X.env.cells.lookup x = some c → ∃ v, s.heap.IsCell c v
  free : H X.env.locals = none
  freeC : ∀ x c, X.env.cells.lookup x = some c → H c = none
  pin : ∀ p ∈ X.pn ++ pins, s.heap.get? p.1 = some p.2 ∧ H p.1 = none ∧ p.1 ≠ X.env.locals ∧ p.1 ∉ X.fs ∧ ∀ v, p.2.data ≠ .cell v
  hok : HOk X.prog X.w H s.heap
  len : σ.length = X.N.length

section
variable {X : Cx} {pins : List (Addr × Obj)} {σ : List (Option V)} {H H' : Hp} {s : Shared} {h' : Heap}

theorem Cx.Ok.nofr (ok : X.Ok) {b : Addr} {o : Obj} (e : X.base.get? b = some o) : b ∉ X.fs := fun hb => by
  have := (ok.funs.mem hb).1
  rw [e] at this; cases this
theorem Inv.bs (I : Inv X pins σ H s) : ∀ b o, X.base.get? b = some o → s.heap.get? b = some o ∧ H b = none := fun b o e =>
  ⟨I.base.keep b o (I.ok.bs b o e).1 (I.ok.bs b o e).2 (I.ok.nofr e) (I.ok.noex b o e), I.base.free b o (I.ok.bs b o e).1 (I.ok.bs b o e).2 (I.ok.noex b o e)⟩
theorem Inv.bk (I : Inv X pins σ H s) : ∀ b o, X.base.get? b = some o → s.heap.get? b = some o := fun b o e => (I.bs b o e).1
theorem Inv.mod (I : Inv X pins σ H s) : Mod X.K X.mg X.base := I.ok.mod
theorem Inv.kIn (I : Inv X pins σ H s) : X.K.In s.heap := I.ok.mod.kin.keeps I.bk
theorem Inv.lt (I : Inv X pins σ H s) : X.env.locals < s.heap.objs.size := let ⟨_, hn, _⟩ := I.loc; hn.lt
theorem Inv.sz (I : Inv X pins σ H s) : X.s₀.heap.objs.size ≤ s.heap.objs.size := Nat.le_trans I.ok.above (Nat.le_of_lt I.lt)
theorem Inv.nofs (I : Inv X pins σ H s) {a : Addr} (h : s.heap.objs.size ≤ a) : a ∉ X.fs := fun hb => by
  obtain ⟨_, o, ho, _⟩ := I.ok.funs.mem hb
  exact absurd (Nat.lt_of_lt_of_le (Heap.lt_size ho) (Nat.le_trans I.sz h)) (Nat.lt_irrefl _)
theorem Inv.cne (I : Inv X pins σ H s) : ∀ x c, X.env.cells.lookup x = some c → c ≠ X.env.locals := fun x c e z => by
  obtain ⟨v, o, ho, hd⟩ := I.cell x c e
  obtain ⟨m, ⟨o', es, ep, ho', hd', _⟩, _⟩ := I.loc
  rw [z, ho'] at ho; cases ho; rw [hd'] at hd; cases hd
theorem Inv.funs (I : Inv X pins σ H s) : s.heap.FunFrames X.base X.outer := by
  have all : ∀ (l : List Env), (∀ b ∈ frs l, b ∈ X.fs) → X.s₀.heap.FunFrames X.base l → s.heap.FunFrames X.base l := by
    intro l
    induction l with
    | nil => intro _ _; trivial
    | cons env r ih =>
      intro hs hl
      obtain ⟨hk, ⟨L, o, hf, hn, ho, hd⟩, hr⟩ := hl
      have hL : L ∈ X.fs := hs L (by unfold frs; rw [List.filterMap_cons, hf]; exact List.mem_cons_self)
      obtain ⟨sl, e⟩ := I.base.slot L o ho (I.ok.frf L hL) hL fun z => I.ok.exfs L z hL
      exact ⟨hk, ⟨L, _, hf, hn, e, hd⟩, ih (fun b hb => hs b (by unfold frs; rw [List.filterMap_cons, hf]; exact List.mem_cons_of_mem _ hb)) hr⟩
  exact all X.outer (fun _ hb => hb) I.ok.funs

/-- the frames that run, for a call -/
theorem Inv.stack (I : Inv X pins σ H s) : s.heap.FunFrames X.base X.stack := by
  rcases I.ok.stk with e | ⟨e, hf⟩
  · rw [e]; exact I.funs
  · rw [e]
    obtain ⟨m, hn, _⟩ := I.loc
    refine .cons (by rw [I.ok.kind]; decide) hf hn ?_ I.funs
    exact Heap.get?_none_of_le (Nat.le_trans I.ok.bsz I.ok.above)
theorem Inv.stkSub (I : Inv X pins σ H s) : ∀ b ∈ frs X.stack, b ∈ X.env.locals :: X.fs := fun b hb => by
  rcases I.ok.stk with e | ⟨e, hf⟩
  · rw [e] at hb; exact List.mem_cons_of_mem _ hb
  · rw [e] at hb
    unfold frs at hb
    rw [List.filterMap_cons, hf] at hb
    exact hb
theorem Inv.stkFree (I : Inv X pins σ H s) : ∀ b ∈ frs X.stack, H b = none := fun b hb => by
  rcases List.mem_cons.mp (I.stkSub b hb) with e | hb
  · rw [e]; exact I.free
  · obtain ⟨_, o, ho, _⟩ := I.ok.funs.mem hb
    exact I.base.free b o ho (I.ok.frf b hb) fun z => I.ok.exfs b z hb

/-- THE STEP: the untracked objects but the frame and the records at ch are kept (the callers' frames up to slots), the frame's map is kept, the new abstract heap is held -/
theorem Inv.step {g' : Array GenState} {t' : Nat} {d' : Drawn} {ch : List Addr} (I : Inv X pins σ H s)
    (hch : ∀ b ∈ ch, (b ∈ X.ex ∨ X.s₀.heap.objs.size ≤ b) ∧ b ≠ X.env.locals ∧ (∀ x c, X.env.cells.lookup x = some c → c ≠ b) ∧ ∀ p ∈ X.pn ++ pins, p.1 ≠ b)
    (keep : ∀ b o, b ≠ X.env.locals → b ∉ X.fs → b ∉ ch → s.heap.get? b = some o → H b = none → h'.get? b = some o)
    (slot : ∀ b o, b ≠ X.env.locals → b ∈ X.fs → b ∉ ch → s.heap.get? b = some o → H b = none → ∃ sl, h'.get? b = some { o with slots := sl }) (free : ∀ b o, b ∉ ch → s.heap.get? b = some o → H b = none → H' b = none)
    (there : ∀ b o, b ∉ ch → s.heap.get? b = some o → ∃ o', h'.get? b = some o')
    (tups : ∀ b xs, H b = some (.tup xs) → H' b = some (.tup xs)) (frzs : ∀ b o u, H b = some (.frz o u) → H' b = some (.frz o u)) (tbls : ∀ b ps, H b = some (.tbl ps) → ∃ more, H' b = some (.tbl (ps ++ more)))
    (ns : ∀ m, s.heap.Ns X.env.locals m → h'.Ns X.env.locals m) (hok : HOk X.prog X.w H' h') (hg : AllBare g') :
    Inv X pins σ H' { s with heap := h', gens := g', drawn := d', toks := t' } := by
  have neL : ∀ b o, X.s₀.heap.get? b = some o → b ≠ X.env.locals := fun b o e => Nat.ne_of_lt (Nat.lt_of_lt_of_le (Heap.lt_size e) I.ok.above)
  have neC : ∀ b o, X.s₀.heap.get? b = some o → b ∉ X.ex → b ∉ ch := fun b o e hx hb => by
    rcases (hch b hb).1 with z | z
    · exact hx z
    · exact absurd (Nat.lt_of_lt_of_le (Heap.lt_size e) z) (Nat.lt_irrefl _)
  have cellK : ∀ x c, X.env.cells.lookup x = some c → ∀ v, s.heap.IsCell c v → h'.IsCell c v := fun x c e v ⟨o, ho, hd⟩ => by
    have nch : c ∉ ch := fun z => (hch c z).2.2.1 x c e rfl
    by_cases hc : c ∈ X.fs
    · obtain ⟨sl, q⟩ := slot c o (I.cne x c e) hc nch ho (I.freeC x c e)
      exact ⟨_, q, hd⟩
    · exact ⟨o, keep c o (I.cne x c e) hc nch ho (I.freeC x c e), hd⟩
  refine ⟨I.ok, I.os, hg, ⟨fun b o e n hb hx => ?_, fun b o e n hb hx => ?_, fun b o e n hx => ?_, fun b o e hx => ?_, fun b xs e => tups b xs (I.base.tups b xs e), fun b o xs e => frzs b o xs (I.base.frzs b o xs e), fun b ps e => ?_⟩, ?_, fun x c e => ?_, ?_, fun x c e => ?_, fun p hp => ?_, hok, I.len⟩
  · exact keep b o (neL b o e) hb (neC b o e hx) (I.base.keep b o e n hb hx) (I.base.free b o e n hx)
  · obtain ⟨sl, e1⟩ := I.base.slot b o e n hb hx
    obtain ⟨sl', e2⟩ := slot b _ (neL b o e) hb (neC b o e hx) e1 (I.base.free b o e n hx)
    exact ⟨sl', e2⟩
  · obtain ⟨o', e1⟩ := I.base.there b o e hx
    exact free b o' (neC b o e hx) e1 (I.base.free b o e n hx)
  · obtain ⟨o', e1⟩ := I.base.there b o e hx
    exact there b o' (neC b o e hx) e1
  · obtain ⟨m1, e1⟩ := I.base.tbls b ps e
    obtain ⟨m2, e2⟩ := tbls b _ e1
    exact ⟨m1 ++ m2, by rw [e2, Array.append_assoc]⟩
  · obtain ⟨m, hn, hl⟩ := I.loc
    refine ⟨m, ns m hn, fun i x v e1 e2 e3 => ?_⟩
    obtain ⟨u, r, l⟩ := hl i x v e1 e2 e3
    refine ⟨u, r, ?_⟩
    rcases l with l | ⟨k, c, e, z⟩
    · exact .inl l
    · exact .inr ⟨k, c, e, cellK x c e _ z⟩
  · obtain ⟨v, z⟩ := I.cell x c e
    exact ⟨v, cellK x c e v z⟩
  · obtain ⟨m, ⟨o, _, _, ho, _⟩, _⟩ := I.loc
    exact free _ o (fun z => (hch _ z).2.1 rfl) ho I.free
  · obtain ⟨v, o, ho, hd⟩ := I.cell x c e
    exact free c o (fun z => (hch c z).2.2.1 x c e rfl) ho (I.freeC x c e)
  · obtain ⟨e, n, ne, nf, d⟩ := I.pin p hp
    have nch : p.1 ∉ ch := fun z => (hch p.1 z).2.2.2 p hp rfl
    exact ⟨keep p.1 p.2 ne nf nch e n, free p.1 p.2 nch e n, ne, nf, d⟩
/-- .. where the frame's own object is kept too -/
theorem Inv.un {t' : Nat} (I : Inv X pins σ H s) (u : Un X.fs [] H H' s.heap h') (hok : HOk X.prog X.w H' h') : Inv X pins σ H' { s with heap := h', toks := t' } := by
  obtain ⟨m, ⟨o, es, ep, ho, r⟩, _⟩ := id I.loc
  obtain ⟨sl, hL⟩ := u.any ho I.free (by simp)
  exact I.step (g' := s.gens) (d' := s.drawn) (ch := []) (fun _ z => nomatch z) (fun b o _ hb _ e n => u.keep b o e n hb (by simp)) (fun b o _ hb _ e n => u.slot b o e n hb (by simp)) (fun b o _ e n => u.free b o e n (by simp)) (fun b o _ e => u.there b o e (by simp)) u.tups u.frzs u.tbls (fun m' hm => by
    obtain ⟨o', es', ep', ho', r'⟩ := hm
    rw [ho] at ho'; cases ho'
    exact ⟨_, es', ep', hL, r'⟩) hok I.bare
/-- behind a call (or a comprehension's block): the slots of this frame may have changed too, the records at ch may have turned -/
theorem Inv.call {g' : Array GenState} {t' : Nat} {d' : Drawn} {ch : List Addr} (I : Inv X pins σ H s) (u : Un (frs X.stack) ch H H' s.heap h') (hok : HOk X.prog X.w H' h') (hg : AllBare g')
    (hch : ∀ b ∈ ch, (b ∈ X.ex ∨ X.s₀.heap.objs.size ≤ b) ∧ b ≠ X.env.locals ∧ (∀ x c, X.env.cells.lookup x = some c → c ≠ b) ∧ ∀ p ∈ X.pn ++ pins, p.1 ≠ b) :
    Inv X pins σ H' { s with heap := h', gens := g', drawn := d', toks := t' } := by
  obtain ⟨m, ⟨o, es, ep, ho, r⟩, _⟩ := id I.loc
  obtain ⟨sl, hL⟩ := u.any ho I.free fun z => (hch _ z).2.1 rfl
  exact I.step (ch := ch) hch (fun b o hL hb hc e n => u.keep b o e n (fun z => (List.mem_cons.mp (I.stkSub b z)).elim hL hb) hc) (fun b o _ _ hc e n => u.any e n hc) (fun b o hc e n => u.free b o e n hc) (fun b o hc e => u.there b o e hc) u.tups u.frzs u.tbls (fun m' hm => by
    obtain ⟨o', es', ep', ho', r'⟩ := hm
    rw [ho] at ho'; cases ho'
    exact ⟨_, es', ep', hL, r'⟩) hok hg
/-- an untracked record of ours (an iterator) has turned -/
theorem Inv.turned {t' : Nat} {it : Addr} (I : Inv X pins σ H s) (k : ∀ b o, b ≠ it → s.heap.get? b = some o → h'.get? b = some o) (hn : H it = none) (hL : it ≠ X.env.locals)
    (h1 : it ∈ X.ex ∨ X.s₀.heap.objs.size ≤ it) (h2 : ∀ x c, X.env.cells.lookup x = some c → c ≠ it) (h3 : ∀ p ∈ X.pn ++ pins, p.1 ≠ it) : Inv X pins σ H { s with heap := h', toks := t' } := by
  have nit : ∀ b u, H b = some u → b ≠ it := fun b u e z => by rw [z, hn] at e; cases e
  refine I.step (g' := s.gens) (d' := s.drawn) (ch := [it]) (fun b hb => ?_) (fun b o _ _ hc e _ => k b o (fun z => hc (by simp [z])) e) (fun b o _ _ hc e _ => ⟨o.slots, k b o (fun z => hc (by simp [z])) e⟩) (fun _ _ _ _ n => n)
    (fun b o hc e => ⟨o, k b o (fun z => hc (by simp [z])) e⟩) (fun _ _ e => e) (fun _ _ _ e => e) (fun b ps e => ⟨#[], by rw [e]; simp⟩) (fun m hm => ?_) (fun b u e => ?_) I.bare
  · have e : b = it := by simpa using hb
    subst e
    exact ⟨h1, hL, h2, h3⟩
  · obtain ⟨o, es, ep, ho, r⟩ := hm
    exact ⟨o, es, ep, k _ o (Ne.symm hL) ho, r⟩
  · refine (I.hok b u e).stay (fun c v hc q => k c v ?_ q) (fun _ q => q) fun _ _ q => q
    rcases hc with z | z
    · rw [z]; exact nit b u e
    · exact nit c _ z
theorem Inv.tok (I : Inv X pins σ H s) (t : Nat) : Inv X pins σ H { s with toks := t } := I.un (h' := s.heap) (t' := t) Un.refl I.hok
/-- all objects kept -/
theorem Inv.kept {t' : Nat} (I : Inv X pins σ H s) (k : ∀ b u, s.heap.get? b = some u → h'.get? b = some u) : Inv X pins σ H { s with heap := h', toks := t' } := I.un (Un.kept k) (I.hok.kept k)
/-- a new object laid and tracked -/
theorem Inv.laid {a : Addr} {o : HO} {t' : Nat} (I : Inv X pins σ H s) (k : ∀ b u, s.heap.get? b = some u → h'.get? b = some u) (hp : s.heap.objs.size ≤ a) (new : ObjOk X.prog X.w (upd H a o) h' a o) :
    Inv X pins σ (upd H a o) { s with heap := h', toks := t' } := I.un (Un.laid k hp (I.hok.fresh hp)) (I.hok.laid k hp new)
/-- an object written -/
theorem Inv.write {x e : Addr} {o : HO} {t' : Nat} (I : Inv X pins σ H s) (mu : Mut (H x)) (he : e = x ∨ H e = some (.own x)) (k : ∀ b u, b ≠ e → s.heap.get? b = some u → h'.get? b = some u) (heo : ∃ u, h'.get? e = some u)
    (new : ObjOk X.prog X.w (upd H x o) h' x o) : Inv X pins σ (upd H x o) { s with heap := h', toks := t' } := I.un (Un.write mu he k heo) (I.hok.write mu he k heo new)
/-- forgetting slots, pins -/
theorem Inv.weak {σ' : List (Option V)} (I : Inv X pins σ H s) (hl : σ'.length = σ.length) (w : ∀ (i : Nat) v, σ'[i]? = some (some v) → σ[i]? = some (some v)) : Inv X pins σ' H s :=
  ⟨I.ok, I.os, I.bare, I.base, let ⟨m, hn, hl'⟩ := I.loc; ⟨m, hn, fun i x v e1 e2 e3 => hl' i x v e1 (w i v e2) e3⟩, I.cell, I.free, I.freeC, I.pin, I.hok, hl.trans I.len⟩
theorem Inv.pins_of {pins' : List (Addr × Obj)} (I : Inv X pins σ H s) (h : ∀ p ∈ pins', s.heap.get? p.1 = some p.2 ∧ H p.1 = none ∧ p.1 ≠ X.env.locals ∧ p.1 ∉ X.fs ∧ ∀ v, p.2.data ≠ .cell v) : Inv X pins' σ H s :=
  ⟨I.ok, I.os, I.bare, I.base, I.loc, I.cell, I.free, I.freeC, fun p hp => (List.mem_append.mp hp).elim (fun z => I.pin p (List.mem_append_left _ z)) (h p), I.hok, I.len⟩

theorem nodup_ix {N : List Str} (hN : N.Nodup) {i j : Nat} {x : Str} (a : N[i]? = some x) (b : N[j]? = some x) : i = j := by
  obtain ⟨h1, e1⟩ := List.getElem?_eq_some_iff.mp a
  obtain ⟨h2, e2⟩ := List.getElem?_eq_some_iff.mp b
  exact (List.getElem_inj hN).mp (e1.trans e2.symm)

/-- a name is stored; what changed -/
theorem store_ok2 {M : Model} {A : Around} {E : Value → Shared → Prop} {i : Nat} {x : Str} {v : V} {u : Value} {Q : Unit → Shared → Prop} (I : Inv X pins σ H s) (hN : X.N.Nodup) (hi : X.N[i]? = some x) (hx : Loc X.env.scope x) (r : RelV v u)
    (h : ∀ s', Inv X pins (σ.set i (some v)) H s' → (∃ a, Heap.SameBut a s.heap s'.heap ∧ (a = X.env.locals ∨ X.env.cells.lookup x = some a)) → Q () s') (hf : X.fn x = true ∨ X.env.scope.names.lookup x = some .local := by first | exact .inl rfl | exact .inr rfl | assumption) : wpAny M A (storeName X.env x u) Q E s := by
  obtain ⟨m, hn, hl⟩ := id I.loc
  have hcls : (X.env.scope.kind == .class || (X.env.scope.kind == .module && X.env.locals != X.env.globals)) = false := by rw [I.ok.kind]; rfl
  have hiσ : i < σ.length := by rw [I.len]; exact (List.getElem?_eq_some_iff.mp hi).1
  have cne := I.cne
  have tracked : ∀ {a : Addr} {h' : Heap}, (∃ o, s.heap.get? a = some o ∧ H a = none) → Heap.SameBut a s.heap h' → HOk X.prog X.w H h' := fun {a h'} ha hs b ob e => by
    obtain ⟨_, _, hfree⟩ := ha
    refine (I.hok b ob e).stay (fun c w' hc q => (hs.2 c ?_).trans q) (fun _ q => q) fun _ _ q => q
    rintro rfl
    rcases hc with rfl | hc
    · rw [hfree] at e; cases e
    · rw [hfree] at hc; cases hc
  rcases hx with hk | hk
  · refine wpAny_storeName_local hk hn (fun h' hn' hs => ?_) hcls
    obtain ⟨oL, _, _, hoL, _⟩ := id hn
    refine h _ ⟨I.ok, I.os, I.bare, ⟨fun b o e n hb hx => ?_, fun b o e n hb hx => ?_, I.base.free, fun b o e hx => ?_, I.base.tups, I.base.frzs, I.base.tbls⟩, ⟨_, hn', fun j y v' e1 e2 e3 => ?_⟩, fun y c e => ?_, I.free, I.freeC, fun p hp => ?_, tracked ⟨oL, hoL, I.free⟩ hs, by simpa using I.len⟩ ⟨_, hs, .inl rfl⟩
    · exact (hs.2 b (Nat.ne_of_lt (Nat.lt_of_lt_of_le (Heap.lt_size e) I.ok.above))).trans (I.base.keep b o e n hb hx)
    · obtain ⟨sl, e1⟩ := I.base.slot b o e n hb hx
      exact ⟨sl, (hs.2 b (Nat.ne_of_lt (Nat.lt_of_lt_of_le (Heap.lt_size e) I.ok.above))).trans e1⟩
    · obtain ⟨o', e1⟩ := I.base.there b o e hx
      exact ⟨o', (hs.2 b (Nat.ne_of_lt (Nat.lt_of_lt_of_le (Heap.lt_size e) I.ok.above))).trans e1⟩
    · by_cases hj : j = i
      · subst hj
        rw [hi] at e1; cases e1
        rw [List.getElem?_set_self hiσ] at e2
        cases e2
        exact ⟨u, r, .inl ⟨hk, by simp⟩⟩
      · rw [List.getElem?_set_ne (Ne.symm hj)] at e2
        obtain ⟨u', r', q⟩ := hl j y v' e1 e2 e3
        refine ⟨u', r', ?_⟩
        rcases q with ⟨k, e⟩ | ⟨k, c, e, z⟩
        · refine .inl ⟨k, ?_⟩
          have : y ≠ x := fun e => hj (nodup_ix hN e1 (e ▸ hi))
          simp [this, e]
        · exact .inr ⟨k, c, e, z.sameBut hs (cne y c e)⟩
    · obtain ⟨w', z⟩ := I.cell y c e
      exact ⟨w', z.sameBut hs (cne y c e)⟩
    · obtain ⟨e, n, ne, nf, d⟩ := I.pin p hp
      exact ⟨(hs.2 p.1 ne).trans e, n, ne, nf, d⟩
  · have hfn : X.fn x = true := by
      rcases hf with z | z
      · exact z
      · rw [z] at hk; cases hk
    obtain ⟨c, hc⟩ := I.ok.has x (.inl hk)
    obtain ⟨w', z⟩ := I.cell x c hc
    refine wpAny_storeName_cell I.ok.kind hk hc z (fun h' hc' hs => ?_)
    obtain ⟨oc, hoc, hocd⟩ := id z
    refine h { s with heap := h' } ⟨I.ok, I.os, I.bare, ⟨fun b o e n hb hx => ?_, fun b o e n hb hx => ?_, I.base.free, fun b o e hx => ?_, I.base.tups, I.base.frzs, I.base.tbls⟩, ⟨m, hn.sameBut hs (Ne.symm (cne x c hc)), fun j y v' e1 e2 e3 => ?_⟩, fun y c' e => ?_, I.free, I.freeC, fun p hp => ?_, tracked ⟨oc, hoc, I.freeC x c hc⟩ hs, by simpa using I.len⟩ ⟨c, hs, .inr hc⟩
    · exact (hs.2 b (Nat.ne_of_lt (Nat.lt_of_lt_of_le (Heap.lt_size e) (I.ok.cab x c hfn hc)))).trans (I.base.keep b o e n hb hx)
    · obtain ⟨sl, e1⟩ := I.base.slot b o e n hb hx
      exact ⟨sl, (hs.2 b (Nat.ne_of_lt (Nat.lt_of_lt_of_le (Heap.lt_size e) (I.ok.cab x c hfn hc)))).trans e1⟩
    · obtain ⟨o', e1⟩ := I.base.there b o e hx
      exact ⟨o', (hs.2 b (Nat.ne_of_lt (Nat.lt_of_lt_of_le (Heap.lt_size e) (I.ok.cab x c hfn hc)))).trans e1⟩
    · by_cases hj : j = i
      · subst hj
        rw [hi] at e1; cases e1
        rw [List.getElem?_set_self hiσ] at e2
        cases e2
        exact ⟨u, r, .inr ⟨.inl hk, c, hc, hc'⟩⟩
      · rw [List.getElem?_set_ne (Ne.symm hj)] at e2
        obtain ⟨u', r', q⟩ := hl j y v' e1 e2 e3
        refine ⟨u', r', ?_⟩
        rcases q with q | ⟨k, c', e, z'⟩
        · exact .inl q
        · refine .inr ⟨k, c', e, z'.sameBut hs ?_⟩
          rintro rfl
          exact hj (nodup_ix hN e1 (I.ok.inj _ _ _ e hc ▸ hi))
    · by_cases hcc : c' = c
      · subst hcc; exact ⟨_, hc'⟩
      · obtain ⟨w2, z2⟩ := I.cell y c' e
        exact ⟨w2, z2.sameBut hs hcc⟩
    · obtain ⟨e, n, ne, nf, d⟩ := I.pin p hp
      refine ⟨(hs.2 p.1 ?_).trans e, n, ne, nf, d⟩
      intro q
      rw [q, hoc] at e
      have q' : oc = p.2 := Option.some.inj e
      exact d w' (by rw [← q']; exact hocd)
theorem store_ok {M : Model} {A : Around} {E : Value → Shared → Prop} {i : Nat} {x : Str} {v : V} {u : Value} {Q : Unit → Shared → Prop} (I : Inv X pins σ H s) (hN : X.N.Nodup) (hi : X.N[i]? = some x) (hx : Loc X.env.scope x) (r : RelV v u)
    (h : ∀ s', Inv X pins (σ.set i (some v)) H s' → Q () s') (hf : X.fn x = true ∨ X.env.scope.names.lookup x = some .local := by first | exact .inl rfl | exact .inr rfl | assumption) : wpAny M A (storeName X.env x u) Q E s :=
  store_ok2 I hN hi hx r (fun s' I' _ => h s' I') hf
/-- behind a call or a block, the state as it is -/
theorem Inv.call' {s' : Shared} {ch : List Addr} (I : Inv X pins σ H s) (ho : s'.os = s.os) (u : Un (frs X.stack) ch H H' s.heap s'.heap) (hok : HOk X.prog X.w H' s'.heap) (hg : AllBare s'.gens)
    (hch : ∀ b ∈ ch, (b ∈ X.ex ∨ X.s₀.heap.objs.size ≤ b) ∧ b ≠ X.env.locals ∧ (∀ x c, X.env.cells.lookup x = some c → c ≠ b) ∧ ∀ p ∈ X.pn ++ pins, p.1 ≠ b) : Inv X pins σ H' s' := by
  obtain ⟨h', g', d', t', o'⟩ := s'
  have e : o' = s.os := ho
  subst e
  exact I.call (g' := g') (t' := t') (d' := d') u hok hg hch
end

/-! ### the judgements -/
/-- an exception: its class, its own dict's address (where it has one), the abstract heap behind it -/
abbrev XK := Value → Option Addr → Hp → Prop
abbrev St := List (Option V)
abbrev VK := V → Hp → Prop
/-- an expression's reading; a test's; an argument list's -/
abbrev TE := St → Hp → VK → Prop
abbrev TT := St → Hp → (Bool → Hp → Prop) → Prop
abbrev TA := St → Hp → (List V → Hp → Prop) → Prop
/-- what is wanted behind a statement -/
structure Ends where
  nx : St → Hp → Prop
  rt : VK
  bk : St → Hp → Prop := fun _ _ => False
  ct : St → Hp → Prop := fun _ _ => False
abbrev TS := Ends → St → Hp → Prop

def EP (X : Cx) (pins : List (Addr × Obj)) (σ : St) (Q : VK) (u : Value) (s' : Shared) : Prop := ∃ v H', Inv X pins σ H' s' ∧ RelV v u ∧ Q v H'
def TP (X : Cx) (pins : List (Addr × Obj)) (σ : St) (Q : Bool → Hp → Prop) (b : Bool) (s' : Shared) : Prop := ∃ H', Inv X pins σ H' s' ∧ Q b H'
def AP (X : Cx) (pins : List (Addr × Obj)) (σ : St) (Q : List V → Hp → Prop) (us : List Value) (s' : Shared) : Prop := ∃ vs H', Inv X pins σ H' s' ∧ Vals vs us ∧ Q vs H'
def SP (X : Cx) (pins : List (Addr × Obj)) (D : Ends) (f : Flow) (s' : Shared) : Prop :=
  match f with
  | .next => ∃ σ' H', Inv X pins σ' H' s' ∧ D.nx σ' H'
  | .brk => ∃ σ' H', Inv X pins σ' H' s' ∧ D.bk σ' H'
  | .cont => ∃ σ' H', Inv X pins σ' H' s' ∧ D.ct σ' H'
  | .ret u => ∃ v σ' H', Inv X pins σ' H' s' ∧ RelV v u ∧ D.rt v H'

def PE (X : Cx) (e : Expr) (t : TE) : Prop :=
  ∀ (pins : List (Addr × Obj)) (s : Shared) (σ : St) (H : Hp) (Q : VK), Inv X pins σ H s → t σ H Q → wpAny (model X.prog X.w) X.A (eval e X.env) (EP X pins σ Q) X.xe s
def PT (X : Cx) (e : Expr) (t : TT) : Prop :=
  ∀ (pins : List (Addr × Obj)) (s : Shared) (σ : St) (H : Hp) (Q : Bool → Hp → Prop), Inv X pins σ H s → t σ H Q → wpAny (model X.prog X.w) X.A (isTrue e X.env (eval e X.env)) (TP X pins σ Q) X.xe s
/-- a test whatever its 'whole' is (and, or) -/
def PW (X : Cx) (e : Expr) (t : TT) : Prop :=
  ∀ (whole : Sem Value) (pins : List (Addr × Obj)) (s : Shared) (σ : St) (H : Hp) (Q : Bool → Hp → Prop), Inv X pins σ H s → t σ H Q → wpAny (model X.prog X.w) X.A (isTrue e X.env whole) (TP X pins σ Q) X.xe s
theorem PW.pt {X : Cx} {e : Expr} {t : TT} (h : PW X e t) : PT X e t := h _
/-- an argument list (no star), from the left -/
def PA (X : Cx) (es : List Expr) (t : TA) : Prop :=
  ∀ (pos : Pos) (pins : List (Addr × Obj)) (s : Shared) (σ : St) (H : Hp) (Q : List V → Hp → Prop), Inv X pins σ H s → t σ H Q → wpAny (model X.prog X.w) X.A (spliced (backTo pos (starEach es X.env))) (AP X pins σ Q) X.xe s
def PS (X : Cx) (st : Stmt) (t : TS) : Prop :=
  ∀ (pins : List (Addr × Obj)) (s : Shared) (σ : St) (H : Hp) (D : Ends), Inv X pins σ H s → t D σ H → wpAny (model X.prog X.w) X.A (exec st X.env) (SP X pins D) X.xe s
def PSs (X : Cx) (st : List Stmt) (t : TS) : Prop :=
  ∀ (pins : List (Addr × Obj)) (s : Shared) (σ : St) (H : Hp) (D : Ends), Inv X pins σ H s → t D σ H → wpAny (model X.prog X.w) X.A (execs st X.env) (SP X pins D) X.xe s
/-- weaken the end -/
theorem thn {α : Type} {t : Sem α} {Q Q' : α → Shared → Prop} {M : Model} {A : Around} {E : Value → Shared → Prop} {s : Shared} (h : wpAny M A t Q E s) (hQ : ∀ a s, Q a s → Q' a s) : wpAny M A t Q' E s := wpAny_mono h hQ fun _ _ x => x
end L2

namespace L2
open PySem PySem.Spec PyProof.Rows
section
variable {X : Cx}


/-! ### names and constants -/
def tVar (i : Nat) : TE := fun σ H Q => ∃ v, σ[i]? = some (some v) ∧ Q v H
def tC (v : V) : TE := fun _ H Q => Q v H
theorem pe_var {i : Nat} {x : Str} {pos : Pos} (hN : X.N[i]? = some x) (hv : Vis X.env.scope x) (hd : (x == ("__debug__" : Str)) = false := by decide) (hcd : (x == ("__classdict__" : Str)) = false := by decide) : PE X (.Name x pos) (tVar i) := by
  intro pins s σ H Q I h
  obtain ⟨v, e, h⟩ := h
  obtain ⟨m, hn, hl⟩ := I.loc
  obtain ⟨u, r, l⟩ := hl i x v hN e hv
  have fin : EP X pins σ Q u s := ⟨v, H, I, r, h⟩
  rcases l with ⟨hk, hm⟩ | ⟨hk, c, hc, hcell⟩
  · exact wpAny_Name (wpAny_loadName_local I.ok.kind hk hn hm fin) hd
  · rcases hk with hk | hk
    · exact wpAny_Name (wpAny_loadName_cell I.ok.kind hk hc hcell fin) hd
    · exact wpAny_Name (wpAny_loadName_free I.ok.kind hk hc hcell fin hcd) hd
theorem pe_int {i j pos} : PE X (.Constant (.int i) j pos) (tC (.int i)) := fun _ _ _ H _ I h => wpAny_Constant_int ⟨.int i, H, I.tok _, ⟨_, rfl⟩, h⟩
theorem pe_bl {b j pos} : PE X (.Constant (.bool b) j pos) (tC (.bl b)) := fun _ _ _ H _ I h => Constant_bool ⟨.bl b, H, I, rfl, h⟩
theorem pe_non {j pos} : PE X (.Constant .none j pos) (tC .non) := fun _ _ _ H _ I h => Constant_none ⟨.non, H, I, rfl, h⟩
theorem pe_str {x j pos} : PE X (.Constant (.str x) j pos) (tC (.str x)) := fun _ _ _ H _ I h => Calls.Constant_str ⟨.str x, H, I.tok _, ⟨_, rfl⟩, h⟩

/-- a global name of the def -/
def Gl (X : Cx) (x : Str) : Prop := X.env.kindOf x = some .globalImplicit
theorem ld_glob {E : Value → Shared → Prop} {pins : List (Addr × Obj)} {s : Shared} {σ : St} {H : Hp} {x : Str} {u : Value} {pos : Pos} {Q : Value → Shared → Prop} (I : Inv X pins σ H s) (hg : Gl X x) (hm : X.mg x = some u) (h : Q u s)
    (hd : (x == ("__debug__" : Str)) = false := by decide) : wpAny (model X.prog X.w) X.A (eval (.Name x pos) X.env) Q E s :=
  Calls.Name_function_global I.ok.kind hg (Calls.loadGlobal_global (by rw [I.ok.glob]; exact I.mod.glob.keeps I.bk) hm h) hd
theorem ld_blt {E : Value → Shared → Prop} {pins : List (Addr × Obj)} {s : Shared} {σ : St} {H : Hp} {x : Str} {u : Value} {pos : Pos} {Q : Value → Shared → Prop} (I : Inv X pins σ H s) (hg : Gl X x) (hm : X.mg x = none) (hv : bootBuiltins x = some u) (h : Q u s)
    (hn : x ≠ "__name__" := by decide) (hd : (x == ("__debug__" : Str)) = false := by decide) : wpAny (model X.prog X.w) X.A (eval (.Name x pos) X.env) Q E s := by
  obtain ⟨mb, h1, h2⟩ := I.mod.blt
  exact Calls.Name_function_global I.ok.kind hg (Calls.loadGlobal_builtin (by rw [I.ok.glob]; exact I.mod.glob.keeps I.bk) hm (by rw [I.ok.blt]; exact h1.keeps I.bk) ((h2 x hn).trans hv) h) hd
/-- a module's constant, a class, a function, as a value -/
theorem pe_glob {x : Str} {v : V} {u : Value} {pos : Pos} (hg : Gl X x) (hm : X.mg x = some u) (r : RelV v u) (hd : (x == ("__debug__" : Str)) = false := by decide) : PE X (.Name x pos) (tC v) :=
  fun _ _ _ H _ I h => ld_glob I hg hm ⟨v, H, I, r, h⟩ hd
theorem pe_bltn {x : Str} {v : V} {u : Value} {pos : Pos} (hg : Gl X x) (hm : X.mg x = none) (hv : bootBuiltins x = some u) (r : RelV v u) (hn : x ≠ "__name__" := by decide) (hd : (x == ("__debug__" : Str)) = false := by decide) : PE X (.Name x pos) (tC v) :=
  fun _ _ _ H _ I h => ld_blt I hg hm hv ⟨v, H, I, r, h⟩ hn hd

/-! ### arithmetic -/
variable {a b : Expr} {ta tb : TE} {pos : Pos}

/-! ### comparisons -/
def PC (X : Cx) (op : CmpOp) (a b : Expr) (t : TE) : Prop :=
  ∀ (pins : List (Addr × Obj)) (s : Shared) (σ : St) (H : Hp) (Q : VK), Inv X pins σ H s → t σ H Q →
    wpAny (model X.prog X.w) X.A (eval a X.env) (fun v s₁ => wpAny (model X.prog X.w) X.A (eval b X.env) (fun u s₂ => wpAny (model X.prog X.w) X.A (compareOp op v u) (EP X pins σ Q) X.xe s₂) X.xe s₁) X.xe s
/-- a comparison as a value, as a test -/
def tB (t : TE) : TT := fun σ H Q => t σ H fun x H1 => ∃ c, x = .bl c ∧ Q c H1
theorem pt_cmp {op : CmpOp} {t : TE} (h : PC X op a b t) (h1 : behindInMarks op b = false := by first | exact nobehind _ (by decide) (by decide) | rfl) : PT X (.Compare a [op] [b] pos) (tB t) := by
  intro pins s σ H Q I hw
  refine wpAny_isTrue_Compare1 (thn (h pins s σ H _ I hw) fun v s1 h1 => thn h1 fun u s2 h2 => thn h2 fun c s3 ⟨x, H1, I1, r1, q1⟩ => ?_) h1
  obtain ⟨d, rfl, q⟩ := q1
  cases r1
  exact wpAny_truthy_bool ⟨H1, I1, q⟩
/-- an expression whose value is a bool, as a test -/
theorem pt_val {e : Expr} {t : TE} (h : PE X e t) (he : ∀ whole, isTrue e X.env whole = (do let v ← whole; standAt e.pos; holding [v] (truthy v)) := by intro _; rfl) : PT X e (tB t) := by
  intro pins s σ H Q I hw
  refine isTrue_plain (thn (h pins s σ H _ I hw) fun v s1 ⟨x, H1, I1, r1, q1⟩ => ?_) (he _)
  obtain ⟨d, rfl, q⟩ := q1
  cases r1
  exact wpAny_truthy_bool ⟨H1, I1, q⟩

/-! ### and, or, not -/
variable {tA tB' : TT} {rest : List Expr}
def tOr (t u : TT) : TT := fun σ H Q => t σ H fun c H1 => if c = true then Q true H1 else u σ H1 Q
def tNot (t : TT) : TT := fun σ H Q => t σ H fun c H1 => Q (!c) H1
theorem pw_or1 (ha : PT X a tA) : PW X (.BoolOp .Or [a] pos) tA := by
  intro wh pins s σ H Q I h
  refine isTrue_or (thn (ha pins s σ H Q I h) fun c s1 e => ?_)
  cases c with
  | false => exact isTrue_or_nil e
  | true => exact e
theorem pw_or (ha : PT X a tA) (hb : PW X (.BoolOp .Or (b :: rest) pos) tB') : PW X (.BoolOp .Or (a :: b :: rest) pos) (tOr tA tB') := by
  intro wh pins s σ H Q I h
  refine isTrue_or (thn (ha pins s σ H _ I h) fun c s1 ⟨H1, I1, q1⟩ => ?_)
  cases c with
  | true => exact ⟨H1, I1, q1⟩
  | false => exact hb wh pins s1 σ H1 Q I1 q1
theorem pt_not (ha : PT X a tA) : PT X (.UnaryOp .Not a pos) (tNot tA) := by
  intro pins s σ H Q I h
  exact isTrue_not (ha pins s σ H (fun c H1 => Q (!c) H1) I h)
/-- .. as values (bools) -/
def tAndV (ta tb : TE) : TE := fun σ H Q => ta σ H fun x H1 => ∃ c, x = .bl c ∧ if c = true then tb σ H1 Q else Q (.bl false) H1
def tNotV (ta : TE) : TE := fun σ H Q => ta σ H fun x H1 => ∃ c, x = .bl c ∧ Q (.bl (!c)) H1
theorem pe_one {op} {t : TE} (h : PE X a t) : PE X (.BoolOp op [a] pos) t := fun pins s σ H Q I hw => BoolOp_one (h pins s σ H Q I hw)
theorem pe_and (ha : PE X a ta) (hb : PE X (.BoolOp .And (b :: rest) pos) tb) : PE X (.BoolOp .And (a :: b :: rest) pos) (tAndV ta tb) := by
  intro pins s σ H Q I h
  refine BoolOp_and (thn (ha pins s σ H _ I h) fun v s1 ⟨x, H1, I1, r1, q1⟩ => ?_)
  obtain ⟨c, rfl, q1⟩ := q1
  cases r1
  refine wpAny_truthy_bool ?_
  cases c with
  | true => exact hb pins s1 σ H1 Q I1 q1
  | false => exact ⟨.bl false, H1, I1, rfl, q1⟩
theorem pe_not (ha : PE X a ta) : PE X (.UnaryOp .Not a pos) (tNotV ta) := by
  intro pins s σ H Q I h
  refine UnaryOp_ (thn (ha pins s σ H _ I h) fun v s1 ⟨x, H1, I1, r1, q1⟩ => ?_)
  obtain ⟨c, rfl, q1⟩ := q1
  cases r1
  exact not_of (wpAny_truthy_bool ⟨.bl (!c), H1, I1, rfl, q1⟩)
/-- a if t else b -/
def tIf (t : TT) (ta tb : TE) : TE := fun σ H Q => t σ H fun c H1 => if c = true then ta σ H1 Q else tb σ H1 Q
theorem pe_ifExp {c : Expr} (hc : PT X c tA) (ha : PE X a ta) (hb : PE X b tb) : PE X (.IfExp c a b pos) (tIf tA ta tb) := by
  intro pins s σ H Q I h
  refine wpAny_IfExp (thn (hc pins s σ H _ I h) fun d s1 ⟨H1, I1, q1⟩ => ?_)
  cases d with
  | true => exact ha pins s1 σ H1 Q I1 q1
  | false => exact hb pins s1 σ H1 Q I1 q1
end
end L2

namespace L2
open PySem PySem.Spec PyProof.Rows

/-! ### a list, a tuple that is read: tracked, frozen, or an object of the module -/
def SqL (K : PySem.W.Frag) (H : Hp) (a : Addr) (xs : List V) : Prop :=
  Rd H a (.lst xs) ∨
    ∃ (o : Obj) (its : Array Value) (n : Nat), K.lookup a = some o ∧ o.cls = .type "list" ∧ o.dict = none ∧ o.data = .seq its n ∧ its.size ≤ sizeLine ∧ Vals xs its.toList
def SqT (K : PySem.W.Frag) (H : Hp) (a : Addr) (xs : List V) : Prop :=
  Rd H a (.tup xs) ∨
    ∃ (o : Obj) (its : Array Value) (n : Nat), K.lookup a = some o ∧ o.cls = .type "tuple" ∧ o.data = .seq its n ∧ its.size ≤ sizeLine ∧ Vals xs its.toList
def absV : Value → Option V
  | .none => some .non
  | .bool b => some (.bl b)
  | .int i _ => some (.int i)
  | .str x _ => some (.str x)
  | .bytes b _ => some (.byt b)
  | .float b _ => some (.flt b)
  | .ref a => some (.ref a)
  | .type n => some (.ty n)
  | _ => none
theorem RelV.abs {x : V} {u : Value} (r : RelV x u) : absV u = some x := by
  cases x with
  | non => cases r; rfl
  | bl _ => cases r; rfl
  | int _ => obtain ⟨t, rfl⟩ := r; rfl
  | str _ => obtain ⟨t, rfl⟩ := r; rfl
  | byt _ => obtain ⟨t, rfl⟩ := r; rfl
  | flt _ => obtain ⟨t, rfl⟩ := r; rfl
  | ref _ => cases r; rfl
  | ty _ => cases r; rfl
theorem RelV.inj {x y : V} {u : Value} (r : RelV x u) (q : RelV y u) : x = y := Option.some.inj (r.abs.symm.trans q.abs)
theorem Vals.inj : ∀ {xs ys : List V} {us : List Value}, Vals xs us → Vals ys us → xs = ys
  | _, _, _, .nil, .nil => rfl
  | _, _, _, .cons r t, .cons r' t' => by rw [r.inj r', Vals.inj t t']
section
variable {X : Cx} {pins : List (Addr × Obj)} {σ : St} {H : Hp} {s : Shared} {a : Addr} {xs ys : List V}
theorem SqL.of {K : PySem.W.Frag} (h : H a = some (.lst xs)) : SqL K H a xs := .inl (.inl h)
theorem SqT.of {K : PySem.W.Frag} (h : H a = some (.tup xs)) : SqT K H a xs := .inl (.inl h)
theorem Inv.list (I : Inv X pins σ H s) (h : SqL X.K H a xs) : ∃ its : List Value, Vals xs its ∧ PlainL s.heap a its.toArray ∧ xs.length ≤ sizeLine := by
  rcases h with h | ⟨o, its, n, hk, hc, hd, hs, hz, r⟩
  · obtain ⟨z, its, n, r, e⟩ := h.ok I.hok
    exact ⟨its, r, ⟨_, n, e, rfl, rfl, rfl⟩, z⟩
  · refine ⟨its.toList, r, ⟨o, n, I.kIn a o hk, hc, hd, by simpa using hs⟩, ?_⟩
    have e := r.length
    simp only [Array.length_toList] at e
    omega
theorem Inv.tuple (I : Inv X pins σ H s) (h : SqT X.K H a xs) : ∃ its : List Value, Vals xs its ∧ IsTup s.heap a its.toArray ∧ xs.length ≤ sizeLine := by
  rcases h with h | ⟨o, its, n, hk, hc, hs, hz, r⟩
  · obtain ⟨z, its, r, p⟩ := h.ok I.hok
    exact ⟨its, r, p, z⟩
  · refine ⟨its.toList, r, ⟨o, I.kIn a o hk, hc, n, by simpa using hs⟩, ?_⟩
    have e := r.length
    simp only [Array.length_toList] at e
    omega
theorem Inv.list_inj (I : Inv X pins σ H s) (h : SqL X.K H a xs) (h' : SqL X.K H a ys) : xs = ys := by
  obtain ⟨its, r, ⟨o, n, e, _, _, d⟩, _⟩ := I.list h
  obtain ⟨its', r', ⟨o', n', e', _, _, d'⟩, _⟩ := I.list h'
  rw [e] at e'; cases e'
  rw [d] at d'
  injection d' with d1 _
  have : its = its' := by simpa using congrArg Array.toList d1
  subst this
  exact r.inj r'
end

/-! ### another wish about exceptions -/
abbrev Cx.wish (X : Cx) (E : Value → Shared → Prop) : Cx := { X with xe := E }
/-- no exception leaves -/
abbrev Cx.nox (X : Cx) : Cx := X.wish fun _ _ => False
theorem Cx.Ok.wish {X : Cx} (ok : X.Ok) (E : Value → Shared → Prop) : (X.wish E).Ok :=
  ⟨ok.mod, ok.kind, ok.glob, ok.blt, ok.above, ok.inj, ok.has, ok.cab, ok.hd, ok.frames, ok.stk, ok.exf, ok.bs, ok.bsz, ok.noex, ok.exfs, ok.funs, ok.frf⟩
theorem Cx.Ok.unwish {X : Cx} {E : Value → Shared → Prop} (ok : (X.wish E).Ok) : X.Ok :=
  ⟨ok.mod, ok.kind, ok.glob, ok.blt, ok.above, ok.inj, ok.has, ok.cab, ok.hd, ok.frames, ok.stk, ok.exf, ok.bs, ok.bsz, ok.noex, ok.exfs, ok.funs, ok.frf⟩
section
variable {X : Cx} {pins : List (Addr × Obj)} {σ : St} {H : Hp} {s : Shared} {E : Value → Shared → Prop}
theorem Inv.wish (I : Inv X pins σ H s) (E : Value → Shared → Prop) : Inv (X.wish E) pins σ H s := ⟨I.ok.wish E, I.os, I.bare, I.base, I.loc, I.cell, I.free, I.freeC, I.pin, I.hok, I.len⟩
theorem Inv.unwish (I : Inv (X.wish E) pins σ H s) : Inv X pins σ H s := ⟨I.ok.unwish, I.os, I.bare, I.base, I.loc, I.cell, I.free, I.freeC, I.pin, I.hok, I.len⟩
theorem SP.unwish {D : Ends} {f : Flow} {s' : Shared} (h : SP (X.wish E) pins D f s') : SP X pins D f s' := by
  cases f with
  | next => obtain ⟨σ', H', I, q⟩ := h; exact ⟨σ', H', I.unwish, q⟩
  | brk => obtain ⟨σ', H', I, q⟩ := h; exact ⟨σ', H', I.unwish, q⟩
  | cont => obtain ⟨σ', H', I, q⟩ := h; exact ⟨σ', H', I.unwish, q⟩
  | ret u => obtain ⟨v, σ', H', I, r, q⟩ := h; exact ⟨v, σ', H', I.unwish, r, q⟩
theorem PSs.nox {st : List Stmt} {t : TS} (h : PSs X.nox st t) : PSs X st t := fun pins s σ H D I hw =>
  wpAny_mono (h pins s σ H D (I.wish _) hw) (fun _ _ q => q.unwish) fun _ _ z => False.elim z
end

/-! ### blocks and small statements -/
section
variable {X : Cx} {st : Stmt} {rest : List Stmt} {t u : TS} {e : Expr} {te : TE} {pos : Pos}
def tNext : TS := fun D σ H => D.nx σ H
def tSeq (t u : TS) : TS := fun D σ H => t { D with nx := u D } σ H
theorem pss_nil : PSs X [] tNext := fun _ _ σ H _ I h => wpAny_execs_nil ⟨σ, H, I, h⟩
theorem pss_cons (h1 : PS X st t) (h2 : PSs X rest u) : PSs X (st :: rest) (tSeq t u) := by
  intro pins s σ H D I h
  refine wpAny_execs_cons (thn (h1 pins s σ H { D with nx := u D } I h) fun f s1 q => ?_)
  cases f with
  | next =>
    obtain ⟨σ', H', I', q⟩ := q
    exact h2 pins s1 σ' H' D I' q
  | ret v => exact q
  | brk => exact q
  | cont => exact q
theorem pss_one (h1 : PS X st t) : PSs X [st] t := by
  intro pins s σ H D I h
  refine wpAny_execs_cons (thn (h1 pins s σ H D I h) fun f s1 q => ?_)
  cases f with
  | next => exact wpAny_execs_nil q
  | ret v => exact q
  | brk => exact q
  | cont => exact q
/-- in a def's body nothing is shown -/
theorem Inv.quiet {pins : List (Addr × Obj)} {σ : St} {H : Hp} {s : Shared} (I : Inv X pins σ H s) : interactive X.env = false := by simp [interactive, I.ok.kind]
/-- an expression whose value is dropped -/
def tDrop (te : TE) : TS := fun D σ H => te σ H fun _ H1 => D.nx σ H1
theorem ps_expr (he : PE X e te) (hs : swapsWith e none pos.line X.env = pure false := by rfl) : PS X (.Expr e pos) (tDrop te) := by
  intro pins s σ H D I h
  exact wpAny_Expr_any (thn (he pins s σ H _ I h) fun v s1 ⟨x, H1, I1, r1, q1⟩ => ⟨σ, H1, I1, q1⟩) I.quiet hs
def tRet (te : TE) : TS := fun D σ H => te σ H D.rt
theorem ps_ret (he : PE X e te) : PS X (.Return (some e) pos) (tRet te) := by
  intro pins s σ H D I h
  exact wpAny_Return_some (thn (he pins s σ H _ I h) fun v s1 ⟨x, H1, I1, r1, q1⟩ => ⟨x, σ, H1, I1, r1, q1⟩)
def tIfS (c : TT) (t u : TS) : TS := fun D σ H => c σ H fun b H1 => if b = true then t D σ H1 else u D σ H1
theorem ps_if {c : Expr} {a b : List Stmt} {tc : TT} (hc : PT X c tc) (ha : PSs X a t) (hb : PSs X b u) : PS X (.If c a b pos) (tIfS tc t u) := by
  intro pins s σ H D I h
  refine wpAny_If (thn (hc pins s σ H _ I h) fun d s1 ⟨H1, I1, q1⟩ => ?_)
  cases d with
  | true => exact ha pins s1 σ H1 D I1 q1
  | false => exact hb pins s1 σ H1 D I1 q1
/-- code that the proof never comes to -/
def tNever : TS := fun _ _ _ => False
theorem ps_never : PS X st tNever := fun _ _ _ _ _ _ h => h.elim
end

/-! ### targets -/
abbrev TG := V → St → Hp → (St → Hp → Prop) → Prop
abbrev TGs := List V → St → Hp → (St → Hp → Prop) → Prop
def PG (X : Cx) (target : Expr) (t : TG) : Prop :=
  ∀ (pins : List (Addr × Obj)) (s : Shared) (σ : St) (H : Hp) (v : V) (u : Value) (Q : St → Hp → Prop), Inv X pins σ H s → RelV v u → t v σ H Q →
    wpAny (model X.prog X.w) X.A (assign target X.env u) (fun _ s' => ∃ σ' H', Inv X pins σ' H' s' ∧ Q σ' H') X.xe s
/-- several targets, one after another -/
def PGs (X : Cx) (ts : List Expr) (t : TGs) : Prop :=
  ∀ (pins : List (Addr × Obj)) (s : Shared) (σ : St) (H : Hp) (vs : List V) (us : List Value) (Q : St → Hp → Prop), Inv X pins σ H s → Vals vs us → t vs σ H Q →
    wpAny (model X.prog X.w) X.A (assignInOrder ((assignEach ts X.env).map (·.2)) us) (fun _ s' => ∃ σ' H', Inv X pins σ' H' s' ∧ Q σ' H') X.xe s
/-- o[i] = v, by values -/
abbrev TSet := V → V → V → Hp → (Hp → Prop) → Prop
def PSet (X : Cx) (t : TSet) : Prop :=
  ∀ (pins : List (Addr × Obj)) (s : Shared) (σ : St) (H : Hp) (o i v : V) (ov iv u : Value) (Q : Hp → Prop), Inv X pins σ H s → RelV o ov → RelV i iv → RelV v u → t o i v H Q →
    wpAny (model X.prog X.w) X.A (setItem ov iv u) (fun _ s' => ∃ H', Inv X pins σ H' s' ∧ Q H') X.xe s
section
variable {X : Cx} {pos : Pos}
def gName (i : Nat) : TG := fun v σ H Q => Q (σ.set i (some v)) H
theorem pg_name {i : Nat} {x : Str} (hN : X.N.Nodup) (hi : X.N[i]? = some x) (hx : Loc X.env.scope x) (hf : X.fn x = true ∨ X.env.scope.names.lookup x = some .local := by first | exact .inl rfl | exact .inr rfl | assumption) : PG X (.Name x pos) (gName i) := by
  intro pins s σ H v u Q I r h
  exact wpAny_assign_Name (store_ok I hN hi hx r (fun s' I' => ⟨_, H, I', h⟩) hf)
def gNil : TGs := fun vs σ H Q => vs = [] ∧ Q σ H
def gCons (t : TG) (u : TGs) : TGs := fun vs σ H Q => ∃ v r, vs = v :: r ∧ t v σ H fun σ' H' => u r σ' H' Q
theorem pgs_nil : PGs X [] gNil := by
  intro pins s σ H vs us Q I r h
  obtain ⟨e, h⟩ := h
  subst e
  cases r
  exact assignInOrder_nil ⟨σ, H, I, h⟩
theorem pgs_cons {e : Expr} {es : List Expr} {t : TG} {u : TGs} (h1 : PG X e t) (h2 : PGs X es u)
    (hs : (assignEach (e :: es) X.env).map (·.2) = assign e X.env :: (assignEach es X.env).map (·.2) := by rfl) : PGs X (e :: es) (gCons t u) := by
  intro pins s σ H vs us Q I r h
  obtain ⟨v, vr, e1, h⟩ := h
  subst e1
  cases r with
  | cons r rr =>
    rw [hs]
    refine assignInOrder_cons (thn (h1 pins s σ H _ _ _ I r h) fun _ s1 ⟨σ1, H1, I1, q1⟩ => ?_)
    exact h2 pins s1 σ1 H1 _ _ Q I1 rr q1
/-- (a, b, ..) = a tuple of that length -/
def gTup (K : PySem.W.Frag) (n : Nat) (t : TGs) : TG := fun v σ H Q => ∃ a xs, v = .ref a ∧ SqT K H a xs ∧ xs.length = n ∧ t xs σ H Q
theorem pg_tup {es : List Expr} {k : Nat} {t : TGs} {n : Nat} (hc : X.calm = true) (h : PGs X es t)
    (hn : (assignEach es X.env).length = n := by rfl) (hst : (assignEach es X.env).findIdx? (·.1) = none := by rfl) : PG X (.Tuple es k pos) (gTup X.K n t) := by
  intro pins s σ H v u Q I r hw
  obtain ⟨a, xs, e1, hq, hl, hw⟩ := hw
  subst e1
  cases r
  obtain ⟨its, rv, ht, hz⟩ := I.tuple hq
  refine assign_Tuple_tuple (I.ok.hd hc) ht (by simp [hn, ← hl, rv.length]) hst fun h' hx => ?_
  have I1 : Inv X pins σ H { s with heap := h' } := I.kept (t' := s.toks) fun b o e => hx b o (Nat.ne_of_lt (Heap.lt_size e)) e
  exact h pins _ σ H xs _ Q I1 (by simpa using rv) hw
/-- o[i] = .. -/
def gSub (to ti : TE) (t : TSet) : TG := fun v σ H Q => to σ H fun o H1 => ti σ H1 fun i H2 => t o i v H2 fun H3 => Q σ H3
theorem pg_sub {o i : Expr} {to ti : TE} {t : TSet} (ho : PE X o to) (hi : PE X i ti) (hs : PSet X t)
    (ha : ∀ v, assign (.Subscript o i pos) X.env v = (do
      let ov ← holding [v] (eval o X.env)
      let iv ← holding [v, ov] (eval i X.env)
      standAt pos
      holding [v, ov, iv] (setItem ov iv v)
      release [v, ov, iv] []) := by intro _; rfl) : PG X (.Subscript o i pos) (gSub to ti t) := by
  intro pins s σ H v u Q I r h
  rw [ha]
  refine wpAny_bind (wpAny_holding (thn (ho pins s σ H _ I h) fun ov s1 ⟨x, H1, I1, r1, q1⟩ => ?_))
  refine wpAny_bind (wpAny_holding (thn (hi pins s1 σ H1 _ I1 q1) fun iv s2 ⟨y, H2, I2, r2, q2⟩ => ?_))
  refine wpAny_bind (wpAny_standAt (wpAny_bind (wpAny_holding (thn (hs pins s2 σ H2 x y v ov iv u _ I2 r1 r2 r q2) fun _ s3 ⟨H3, I3, q3⟩ => ?_))))
  exact wpAny_release ⟨σ, H3, I3, q3⟩
/-- target = value -/
def tAsg (te : TE) (g : TG) : TS := fun D σ H => te σ H fun x H1 => g x σ H1 D.nx
theorem ps_asg {tg e : Expr} {te : TE} {g : TG} (he : PE X e te) (hg : PG X tg g) (hs : swapsWithSole [tg] e pos.line X.env = pure false := by rfl) (hw : swappedStores [tg] e X.env = pure none := by rfl)
    (h1 : (assignEach [tg] X.env).map (·.2) = [assign tg X.env] := by rfl) : PS X (.Assign [tg] e pos) (tAsg te g) := by
  intro pins s σ H D I h
  refine wpAny_Assign_stores (thn (he pins s σ H _ I h) fun v s1 ⟨x, H1, I1, r1, q1⟩ => ?_) hs hw
  rw [h1]
  exact thn (hg pins s1 σ H1 x v _ I1 r1 q1) fun _ s2 q => q
/-- name = value -/
theorem ps_set {i : Nat} {x : Str} {e : Expr} {te : TE} {pos' : Pos} (hN : X.N.Nodup) (hi : X.N[i]? = some x) (hx : Loc X.env.scope x) (he : PE X e te) (hs : swapsWith e (some (.Name x pos')) pos.line X.env = pure false := by rfl) (hf : X.fn x = true ∨ X.env.scope.names.lookup x = some .local := by first | exact .inl rfl | exact .inr rfl | assumption) :
    PS X (.Assign [.Name x pos'] e pos) (tAsg te (gName i)) := by
  intro pins s σ H D I h
  refine wpAny_Assign_Name (thn (he pins s σ H _ I h) fun v s1 ⟨y, H1, I1, r1, q1⟩ => ?_) hs
  exact store_ok I1 hN hi hx r1 (fun s2 I2 => ⟨_, H1, I2, q1⟩) hf
end

/-! ### while -/
section
variable {X : Cx} {pos : Pos}
/-- the invariant W with its measure -/
def tWhile (c : TT) (tb : TS) : TS := fun D σ H => ∃ W : Nat → St → Hp → Prop, (∃ m, W m σ H) ∧ ∀ m σ H, W m σ H →
  c σ H fun b H1 => if b = true then ∃ N : St → Hp → Prop, (∀ σ' H', N σ' H' → ∃ m', m' < m ∧ W m' σ' H') ∧ tb { D with nx := N, ct := N, bk := D.nx } σ H1 else D.nx σ H1
theorem ps_while {c : Expr} {body : List Stmt} {tc : TT} {tb : TS} (hp : PassesOwn (model X.prog X.w) X.A X.env X.xe) (hc : PT X c tc) (hb : PSs X body tb) : PS X (.While c body [] pos) (tWhile tc tb) := by
  intro pins s σ H D I h
  obtain ⟨W, ⟨m0, w0⟩, turn⟩ := h
  refine wpAny_While (codeAny_whileLoop (fun n s' => ∃ σ' H', Inv X pins σ' H' s' ∧ W n σ' H') ?_ m0 ⟨σ, H, I, w0⟩)
  rintro n s1 ⟨σ1, H1, I1, w1⟩
  refine wpAny_passesOwn hp (thn (hc pins s1 σ1 H1 _ I1 (turn n σ1 H1 w1)) fun b s2 ⟨H2, I2, q2⟩ => ?_)
  cases b with
  | true =>
    obtain ⟨N, hN, q2⟩ := q2
    rw [if_pos rfl]
    refine wpAny_passesOwn hp (thn (hb pins s2 σ1 H2 _ I2 q2) fun f s3 q3 => ?_)
    cases f with
    | next =>
      obtain ⟨σ3, H3, I3, n3⟩ := q3
      obtain ⟨m', hm, w3⟩ := hN σ3 H3 n3
      exact ⟨m', hm, σ3, H3, I3, w3⟩
    | cont =>
      obtain ⟨σ3, H3, I3, n3⟩ := q3
      obtain ⟨m', hm, w3⟩ := hN σ3 H3 n3
      exact ⟨m', hm, σ3, H3, I3, w3⟩
    | brk => exact q3
    | ret v => exact q3
  | false =>
    rw [if_neg Bool.false_ne_true]
    exact wpAny_execs_nil ⟨σ1, H2, I2, q2⟩
end

/-! ### what a loop or a comprehension walks -/
/-- at turn i: it yields x (the heap may grow), or it stops -/
structure It where
  go : Nat → Hp → Prop
  yld : Nat → Hp → V → Hp → Prop
  stop : Nat → Hp → Prop
/-- the iterator's own objects may turn: they are not the frame's, not pinned, younger than the entry (or a comprehension's own) -/
def FpOk (X : Cx) (pins : List (Addr × Obj)) (H : Hp) (b : Addr) : Prop :=
  H b = none ∧ b ≠ X.env.locals ∧ b ∉ X.fs ∧ (b ∈ X.ex ∨ X.s₀.heap.objs.size ≤ b) ∧ (∀ x c, X.env.cells.lookup x = some c → c ≠ b) ∧ ∀ p ∈ X.pn ++ pins, p.1 ≠ b
theorem Inv.fpOk {X : Cx} {pins : List (Addr × Obj)} {σ : St} {H H' : Hp} {s : Shared} {b : Addr} (I : Inv X pins σ H s) (hb : s.heap.objs.size ≤ b) (hn : H' b = none) : FpOk X pins H' b := by
  refine ⟨hn, Nat.ne_of_gt (Nat.lt_of_lt_of_le I.lt hb), I.nofs hb, .inr (Nat.le_trans I.sz hb), fun x c e z => ?_, fun p hp z => ?_⟩
  · obtain ⟨v, q⟩ := I.cell x c e
    exact absurd (Nat.lt_of_lt_of_le q.lt (by rw [z]; exact hb)) (Nat.lt_irrefl _)
  · exact absurd (Nat.lt_of_lt_of_le (Heap.lt_size (I.pin p hp).1) (by rw [z]; exact hb)) (Nat.lt_irrefl _)
structure Turn (P : Program) (w : World) (K : PySem.W.Frag) (tg : Expr) (J : It) (fp : List Addr) (it : Addr) (tn : Nat → Heap → Prop) : Prop where
  mem : it ∈ fp
  obj : ∀ i h, tn i h → ∀ b ∈ fp, ∃ o, h.get? b = some o ∧ ∀ v, o.data ≠ .cell v
  keep : ∀ i h h', tn i h → (∀ b ∈ fp, ∀ o, h.get? b = some o → h'.get? b = some o) → tn i h'
  item : ∀ (X : Cx), X.prog = P → X.w = w → X.K = K → X.calm = true → ∀ (i : Nat) (pins : List (Addr × Obj)) (s : Shared) (σ : St) (H : Hp) (E : Value → Shared → Prop), Inv X pins σ H s → (∀ b ∈ fp, FpOk X pins H b) → tn i s.heap → J.go i H →
    wpAny (model P w) X.A (pyNext (.ref it)) (fun r s1 => ∃ u, r = some u ∧
      wpAny (model P w) X.A (letOwnedTupleGo tg (.ref it) u) (fun _ s2 => ∃ x H', Inv X pins σ H' s2 ∧ RelV x u ∧ J.yld i H x H' ∧ tn (i + 1) s2.heap ∧ ∀ b ∈ fp, H' b = none) E s1) E s
  done : ∀ (X : Cx), X.prog = P → X.w = w → X.K = K → X.calm = true → ∀ (i : Nat) (pins : List (Addr × Obj)) (s : Shared) (σ : St) (H : Hp) (E : Value → Shared → Prop), Inv X pins σ H s → (∀ b ∈ fp, FpOk X pins H b) → tn i s.heap → J.stop i H →
    wpAny (model P w) X.A (pyNext (.ref it)) (fun r s1 => r = none ∧ Inv X pins σ H s1) E s
  self : ∀ (A : Around) (i : Nat) (s : Shared) (Q : Value → Shared → Prop) (E : Value → Shared → Prop), tn i s.heap → Q (.ref it) s → wpAny (model P w) A (pyIter (.ref it)) Q E s
abbrev TI := St → Hp → (It → Hp → Prop) → Prop
/-- an iterator has come -/
def PIE (X : Cx) (pins : List (Addr × Obj)) (σ : St) (tg : Expr) (R : It → Hp → Prop) (itv : Value) (s2 : Shared) : Prop :=
  ∃ (it : Addr) (fp : List Addr) (tn : Nat → Heap → Prop) (J : It) (H' : Hp), itv = .ref it ∧ Inv X pins σ H' s2 ∧ Turn X.prog X.w X.K tg J fp it tn ∧ tn 0 s2.heap ∧ (∀ b ∈ fp, FpOk X pins H' b) ∧ R J H'
def PI (X : Cx) (tg iter : Expr) (wi : TI) : Prop :=
  ∀ (pins : List (Addr × Obj)) (s : Shared) (σ : St) (H : Hp) (R : It → Hp → Prop), Inv X pins σ H s → wi σ H R →
    wpAny (model X.prog X.w) X.A (eval iter X.env) (fun v s1 => wpAny (model X.prog X.w) X.A (pyIter v) (PIE X pins σ tg R) X.xe s1) X.xe s

/-- the step ahead of the store is nothing for an iterator that keeps no tuple -/
theorem go_of {M : Model} {A : Around} {E : Value → Shared → Prop} {s : Shared} {tg : Expr} {it : Addr} {u : Value} {o : Obj} {n : String} {vs : Array Value} {Q : Unit → Shared → Prop} (ho : s.heap.get? it = some o) (hc : o.cls = .type n) (hd : o.data = .fields vs)
    (hn : ["enumerate", "zip", "dict_itemiterator", "dict_reverseitemiterator", "odict_iterator", "itertools.zip_longest", "itertools.pairwise"].contains n = false) (hQ : Q () s) : wpAny M A (letOwnedTupleGo tg (.ref it) u) Q E s := by
  unfold letOwnedTupleGo
  cases tg <;> first
    | exact wpAny_pure hQ
    | (cases u <;> first
        | exact wpAny_pure hQ
        | (refine wpAny_bind (wpAny_load ho ?_)
           rw [hc, hd]
           show wpAny M A (if (["enumerate", "zip", "dict_itemiterator", "dict_reverseitemiterator", "odict_iterator", "itertools.zip_longest", "itertools.pairwise"].contains n && vs[0]? == some (rawInt _)) = true then _ else _) Q E s
           rw [if_neg (by intro h; rw [hn, Bool.false_and] at h; cases h)]
           exact wpAny_pure hQ))

/-- the list at a, as it stands at each turn (a loop may append to it) -/
def Itl (K : PySem.W.Frag) (a : Addr) : It :=
  ⟨fun i H => ∃ xs x, SqL K H a xs ∧ xs[i]? = some x, fun i H x H' => H' = H ∧ ∀ xs, SqL K H a xs → xs[i]? = some x, fun i H => ∃ xs, SqL K H a xs ∧ xs.length ≤ i⟩
/-- lo, lo + 1, .. (n of them) -/
def Itr (lo : Int) (n : Nat) : It := ⟨fun i _ => i < n, fun i H x H' => H' = H ∧ x = .int (lo + i), fun i _ => n ≤ i⟩
theorem turn_list {P : Program} {w : World} {K : PySem.W.Frag} {tg : Expr} (a it : Addr) : Turn P w K tg (Itl K a) [it] it (fun i h => h.IsListIter it a i) where
  mem := by simp
  obj := fun i h st b hb => by
    have e : b = it := by simpa using hb
    subst e
    obtain ⟨o, e, c, d⟩ := st
    exact ⟨o, e, fun v z => by rw [d] at z; cases z⟩
  keep := fun i h h' st k => st.at fun o e => k it (by simp) o e
  item := by
    intro X hP hw hK hc i pins s σ H E I hf st hg
    subst hP hw hK
    obtain ⟨xs, x, hq, hx⟩ := hg
    obtain ⟨its, rv, p, hz⟩ := I.list hq
    obtain ⟨u, hu, ru⟩ := rv.get hx
    obtain ⟨f0, f1, f2, f3, f4, f5⟩ := hf it (by simp)
    refine wpAny_pyNext_list_item st p.isList (x := u) (by simpa using hu) fun h' st' sb => ?_
    have I1 : Inv X pins σ H { s with heap := h' } := I.turned (t' := s.toks) (fun b o hb e => (sb.2 b hb).trans e) f0 f1 f3 f4 f5
    obtain ⟨o, e, c, d⟩ := id st'
    exact ⟨u, rfl, go_of (s := { s with heap := h' }) e c d (by decide) ⟨x, H, I1, ru, ⟨rfl, fun ys hy => by rw [I.list_inj hy hq]; exact hx⟩, st', fun b hb => (hf b hb).1⟩⟩
  done := by
    intro X hP hw hK hc i pins s σ H E I hf st hg
    subst hP hw hK
    obtain ⟨xs, hq, hx⟩ := hg
    obtain ⟨its, rv, p, hz⟩ := I.list hq
    obtain ⟨f0, f1, f2, f3, f4, f5⟩ := hf it (by simp)
    have hl := rv.length
    exact wpAny_pyNext_list_end (I.ok.hd hc) st p.isList (by simp; omega) fun h' eb => ⟨rfl, I.turned (t' := s.toks) (fun b o hb e => eb b o hb e) f0 f1 f3 f4 f5⟩
  self := fun _ _ _ _ _ st h => wpAny_pyIter_listiter st h
theorem turn_range {P : Program} {w : World} {K : PySem.W.Frag} {tg : Expr} (it : Addr) (lo : Int) (n : Nat) : Turn P w K tg (Itr lo n) [it] it (fun i h => IsRangeIter h it (lo + (i : Nat) * 1) ((n : Int) - (i : Nat)) 1) where
  mem := by simp
  obj := fun i h st b hb => by
    have e : b = it := by simpa using hb
    subst e
    exact ⟨_, st, fun v z => by
      have z' : Data.fields _ = Data.cell v := z
      cases z'⟩
  keep := fun i h h' st k => k it (by simp) _ st
  item := by
    intro X hP hw hK hc i pins s σ H E I hf st hg
    subst hP hw hK
    obtain ⟨f0, f1, f2, f3, f4, f5⟩ := hf it (by simp)
    have W := Walks.range (prog := X.prog) (w := X.w) (I.ok.hd hc) it lo 1 n
    refine W.item i s _ _ hg st fun v h' tk hv st' kk => ?_
    obtain ⟨t, rfl⟩ := hv
    have I1 : Inv X pins σ H { s with heap := h', toks := tk } := I.turned (fun b o hb e => kk b o (by simpa using hb) e) f0 f1 f3 f4 f5
    refine ⟨_, rfl, go_of (s := { s with heap := h', toks := tk }) (n := "range_iterator") st' rfl rfl (by decide) ⟨.int (lo + i), H, I1, ⟨t, ?_⟩, ⟨rfl, rfl⟩, st', fun b hb => (hf b hb).1⟩⟩
    rw [Int.mul_one]
  done := by
    intro X hP hw hK hc i pins s σ H E I hf st hg
    subst hP hw hK
    obtain ⟨f0, f1, f2, f3, f4, f5⟩ := hf it (by simp)
    exact wpAny_pyNext_range_end (I.ok.hd hc) st (by have : n ≤ i := hg; omega) fun h' eb => ⟨rfl, I.turned (t' := s.toks) (fun b o hb e => eb b o hb e) f0 f1 f3 f4 f5⟩
  self := fun _ _ _ _ _ st h => wpAny_pyIter_rangeiter st h
end L2

namespace L2
open PySem PySem.Spec PyProof.Rows
section
variable {X : Cx} {tg : Expr}
def iList (K : PySem.W.Frag) (tl : TE) : TI := fun σ H R => tl σ H fun x H1 => ∃ a, x = .ref a ∧ (∃ xs, SqL K H1 a xs) ∧ R (Itl K a) H1
theorem pi_list {l : Expr} {tl : TE} (hl : PE X l tl) : PI X tg l (iList X.K tl) := by
  intro pins s σ H R I h
  refine thn (hl pins s σ H _ I h) fun v s1 ⟨x, H1, I1, r1, q1⟩ => ?_
  obtain ⟨a, e, ⟨xs, hq⟩, q⟩ := q1
  subst e
  cases r1
  obtain ⟨its, rv, p, hz⟩ := I1.list hq
  refine wpAny_pyIter_list p.isList ?_
  refine ⟨s1.heap.objs.size, [s1.heap.objs.size], _, _, H1, rfl, I1.kept (t' := s1.toks) fun b o e => Heap.get?_push_of_some _ e, turn_list a _, ⟨_, Heap.get?_push_size _ rfl, rfl, rfl⟩, fun b hb => ?_, q⟩
  have e : b = s1.heap.objs.size := by simpa using hb
  subst e
  exact I1.fpOk (Nat.le_refl _) (I1.hok.fresh (Nat.le_refl _))
/-- a range object just made, walked -/
theorem range_it {pins : List (Addr × Obj)} {σ : St} {H : Hp} {s : Shared} {R : It → Hp → Prop} {E : Value → Shared → Prop} {lo hi : Int} {t u v : Tok} {tk : Nat} (I : Inv X pins σ H s) (h1 : -(2 ^ 62) ≤ lo) (h2 : lo < 2 ^ 62) (h3 : -(2 ^ 62) ≤ hi) (h4 : hi < 2 ^ 62)
    (q : R (Itr lo (hi - lo).toNat) H) : wpAny (model X.prog X.w) X.A (pyIter (.ref s.heap.objs.size)) (PIE X pins σ tg R) E { s with heap := s.heap.push { cls := .type "range", data := .fields #[.int lo t, .int hi u, .int 1 v] }, toks := tk } := by
  refine wpAny_pyIter_range (IsRange.new ..) (small_one h1 h2 h3 h4) ?_
  have I1 : Inv X pins σ H { s with heap := s.heap.push { cls := .type "range", data := .fields #[.int lo t, .int hi u, .int 1 v] }, toks := tk } := I.kept fun b o e => Heap.get?_push_of_some _ e
  refine ⟨(s.heap.push { cls := .type "range", data := .fields #[.int lo t, .int hi u, .int 1 v] }).objs.size, [(s.heap.push { cls := .type "range", data := .fields #[.int lo t, .int hi u, .int 1 v] }).objs.size], _, _, H, rfl,
    I1.kept (t' := tk) fun b o e => Heap.get?_push_of_some _ e, turn_range _ lo (hi - lo).toNat, ?_, fun b hb => ?_, q⟩
  · have e1 : lo + ((0 : Nat) : Int) * 1 = lo := by simp
    have e2 : (((hi - lo).toNat : Nat) : Int) - ((0 : Nat) : Int) = Builtin.Range.rangeSize lo hi 1 := by rw [rangeSize_one]; split <;> omega
    show IsRangeIter _ _ (lo + ((0 : Nat) : Int) * 1) ((((hi - lo).toNat : Nat) : Int) - ((0 : Nat) : Int)) 1
    rw [e1, e2]
    exact Heap.get?_push_size _ rfl
  · have e : b = (s.heap.push { cls := .type "range", data := .fields #[.int lo t, .int hi u, .int 1 v] }).objs.size := by simpa using hb
    subst e
    exact I1.fpOk (Nat.le_refl _) (I1.hok.fresh (Nat.le_refl _))
def iRng1 (ta : TA) : TI := fun σ H R => ta σ H fun vs H1 => ∃ j : Int, vs = [.int j] ∧ -(2 ^ 62) ≤ j ∧ j < 2 ^ 62 ∧ R (Itr 0 j.toNat) H1
def iRng2 (ta : TA) : TI := fun σ H R => ta σ H fun vs H1 => ∃ i j : Int, vs = [.int i, .int j] ∧ (-(2 ^ 62) ≤ i ∧ i < 2 ^ 62 ∧ -(2 ^ 62) ≤ j ∧ j < 2 ^ 62) ∧ R (Itr i (j - i).toNat) H1
theorem pi_range1 {a : Expr} {ta : TA} {p pos : Pos} (hg : Gl X "range") (hm : X.mg "range" = none) (ha : PA X [a] ta) (hs : starEach [a] X.env = [(false, eval a X.env)] := by rfl) : PI X tg (.Call (.Name "range" p) [a] [] pos) (iRng1 ta) := by
  intro pins s σ H R I h
  refine Call_ (ld_blt I hg hm boot_range (PyProof.Rows.callWith_type1 (thn (ha pos pins s σ H _ I h) fun us s1 ⟨vs, H1, I1, r1, q1⟩ => ?_) hs rfl))
  obtain ⟨j, e, q1, q2, q⟩ := q1
  subst e
  cases r1 with
  | cons r rr =>
    cases rr
    obtain ⟨t, rfl⟩ := r
    exact call_range_1 (range_it I1 (by omega) (by omega) q1 q2 (by simpa using q))
theorem pi_range2 {a b : Expr} {ta : TA} {p pos : Pos} (hg : Gl X "range") (hm : X.mg "range" = none) (ha : PA X [a, b] ta) (hs : starEach [a, b] X.env = [(false, eval a X.env), (false, eval b X.env)] := by rfl) (hs2 : starEach [b] X.env = [(false, eval b X.env)] := by rfl) :
    PI X tg (.Call (.Name "range" p) [a, b] [] pos) (iRng2 ta) := by
  intro pins s σ H R I h
  refine Call_ (ld_blt I hg hm boot_range (PyProof.Rows.callWith_type1 (thn (ha pos pins s σ H _ I h) fun us s1 ⟨vs, H1, I1, r1, q1⟩ => ?_) (by rw [hs, hs2]) (by rw [hs2]; rfl)))
  obtain ⟨i, j, e, ⟨q1, q2, q3, q4⟩, q⟩ := q1
  subst e
  cases r1 with
  | cons r rr =>
    cases rr with
    | cons r' rr =>
      cases rr
      obtain ⟨t, rfl⟩ := r
      obtain ⟨t', rfl⟩ := r'
      exact call_range_2 (range_it I1 q1 q2 q3 q4 q)

/-! ### for -/
/-- W: the invariant by the turn and a measure; N: what the body is to reach -/
def tFor (wi : TI) (g : TG) (tb : TS) : TS := fun D σ H => wi σ H fun J H1 => ∃ W : Nat → Nat → St → Hp → Prop, (∃ m, W 0 m σ H1) ∧ ∀ i m σ H, W i m σ H →
  (J.stop i H ∧ D.nx σ H) ∨ (J.go i H ∧ ∃ N : St → Hp → Prop, (∀ σ' H', N σ' H' → ∃ m', m' < m ∧ W (i + 1) m' σ' H') ∧ ∀ x H', J.yld i H x H' → g x σ H' fun σ2 H2 => tb { D with nx := N, ct := N, bk := D.nx } σ2 H2)
/-- the records at fp as they stand -/
def pinsAt (fp : List Addr) (h : Heap) : List (Addr × Obj) := fp.filterMap fun b => (h.get? b).map fun o => (b, o)
theorem mem_pinsAt {fp : List Addr} {h : Heap} {b : Addr} {o : Obj} (hb : b ∈ fp) (e : h.get? b = some o) : (b, o) ∈ pinsAt fp h := List.mem_filterMap.mpr ⟨b, hb, by rw [e]; rfl⟩
theorem of_pinsAt {fp : List Addr} {h : Heap} {p : Addr × Obj} (hp : p ∈ pinsAt fp h) : p.1 ∈ fp ∧ h.get? p.1 = some p.2 := by
  obtain ⟨b, hb, e⟩ := List.mem_filterMap.mp hp
  cases q : h.get? b with
  | none => rw [q] at e; cases e
  | some o =>
    rw [q] at e
    have e' : (b, o) = p := Option.some.inj e
    subst e'
    exact ⟨hb, q⟩
theorem Inv.pinned {pins : List (Addr × Obj)} {σ : St} {H : Hp} {s : Shared} {fp : List Addr} (I : Inv X pins σ H s) (hf : ∀ b ∈ fp, FpOk X pins H b) (ho : ∀ b ∈ fp, ∃ o, s.heap.get? b = some o ∧ ∀ v, o.data ≠ .cell v) : Inv X (pins ++ pinsAt fp s.heap) σ H s :=
  I.pins_of fun p hp => (List.mem_append.mp hp).elim (fun z => I.pin p (List.mem_append_right _ z)) fun z => by
    obtain ⟨hb, e⟩ := of_pinsAt z
    obtain ⟨f0, f1, f2, _⟩ := hf p.1 hb
    obtain ⟨o, e', d⟩ := ho p.1 hb
    rw [e] at e'; cases e'
    exact ⟨e, f0, f1, f2, d⟩
theorem Inv.unpinned {pins pl : List (Addr × Obj)} {σ : St} {H : Hp} {s : Shared} (I : Inv X (pins ++ pl) σ H s) : Inv X pins σ H s := I.pins_of fun p hp => I.pin p (List.mem_append_right _ (List.mem_append_left _ hp))
theorem ps_for {iter : Expr} {body : List Stmt} {wi : TI} {g : TG} {tb : TS} {pos : Pos} (hp : PassesOwn (model X.prog X.w) X.A X.env X.xe) (hc : X.calm = true) (hi : PI X tg iter wi) (hg : PG X tg g) (hb : PSs X body tb)
    (hs : ∀ x, foldedSetIterable iter X.env x = pure x := by intro _; rfl) : PS X (.For tg iter body [] pos) (tFor wi g tb) := by
  intro pins s σ H D I h
  refine wpAny_For (thn (hi pins s σ H _ I h) fun v s1 h1 => thn h1 fun itv s2 h2 => ?_) hs
  obtain ⟨it, fp, tn, J, H2, e, I2, T, st2, f2, W, ⟨m0, w0⟩, turn⟩ := h2
  subst e
  -- what stays true of the iterator's objects through the loop
  have stat : ∀ {H' : Hp}, (∀ b ∈ fp, H' b = none) → ∀ b ∈ fp, FpOk X pins H' b := fun hn b hb => ⟨hn b hb, (f2 b hb).2⟩
  refine codeAny_forLoop_any (fun n s' => ∃ i σ' H', Inv X pins σ' H' s' ∧ tn i s'.heap ∧ (∀ b ∈ fp, H' b = none) ∧ W i n σ' H') ?_ m0 ⟨0, σ, H2, I2, st2, fun b hb => (f2 b hb).1, w0⟩
  rintro n s3 ⟨i, σ3, H3, I3, st3, fr3, w3⟩
  rcases turn i n σ3 H3 w3 with ⟨stop, qn⟩ | ⟨go, N, hN, step⟩
  · refine wpAny_passesOwn hp (thn (T.done X rfl rfl rfl hc i pins s3 σ3 H3 X.xe I3 (stat fr3) st3 stop) fun r s4 ⟨hr, I4⟩ => ?_)
    subst hr
    exact wpAny_execs_nil ⟨σ3, H3, I4, qn⟩
  · refine wpAny_passesOwn hp (thn (T.item X rfl rfl rfl hc i pins s3 σ3 H3 X.xe I3 (stat fr3) st3 go) fun r s4 ⟨u, hr, h4⟩ => ?_)
    subst hr
    refine wpAny_passesOwn hp (thn h4 fun _ s5 ⟨x, H5, I5, r5, y5, st5, fr5⟩ => ?_)
    have I5' := I5.pinned (stat fr5) (T.obj _ _ st5)
    refine wpAny_passesOwn hp (thn (hg _ s5 σ3 H5 x u _ I5' r5 (step x H5 y5)) fun _ s6 ⟨σ6, H6, I6, q6⟩ => ?_)
    refine wpAny_passesOwn hp (thn (hb _ s6 σ6 H6 _ I6 q6) fun f s7 q7 => ?_)
    have again : ∀ {σ7 : St} {H7 : Hp}, Inv X (pins ++ pinsAt fp s5.heap) σ7 H7 s7 → N σ7 H7 → ∃ m, m < n ∧ ∃ i σ' H', Inv X pins σ' H' s7 ∧ tn i s7.heap ∧ (∀ b ∈ fp, H' b = none) ∧ W i m σ' H' := fun {σ7 H7} I7 n7 => by
      obtain ⟨m', hm, w7⟩ := hN σ7 H7 n7
      refine ⟨m', hm, i + 1, σ7, H7, I7.unpinned, T.keep _ _ _ st5 fun b hb o e => (I7.pin (b, o) (List.mem_append_right _ (List.mem_append_right _ (mem_pinsAt hb e)))).1, fun b hb => ?_, w7⟩
      obtain ⟨o, e, d⟩ := T.obj _ _ st5 b hb
      exact (I7.pin (b, o) (List.mem_append_right _ (List.mem_append_right _ (mem_pinsAt hb e)))).2.1
    cases f with
    | next => obtain ⟨σ7, H7, I7, n7⟩ := q7; exact again I7 n7
    | cont => obtain ⟨σ7, H7, I7, n7⟩ := q7; exact again I7 n7
    | brk => obtain ⟨σ7, H7, I7, q7⟩ := q7; exact ⟨σ7, H7, I7.unpinned, q7⟩
    | ret v => obtain ⟨x7, σ7, H7, I7, r7, q7⟩ := q7; exact ⟨x7, σ7, H7, I7.unpinned, r7, q7⟩
end

/-! ### the forms one uses -/
/-- over a list that the body leaves as it is -/
theorem for_list {K : PySem.W.Frag} {a : Addr} {xs : List V} {g : TG} {tb : TS} {D : Ends} {σ : St} {H : Hp} (Pv : Nat → St → Hp → Prop) (h0 : Pv 0 σ H) (hl : ∀ i σ H, i ≤ xs.length → Pv i σ H → SqL K H a xs)
    (hs : ∀ i x σ H, xs[i]? = some x → Pv i σ H → g x σ H fun σ2 H2 => tb { D with nx := Pv (i + 1), ct := Pv (i + 1), bk := D.nx } σ2 H2) (hd : ∀ σ H, Pv xs.length σ H → D.nx σ H) :
    ∃ W : Nat → Nat → St → Hp → Prop, (∃ m, W 0 m σ H) ∧ ∀ i m σ H, W i m σ H →
      ((Itl K a).stop i H ∧ D.nx σ H) ∨ ((Itl K a).go i H ∧ ∃ N : St → Hp → Prop, (∀ σ' H', N σ' H' → ∃ m', m' < m ∧ W (i + 1) m' σ' H') ∧ ∀ x H', (Itl K a).yld i H x H' → g x σ H' fun σ2 H2 => tb { D with nx := N, ct := N, bk := D.nx } σ2 H2) := by
  refine ⟨fun i m σ H => m = xs.length - i ∧ i ≤ xs.length ∧ Pv i σ H, ⟨xs.length, by simp, Nat.zero_le _, h0⟩, ?_⟩
  rintro i m σ H ⟨rfl, hi, p⟩
  have q := hl i σ H hi p
  by_cases hlt : i < xs.length
  · refine .inr ⟨⟨xs, xs[i], q, by simp [hlt]⟩, Pv (i + 1), fun σ' H' p' => ⟨xs.length - (i + 1), by omega, rfl, hlt, p'⟩, fun x H' y => ?_⟩
    obtain ⟨e, y⟩ := y
    subst e
    exact hs i x σ _ (y xs q) p
  · have e : i = xs.length := by omega
    subst e
    exact .inl ⟨⟨xs, q, Nat.le_refl _⟩, hd σ H p⟩
theorem for_range {lo : Int} {n : Nat} {g : TG} {tb : TS} {D : Ends} {σ : St} {H : Hp} (Pv : Nat → St → Hp → Prop) (h0 : Pv 0 σ H)
    (hs : ∀ i σ H, i < n → Pv i σ H → g (.int (lo + i)) σ H fun σ2 H2 => tb { D with nx := Pv (i + 1), ct := Pv (i + 1), bk := D.nx } σ2 H2) (hd : ∀ σ H, Pv n σ H → D.nx σ H) :
    ∃ W : Nat → Nat → St → Hp → Prop, (∃ m, W 0 m σ H) ∧ ∀ i m σ H, W i m σ H →
      ((Itr lo n).stop i H ∧ D.nx σ H) ∨ ((Itr lo n).go i H ∧ ∃ N : St → Hp → Prop, (∀ σ' H', N σ' H' → ∃ m', m' < m ∧ W (i + 1) m' σ' H') ∧ ∀ x H', (Itr lo n).yld i H x H' → g x σ H' fun σ2 H2 => tb { D with nx := N, ct := N, bk := D.nx } σ2 H2) := by
  refine ⟨fun i m σ H => m = n - i ∧ i ≤ n ∧ Pv i σ H, ⟨n, by simp, Nat.zero_le _, h0⟩, ?_⟩
  rintro i m σ H ⟨rfl, hi, p⟩
  by_cases hlt : i < n
  · refine .inr ⟨hlt, Pv (i + 1), fun σ' H' p' => ⟨n - (i + 1), by omega, rfl, hlt, p'⟩, fun x H' y => ?_⟩
    obtain ⟨e, y⟩ := y
    subst e y
    exact hs i σ _ hlt p
  · have e : i = n := by omega
    subst e
    exact .inl ⟨Nat.le_refl _, hd σ H p⟩
/-- while, by a word and a measure of the state -/
theorem while_by {c : TT} {tb : TS} {D : Ends} {σ : St} {H : Hp} (Pv : St → Hp → Prop) (μ : St → Hp → Nat) (h0 : Pv σ H)
    (hs : ∀ σ H, Pv σ H → c σ H fun b H1 => if b = true then tb { D with nx := fun σ' H' => Pv σ' H' ∧ μ σ' H' < μ σ H, ct := fun σ' H' => Pv σ' H' ∧ μ σ' H' < μ σ H, bk := D.nx } σ H1 else D.nx σ H1)
    (mono : ∀ σ H Q Q', (∀ b H1, Q b H1 → Q' b H1) → c σ H Q → c σ H Q') : tWhile c tb D σ H := by
  refine ⟨fun m σ H => m = μ σ H ∧ Pv σ H, ⟨_, rfl, h0⟩, ?_⟩
  rintro m σ H ⟨rfl, p⟩
  refine mono σ H _ _ (fun b H1 q => ?_) (hs σ H p)
  cases b with
  | true => exact ⟨_, fun σ' H' ⟨p', l⟩ => ⟨_, l, rfl, p'⟩, q⟩
  | false => exact q
end L2

namespace L2
open PySem PySem.Spec PyProof.Rows

abbrev R2 := V → V → Hp → VK → Prop
/-- a two-place operation on values: f is binaryOp op, inplaceOp op or compareOp op -/
def OpR (X : Cx) (f : Value → Value → Sem Value) (r : R2) : Prop :=
  ∀ (pins : List (Addr × Obj)) (s : Shared) (σ : St) (H : Hp) (x y : V) (v u : Value) (Q : VK), Inv X pins σ H s → RelV x v → RelV y u → r x y H Q →
    wpAny (model X.prog X.w) X.A (f v u) (EP X pins σ Q) X.xe s
/-- a one-place operation -/
def UnR (X : Cx) (f : Value → Sem Value) (r : V → Hp → VK → Prop) : Prop :=
  ∀ (pins : List (Addr × Obj)) (s : Shared) (σ : St) (H : Hp) (x : V) (v : Value) (Q : VK), Inv X pins σ H s → RelV x v → r x H Q →
    wpAny (model X.prog X.w) X.A (f v) (EP X pins σ Q) X.xe s
/-- a call of a value that is known (a builtin, a type) with values -/
def CallR (X : Cx) (f : Value) (r : List V → Hp → VK → Prop) : Prop :=
  ∀ (pins : List (Addr × Obj)) (s : Shared) (σ : St) (H : Hp) (xs : List V) (us : List Value) (Q : VK), Inv X pins σ H s → Vals xs us → r xs H Q →
    wpAny (model X.prog X.w) X.A (call f us) (EP X pins σ Q) X.xe s

def tOp (r : R2) (ta tb : TE) : TE := fun σ H Q => ta σ H fun x H1 => tb σ H1 fun y H2 => r x y H2 Q
def tUn (r : V → Hp → VK → Prop) (ta : TE) : TE := fun σ H Q => ta σ H fun x H1 => r x H1 Q
/-- ints in, under C, and a value out -/
def rI (C : Int → Int → Prop) (g : Int → Int → V) : R2 := fun x y H Q => ∃ i j, x = .int i ∧ y = .int j ∧ C i j ∧ Q (g i j) H
def rI0 (g : Int → Int → V) : R2 := fun x y H Q => ∃ i j, x = .int i ∧ y = .int j ∧ Q (g i j) H
def rU (g : Int → V) : V → Hp → VK → Prop := fun x H Q => ∃ i, x = .int i ∧ Q (g i) H

section
variable {X : Cx} {a b c : Expr} {ta tb tc : TE} {pos : Pos}

theorem binT (ha : PE X a ta) (hb : PE X b tb) {pins : List (Addr × Obj)} {s : Shared} {σ : St} {H : Hp} {R : V → V → Hp → Prop} (I : Inv X pins σ H s)
    (h : ta σ H fun x H1 => tb σ H1 fun y H2 => R x y H2) {Q : Value → Shared → Prop} {f : Value → Value → Sem Value}
    (hf : ∀ v u s2 x y H2, Inv X pins σ H2 s2 → RelV x v → RelV y u → R x y H2 → wpAny (model X.prog X.w) X.A (f v u) Q X.xe s2) :
    wpAny (model X.prog X.w) X.A (eval a X.env) (fun v s₁ => wpAny (model X.prog X.w) X.A (eval b X.env) (fun u s₂ => wpAny (model X.prog X.w) X.A (f v u) Q X.xe s₂) X.xe s₁) X.xe s := by
  refine thn (ha pins s σ H _ I h) fun v s1 ⟨x, H1, I1, r1, q1⟩ => ?_
  refine thn (hb pins s1 σ H1 _ I1 q1) fun u s2 ⟨y, H2, I2, r2, q2⟩ => ?_
  exact hf v u s2 x y H2 I2 r1 r2 q2

theorem pe_op {op : Operator} {r : R2} (ho : OpR X (binaryOp op) r) (ha : PE X a ta) (hb : PE X b tb) : PE X (.BinOp a op b pos) (tOp r ta tb) := by
  intro pins s σ H Q I h
  exact wpAny_BinOp (binT ha hb I h fun v u s2 x y H2 I2 rx ry q => ho pins s2 σ H2 x y v u Q I2 rx ry q)
theorem pe_un {op : UnaryOp} {r : V → Hp → VK → Prop} (ho : UnR X (unaryOp op) r) (ha : PE X a ta) : PE X (.UnaryOp op a pos) (tUn r ta) := by
  intro pins s σ H Q I h
  exact UnaryOp_ (thn (ha pins s σ H _ I h) fun v s1 ⟨x, H1, I1, r1, q1⟩ => ho pins s1 σ H1 x v Q I1 r1 q1)

/-! ### ints -/
theorem opI {f : Value → Value → Sem Value} {C : Int → Int → Prop} {g : Int → Int → Int}
    (rule : ∀ (i j : Int) (t u : Tok) (s : Shared) (Q : Value → Shared → Prop) (E : Value → Shared → Prop), C i j → Q (.int (g i j) s.toks) { s with toks := s.toks + 1 } → wpAny (model X.prog X.w) X.A (f (.int i t) (.int j u)) Q E s) :
    OpR X f (rI C fun i j => .int (g i j)) := by
  intro pins s σ H x y v u Q I rx ry h
  obtain ⟨i, j, rfl, rfl, hc, q⟩ := h
  obtain ⟨t, rfl⟩ := rx
  obtain ⟨t', rfl⟩ := ry
  exact rule i j t t' s _ _ hc ⟨.int (g i j), H, I.tok _, ⟨_, rfl⟩, q⟩
theorem opI0 {f : Value → Value → Sem Value} {g : Int → Int → Int}
    (rule : ∀ (i j : Int) (t u : Tok) (s : Shared) (Q : Value → Shared → Prop) (E : Value → Shared → Prop), Q (.int (g i j) s.toks) { s with toks := s.toks + 1 } → wpAny (model X.prog X.w) X.A (f (.int i t) (.int j u)) Q E s) :
    OpR X f (rI0 fun i j => .int (g i j)) := by
  intro pins s σ H x y v u Q I rx ry h
  obtain ⟨i, j, rfl, rfl, q⟩ := h
  obtain ⟨t, rfl⟩ := rx
  obtain ⟨t', rfl⟩ := ry
  exact rule i j t t' s _ _ ⟨.int (g i j), H, I.tok _, ⟨_, rfl⟩, q⟩
theorem opB0 {f : Value → Value → Sem Value} {g : Int → Int → Bool}
    (rule : ∀ (i j : Int) (t u : Tok) (s : Shared) (Q : Value → Shared → Prop) (E : Value → Shared → Prop), Q (.bool (g i j)) s → wpAny (model X.prog X.w) X.A (f (.int i t) (.int j u)) Q E s) :
    OpR X f (rI0 fun i j => .bl (g i j)) := by
  intro pins s σ H x y v u Q I rx ry h
  obtain ⟨i, j, rfl, rfl, q⟩ := h
  obtain ⟨t, rfl⟩ := rx
  obtain ⟨t', rfl⟩ := ry
  exact rule i j t t' s _ _ ⟨.bl (g i j), H, I, rfl, q⟩

def CDiv (i j : Int) : Prop := 0 < j ∧ j < 1073741824
def CPow (i j : Int) : Prop := 0 ≤ j ∧ j ≤ 1000000 ∧ i.natAbs < 2 ^ 64
def CMul (i j : Int) : Prop := (-(2 ^ 64) < i ∧ i < 2 ^ 64) ∨ (-(2 ^ 64) < j ∧ j < 2 ^ 64)
theorem CMul.ok {i j : Int} (h : CMul i j) : IntMulOk i j := by
  rcases h with ⟨h1, h2⟩ | ⟨h1, h2⟩
  · exact .of_left (intBits_le_64 h1 h2)
  · exact .of_right (intBits_le_64 h1 h2)
theorem two_pow_nn (k : Nat) : (0 : Int) ≤ 2 ^ k := by
  rw [two_pow_cast]
  exact Int.natCast_nonneg _

theorem op_add : OpR X (binaryOp .Add) (rI0 fun i j => .int (i + j)) := opI0 fun _ _ _ _ _ _ _ q => add_int q
theorem op_sub : OpR X (binaryOp .Sub) (rI0 fun i j => .int (i - j)) := opI0 fun _ _ _ _ _ _ _ q => sub_int q
theorem op_mul : OpR X (binaryOp .Mult) (rI CMul fun i j => .int (i * j)) := opI fun _ _ _ _ _ _ _ hc q => mul_int q hc.ok
/-- // by a positive divisor -/
theorem op_fdiv : OpR X (binaryOp .FloorDiv) (rI CDiv fun i j => .int (i / j)) := opI fun i j _ _ _ _ _ hc q => by
  have h1 : (0 : Int) < j := hc.1
  have h2 : j < 1073741824 := hc.2
  exact floordiv_int (by omega) (by rw [Int.fdiv_eq_ediv_of_nonneg i (by omega)]; exact q) (.inl (PyProof.noPylong_small (by omega)))
/-- % by a positive divisor of any size -/
theorem op_mod : OpR X (binaryOp .Mod) (rI (fun _ j => 0 < j) fun i j => .int (i % j)) := opI fun i j _ _ _ _ _ hc q => by
  have h1 : (0 : Int) < j := hc
  exact mod_int' (by omega) (by rw [Int.fmod_eq_emod_of_nonneg i (by omega)]; exact q)
theorem op_pow : OpR X (binaryOp .Pow) (rI CPow fun i j => .int (i ^ j.toNat)) := opI fun _ _ _ _ _ _ _ hc q => pow_int_small hc.1 hc.2.1 hc.2.2 q
theorem op_shl : OpR X (binaryOp .LShift) (rI CPow fun i j => .int (i * 2 ^ j.toNat)) := opI fun _ _ _ _ _ _ _ hc q => lshift_int_small hc.1 hc.2.1 hc.2.2 q
theorem op_shr : OpR X (binaryOp .RShift) (rI (fun _ j => 0 ≤ j) fun i j => .int (i / 2 ^ j.toNat)) := opI fun i j _ _ _ _ _ hc q =>
  rshift_int hc (by rw [Int.fdiv_eq_ediv_of_nonneg i (two_pow_nn _)]; exact q)
theorem op_and : OpR X (binaryOp .BitAnd) (rI0 fun i j => .int (Builtin.bitAnd i j)) := opI0 fun _ _ _ _ _ _ _ q => and_int q
theorem op_or : OpR X (binaryOp .BitOr) (rI0 fun i j => .int (Builtin.bitOr i j)) := opI0 fun _ _ _ _ _ _ _ q => or_int q


theorem unI {f : Value → Sem Value} {g : Int → Int}
    (rule : ∀ (i : Int) (t : Tok) (s : Shared) (Q : Value → Shared → Prop) (E : Value → Shared → Prop), Q (.int (g i) s.toks) { s with toks := s.toks + 1 } → wpAny (model X.prog X.w) X.A (f (.int i t)) Q E s) :
    UnR X f (rU fun i => .int (g i)) := by
  intro pins s σ H x v Q I rx h
  obtain ⟨i, rfl, q⟩ := h
  obtain ⟨t, rfl⟩ := rx
  exact rule i t s _ _ ⟨.int (g i), H, I.tok _, ⟨_, rfl⟩, q⟩
theorem un_neg : UnR X (unaryOp .USub) (rU fun i => .int (-i)) := unI fun _ _ _ _ _ q => neg_int q

/-! ### bools among ints: n += (a < b) -/
end

/-! ### comparisons -/
/-- the scalars that == tells apart as data does -/
def scal : V → V → Bool
  | .non, .non => true | .non, .int _ => true | .int _, .non => true | .non, .bl _ => true | .bl _, .non => true | .non, .str _ => true | .str _, .non => true
  | .int _, .int _ => true | .bl _, .bl _ => true | .str _, .str _ => true | .byt _, .byt _ => true
  | .int _, .str _ => true | .str _, .int _ => true | .bl _, .str _ => true | .str _, .bl _ => true
  | _, _ => false
def rEq : R2 := fun x y H Q => scal x y = true ∧ Q (.bl (decide (x = y))) H
def rNe : R2 := fun x y H Q => scal x y = true ∧ Q (.bl (!decide (x = y))) H

theorem dec_int {i j : Int} : decide (V.int i = V.int j) = (i == j) := by
  rw [Bool.eq_iff_iff]
  simp
theorem dec_bl {i j : Bool} : decide (V.bl i = V.bl j) = (i == j) := by
  rw [Bool.eq_iff_iff]
  simp
theorem dec_str {i j : Str} : decide (V.str i = V.str j) = (i == j) := by
  rw [Bool.eq_iff_iff]
  simp
theorem dec_byt {i j : Array UInt8} : decide (V.byt i = V.byt j) = (i.toList == j.toList) := by
  rw [Bool.eq_iff_iff]
  cases i
  cases j
  simp

section
variable {X : Cx} {a b c : Expr} {ta tb tc : TE} {pos : Pos}
theorem fin_bl {pins : List (Addr × Obj)} {σ : St} {H : Hp} {s : Shared} {Q : VK} {k k' : Bool} (I : Inv X pins σ H s) (q : Q (.bl k) H) (e : k = k') : EP X pins σ Q (.bool k') s := by
  subst e
  exact ⟨.bl k, H, I, rfl, q⟩
theorem op_eq : OpR X (compareOp .Eq) rEq := by
  intro pins s σ H x y v u Q I rx ry h
  obtain ⟨hs, q⟩ := h
  cases x with
  | non =>
    cases rx
    cases y with
    | non => cases ry; exact PySem.EqNone.eq_none_none (fin_bl I q (by simp))
    | bl j => cases ry; exact PySem.EqNone.eq_none_bool (fin_bl I q (by simp))
    | int j => obtain ⟨t', rfl⟩ := ry; exact PySem.EqNone.eq_none_int (fin_bl I q (by simp))
    | str j => obtain ⟨t', rfl⟩ := ry; exact PySem.EqNone.eq_none_str (fin_bl I q (by simp))
    | _ => exact absurd (show false = true from hs) Bool.false_ne_true
  | bl i =>
    cases rx
    cases y with
    | non => cases ry; exact PySem.EqNone.eq_bool_none (fin_bl I q (by simp))
    | bl j => cases ry; exact eq_bool (fin_bl I q dec_bl)
    | str j => obtain ⟨t', rfl⟩ := ry; exact PySem.EqMixed.eq_bool_str (fin_bl I q (by simp))
    | _ => exact absurd (show false = true from hs) Bool.false_ne_true
  | int i =>
    obtain ⟨t, rfl⟩ := rx
    cases y with
    | non => cases ry; exact PySem.EqNone.eq_int_none (fin_bl I q (by simp))
    | int j => obtain ⟨t', rfl⟩ := ry; exact eq_int (fin_bl I q dec_int)
    | str j => obtain ⟨t', rfl⟩ := ry; exact PySem.EqMixed.eq_int_str (fin_bl I q (by simp))
    | _ => exact absurd (show false = true from hs) Bool.false_ne_true
  | str i =>
    obtain ⟨t, rfl⟩ := rx
    cases y with
    | non => cases ry; exact PySem.EqNone.eq_str_none (fin_bl I q (by simp))
    | bl j => cases ry; exact PySem.EqMixed.eq_str_bool (fin_bl I q (by simp))
    | int j => obtain ⟨t', rfl⟩ := ry; exact PySem.EqMixed.eq_str_int (fin_bl I q (by simp))
    | str j => obtain ⟨t', rfl⟩ := ry; exact eq_str (fin_bl I q dec_str)
    | _ => exact absurd (show false = true from hs) Bool.false_ne_true
  | byt i =>
    obtain ⟨t, rfl⟩ := rx
    cases y with
    | byt j => obtain ⟨t', rfl⟩ := ry; exact PySem.W.eq_bytes (fin_bl I q dec_byt)
    | _ => exact absurd (show false = true from hs) Bool.false_ne_true
  | _ => cases y <;> exact absurd (show false = true from hs) Bool.false_ne_true
theorem op_ne : OpR X (compareOp .NotEq) rNe := by
  intro pins s σ H x y v u Q I rx ry h
  obtain ⟨hs, q⟩ := h
  cases x with
  | non =>
    cases rx
    cases y with
    | non => cases ry; exact PySem.EqNone.ne_none_none (fin_bl I q (by simp))
    | bl j => cases ry; exact PySem.EqNone.ne_none_bool (fin_bl I q (by simp))
    | int j => obtain ⟨t', rfl⟩ := ry; exact PySem.EqNone.ne_none_int (fin_bl I q (by simp))
    | str j => obtain ⟨t', rfl⟩ := ry; exact PySem.EqNone.ne_none_str (fin_bl I q (by simp))
    | _ => exact absurd (show false = true from hs) Bool.false_ne_true
  | bl i =>
    cases rx
    cases y with
    | non => cases ry; exact PySem.EqNone.ne_bool_none (fin_bl I q (by simp))
    | bl j => cases ry; exact ne_bool (fin_bl I q (congrArg not dec_bl))
    | str j => obtain ⟨t', rfl⟩ := ry; exact PySem.EqMixed.ne_bool_str (fin_bl I q (by simp))
    | _ => exact absurd (show false = true from hs) Bool.false_ne_true
  | int i =>
    obtain ⟨t, rfl⟩ := rx
    cases y with
    | non => cases ry; exact PySem.EqNone.ne_int_none (fin_bl I q (by simp))
    | int j => obtain ⟨t', rfl⟩ := ry; exact ne_int (fin_bl I q (congrArg not dec_int))
    | str j => obtain ⟨t', rfl⟩ := ry; exact PySem.EqMixed.ne_int_str (fin_bl I q (by simp))
    | _ => exact absurd (show false = true from hs) Bool.false_ne_true
  | str i =>
    obtain ⟨t, rfl⟩ := rx
    cases y with
    | non => cases ry; exact PySem.EqNone.ne_str_none (fin_bl I q (by simp))
    | bl j => cases ry; exact PySem.EqMixed.ne_str_bool (fin_bl I q (by simp))
    | int j => obtain ⟨t', rfl⟩ := ry; exact PySem.EqMixed.ne_str_int (fin_bl I q (by simp))
    | str j => obtain ⟨t', rfl⟩ := ry; exact ne_str (fin_bl I q (congrArg not dec_str))
    | _ => exact absurd (show false = true from hs) Bool.false_ne_true
  | byt i =>
    obtain ⟨t, rfl⟩ := rx
    cases y with
    | byt j => obtain ⟨t', rfl⟩ := ry; exact PySem.W.ne_bytes (fin_bl I q (congrArg not dec_byt))
    | _ => exact absurd (show false = true from hs) Bool.false_ne_true
  | _ => cases y <;> exact absurd (show false = true from hs) Bool.false_ne_true

theorem op_lt : OpR X (compareOp .Lt) (rI0 fun i j => .bl (decide (i < j))) := opB0 fun _ _ _ _ _ _ _ q => lt_int q
theorem op_ge : OpR X (compareOp .GtE) (rI0 fun i j => .bl (decide (j ≤ i))) := opB0 fun _ _ _ _ _ _ _ q => ge_int q

/-- is None, is not None: the right side a value none -/
theorem op_isN : OpR X (compareOp .Is) (fun x y H Q => y = .non ∧ Q (.bl (decide (x = .non))) H) := by
  intro pins s σ H x y v u Q I rx ry h
  obtain ⟨rfl, q⟩ := h
  cases ry
  refine is_none_gen (fin_bl I q ?_)
  cases x <;> first
    | (cases rx; rfl)
    | (obtain ⟨t, rfl⟩ := rx; rfl)



theorem nomark (b : Expr) {op : CmpOp} (h : op ≠ .In := by decide) (h2 : op ≠ .NotIn := by decide) : behindInMarks op b = false := by
  have e1 : (op == CmpOp.In) = false := by cases op <;> first | rfl | exact absurd rfl h
  have e2 : (op == CmpOp.NotIn) = false := by cases op <;> first | rfl | exact absurd rfl h2
  cases b <;> simp [behindInMarks, e1, e2]
/-- a comparison as a value; hm: nomark b, or (for in, not in) by with_unfolding_all rfl -/
theorem pe_cmpR {op : CmpOp} {r : R2} (ho : OpR X (compareOp op) r) (ha : PE X a ta) (hb : PE X b tb) (hm : behindInMarks op b = false) : PE X (.Compare a [op] [b] pos) (tOp r ta tb) := by
  intro pins s σ H Q I h
  exact wpAny_Compare1 (binT ha hb I h fun v u s2 x y H2 I2 rx ry q => ho pins s2 σ H2 x y v u Q I2 rx ry q) hm
/-- a reading of a value as a test -/
def tTest (t : TE) : TT := fun σ H Q => t σ H fun x H' => ∃ k, x = .bl k ∧ Q k H'
theorem pt_cmpR {op : CmpOp} {r : R2} (ho : OpR X (compareOp op) r) (ha : PE X a ta) (hb : PE X b tb) (hm : behindInMarks op b = false) : PT X (.Compare a [op] [b] pos) (tTest (tOp r ta tb)) := by
  intro pins s σ H Q I h
  refine wpAny_isTrue_Compare1 (thn (ha pins s σ H _ I h) fun v s1 ⟨x, H1, I1, r1, q1⟩ => thn (hb pins s1 σ H1 _ I1 q1) fun u s2 ⟨y, H2, I2, r2, q2⟩ =>
    thn (ho pins s2 σ H2 x y v u _ I2 r1 r2 q2) fun c s3 ⟨z, H3, I3, r3, k, e, q3⟩ => ?_) hm
  subst e
  cases r3
  exact wpAny_truthy_bool ⟨H3, I3, q3⟩

/-! ### truth -/
theorem line63 : (sizeLine : Nat) < 2 ^ 63 := by rw [sizeLine_eq]; decide

/-! ### strs and bytes -/


/-! ### scalar builtins, by CallR -/
theorem vals1 {x : V} {us : List Value} (r : Vals [x] us) : ∃ u, us = [u] ∧ RelV x u := by
  cases r with
  | cons r1 r2 => cases r2; exact ⟨_, rfl, r1⟩
theorem vals2 {x y : V} {us : List Value} (r : Vals [x, y] us) : ∃ u w', us = [u, w'] ∧ RelV x u ∧ RelV y w' := by
  cases r with
  | cons r1 r2 =>
    cases r2 with
    | cons r3 r4 => cases r4; exact ⟨_, _, rfl, r1, r3⟩
theorem call_max2 (hc : X.calm = true) : CallR X (.builtin "max") (fun xs H Q => ∃ i j, xs = [.int i, .int j] ∧ Q (.int (if j > i then j else i)) H) := by
  intro pins s σ H xs us Q I r h
  obtain ⟨i, j, rfl, q⟩ := h
  obtain ⟨u, w', rfl, ⟨t, rfl⟩, ⟨t', rfl⟩⟩ := vals2 r
  refine max_two_ints (I.ok.hd hc) fun h' tk k => ⟨_, H, I.kept k, ?_, q⟩
  by_cases hj : j > i
  · rw [if_pos hj, if_pos hj]; exact ⟨_, rfl⟩
  · rw [if_neg hj, if_neg hj]; exact ⟨_, rfl⟩
theorem call_min2 (hc : X.calm = true) : CallR X (.builtin "min") (fun xs H Q => ∃ i j, xs = [.int i, .int j] ∧ Q (.int (if j < i then j else i)) H) := by
  intro pins s σ H xs us Q I r h
  obtain ⟨i, j, rfl, q⟩ := h
  obtain ⟨u, w', rfl, ⟨t, rfl⟩, ⟨t', rfl⟩⟩ := vals2 r
  refine min_two_ints (I.ok.hd hc) fun h' tk k => ⟨_, H, I.kept k, ?_, q⟩
  by_cases hj : j < i
  · rw [if_pos hj, if_pos hj]; exact ⟨_, rfl⟩
  · rw [if_neg hj, if_neg hj]; exact ⟨_, rfl⟩
theorem call_int1 : CallR X (.type "int") (fun xs H Q => (∃ i, xs = [.int i] ∧ Q (.int i) H) ∨ ∃ k, xs = [.bl k] ∧ Q (.int (if k then 1 else 0)) H) := by
  intro pins s σ H xs us Q I r h
  rcases h with ⟨i, rfl, q⟩ | ⟨k, rfl, q⟩
  · obtain ⟨u, rfl, t, rfl⟩ := vals1 r
    exact call_int_int ⟨.int i, H, I, ⟨_, rfl⟩, q⟩
  · obtain ⟨u, rfl, r1⟩ := vals1 r
    cases r1
    exact call_int_bool ⟨.int (if k then 1 else 0), H, I.tok _, ⟨_, rfl⟩, q⟩
end
end L2

namespace L2
open PySem PySem.Spec PyProof.Rows

/-! ### an instance, its attributes a map -/
structure ObjM (h : Heap) (x dx C : Addr) (mA : Str → Option Value) : Prop where
  obj : h.get? x = some (PySem.W.instObj C dx)
  ns : h.Ns1 dx mA
  ne : dx ≠ x

theorem lookIn_ns {h : Heap} {dx : Addr} {mA : Str → Option Value} (n : h.Ns1 dx mA) : ∃ od, h.get? dx = some od ∧ ∀ name, PySem.W.lookIn name od = some (mA name) := by
  obtain ⟨o, es, ep, ho, hd, hk, _, hm⟩ := n
  refine ⟨o, ho, fun name => ?_⟩
  have e := hm name
  unfold nsFind findBy at e
  rw [← Array.find?_toList] at e
  unfold PySem.W.lookIn
  rw [hd]
  dsimp only
  split
  · rename_i y q
    rw [q] at e
    exact congrArg some e
  · rename_i q
    rw [q] at e
    have a : es.toList.any (·.refKey) = false := by
      rw [List.any_eq_false]
      intro y hy
      obtain ⟨z, t, hkey⟩ := hk y (Array.mem_toList_iff.mp hy)
      simp [DictEntry.refKey, hkey]
    have a' : ¬ es.toList.any (·.refKey) = true := by rw [a]; exact Bool.false_ne_true
    rw [if_neg a']
    exact congrArg some e

theorem ObjM.look {h : Heap} {x dx C : Addr} {mA : Str → Option Value} (I : ObjM h x dx C mA) : ∃ od, PySem.W.InstAt h x (PySem.W.instObj C dx) C (some od) ∧ ∀ name, PySem.W.lookIn name od = some (mA name) :=
  let ⟨od, ho, hl⟩ := lookIn_ns I.ns
  ⟨od, ⟨I.obj, rfl, rfl, ho⟩, hl⟩

section
variable {prog : Program} {w : World} {A : Around} {E : Value → Shared → Prop} {s : Shared} {K : PySem.W.Frag} {x dx C f : Addr} {mA : Str → Option Value} {name : Str} {v : Value}

theorem get_map {expr : Bool} {Q : Value → Shared → Prop} (X : K.In s.heap) (I : ObjM s.heap x dx C mA) (hg : PySem.W.plainGet K C name = true) (hh : PySem.W.hasDictIn K C = true)
    (ha : PySem.W.findIn K (.ref C) name = some none) (hv : mA name = some v) (hv' : PySem.W.handedIn v = true) (h : Q v { s with toks := s.toks + 1 }) :
    wpAny (model prog w) A (getAttr (.ref x) name expr) Q E s := by
  obtain ⟨od, J, hl⟩ := I.look
  exact PySem.W.get_value X J (PySem.W.plainGet_of hg).1 (PySem.W.findObj_own hh ha rfl (by rw [hl, hv])) hv' h



theorem set_map {ns : List Str} {Q : Unit → Shared → Prop} (X : K.In s.heap) (I : ObjM s.heap x dx C mA)
    (hs : PySem.W.findIn K (.ref C) "__setattr__" = some (some (.builtin "object.__setattr__"))) (hp : PySem.W.plainOver K C = true) (ht : PySem.W.takerIn K C name = some none) (hh : PySem.W.hasDictIn K C = true)
    (hw : PySem.Within mA ns) (hsz : ns.length ≤ sizeLine)
    (h : ∀ h', ObjM h' x dx C (fun y => if y = name then some v else mA y) → Heap.SameBut dx s.heap h' → Q () { s with heap := h', toks := s.toks + 2 }) :
    wpAny (model prog w) A (setAttr (.ref x) name v) Q E s := by
  obtain ⟨od, J, hl⟩ := I.look
  refine PySem.W.set_plain X J hs (PySem.W.osa_open (s := { s with toks := s.toks + 1 }) (r := none) X J hp ht fun b => ?_)
  obtain ⟨cd, hc, hd'⟩ := PySem.W.any_some hh
  have hx : s.heap.get? x = some ⟨.ref C, some dx, .plain, #[]⟩ := I.obj
  refine wpAny_bind (wpAny_pure (wpAny_bind (wpAny_bind (wpAny_loadPart hx (wpAny_bind (PySem.W.Looks.here (s := { s with toks := s.toks + 1 }) (PySem.W.looks_clsIn X hc) ?_))))))
  rw [hd']
  refine wpAny_pure (a := some dx) (wpAny_bind (wpAny_pure (wpAny_bind ?_)))
  refine wpAny_nsSet1 (s := { s with toks := s.toks + 1 }) I.ns fun h' hn2 hs2 => ?_
  obtain ⟨oD, esD, epD, hoD, hdD, hcD⟩ := hn2.count (PySem.Within.cons name v hw)
  refine wpAny_bind (wpAny_lookBehind hoD (by rw [hdD]; exact pastItsLine_dict (Nat.le_trans hcD (by rw [List.length_cons]; omega))) ?_)
  exact wpAny_pure (h _ ⟨(hs2.2 _ (Ne.symm I.ne)).trans I.obj, hn2, I.ne⟩ hs2)

/-- C(..): the dict at the heap's end, the instance behind it; then its __init__ -/
theorem make_map {R : Result → Shared → Prop} {vs : List Value} {kw : List (Str × Value)} (X : K.In s.heap) (hm : PySem.W.makesIn K C = true)
    (hi : PySem.W.findIn K (.ref C) "__init__" = some (some (.ref f))) (hf : PySem.W.typeIn K (.ref f) = some (.type "function"))
    (h : codeAny (model prog w) (A.under (.builtin "type.__call__" ⟨.ref C :: vs, kw⟩)) (.call (.ref f) ⟨.ref (s.heap.objs.size + 1) :: vs, kw⟩) (PySem.W.InitBack (s.heap.objs.size + 1) R)
      { s with heap := (s.heap.push PySem.W.emptyDict).push (PySem.W.instObj C s.heap.objs.size) }) :
    codeAny (model prog w) A (.call (.ref C) ⟨vs, kw⟩) R s := by
  obtain ⟨hh, g, d, t, os⟩ := s
  exact PySem.W.make_core (PySem.W.makes_of X hm) (PySem.W.looks_findIn X hi) (fun self => PySem.W.bind_fn X self hf) (.inl rfl) h
end

/-! ### the attributes as a list of pairs -/
def putF (f : Str) (v : V) : List (Str × V) → List (Str × V)
  | [] => [(f, v)]
  | (g, x) :: r => if g = f then (g, v) :: r else (g, x) :: putF f v r
theorem lookup_putF (f g : Str) (v : V) : ∀ fs : List (Str × V), (putF f v fs).lookup g = if g = f then some v else fs.lookup g
  | [] => by
    show List.lookup g [(f, v)] = _
    by_cases h : g = f
    · have hb : (g == f) = true := beq_iff_eq.mpr h
      simp only [List.lookup, hb, if_pos h]
    · have hb : (g == f) = false := beq_eq_false_iff_ne.mpr h
      simp only [List.lookup, hb, if_neg h]
  | (k, x) :: r => by
    have ih := lookup_putF f g v r
    rw [show putF f v ((k, x) :: r) = (if k = f then (k, v) :: r else (k, x) :: putF f v r) from rfl]
    by_cases hk : k = f
    · rw [if_pos hk]
      by_cases h : g = k
      · have hb : (g == k) = true := beq_iff_eq.mpr h
        simp only [List.lookup, hb, if_pos (h.trans hk)]
      · have hb : (g == k) = false := beq_eq_false_iff_ne.mpr h
        simp only [List.lookup, hb, if_neg (fun e : g = f => h (e.trans hk.symm))]
    · rw [if_neg hk]
      by_cases h : g = k
      · have hb : (g == k) = true := beq_iff_eq.mpr h
        simp only [List.lookup, hb, if_neg (fun e : g = f => hk (h.symm.trans e))]
      · have hb : (g == k) = false := beq_eq_false_iff_ne.mpr h
        simp only [List.lookup, hb]
        exact ih
theorem keys_putF (f : Str) (v : V) : ∀ fs : List (Str × V), f ∈ (putF f v fs).map (·.1) ∧ ∀ g, g ∈ fs.map (·.1) → g ∈ (putF f v fs).map (·.1)
  | [] => ⟨by simp [putF], fun g h => by simp at h⟩
  | (k, x) :: r => by
    obtain ⟨i1, i2⟩ := keys_putF f v r
    rw [show putF f v ((k, x) :: r) = (if k = f then (k, v) :: r else (k, x) :: putF f v r) from rfl]
    by_cases hk : k = f
    · rw [if_pos hk]
      subst hk
      exact ⟨by simp, fun g h => by simpa using h⟩
    · rw [if_neg hk]
      refine ⟨?_, fun g h => ?_⟩
      · rw [List.map_cons]
        exact List.mem_cons_of_mem _ i1
      · rw [List.map_cons] at h ⊢
        rcases List.mem_cons.mp h with e | e
        · exact List.mem_cons.mpr (.inl e)
        · exact List.mem_cons_of_mem _ (i2 g e)
theorem length_putF (f : Str) (v : V) : ∀ fs : List (Str × V), (putF f v fs).length ≤ fs.length + 1
  | [] => by simp [putF]
  | (k, x) :: r => by
    have ih := length_putF f v r
    rw [show putF f v ((k, x) :: r) = (if k = f then (k, v) :: r else (k, x) :: putF f v r) from rfl]
    by_cases hk : k = f
    · rw [if_pos hk, List.length_cons, List.length_cons]; omega
    · rw [if_neg hk, List.length_cons, List.length_cons]; omega

theorem RelO.some_of {v : V} {o : Option Value} (r : RelO (some v) o) : ∃ u, o = some u ∧ RelV v u := by
  cases o with
  | none => exact (show False from r).elim
  | some u => exact ⟨u, rfl, r⟩
theorem handed_of {v : V} {u : Value} (r : RelV v u) : PySem.W.handedIn u = true := by
  cases v with
  | non => cases (show u = Value.none from r); rfl
  | bl b => cases (show u = Value.bool b from r); rfl
  | int i => obtain ⟨t, e⟩ := (show ∃ t, u = Value.int i t from r); cases e; rfl
  | str x => obtain ⟨t, e⟩ := (show ∃ t, u = Value.str x t from r); cases e; rfl
  | byt b => obtain ⟨t, e⟩ := (show ∃ t, u = Value.bytes b t from r); cases e; rfl
  | flt b => obtain ⟨t, e⟩ := (show ∃ t, u = Value.float b t from r); cases e; rfl
  | ref a => cases (show u = Value.ref a from r); rfl
  | ty n => cases (show u = Value.type n from r); rfl

section
variable {P : Program} {w : World} {H H' : Hp} {h h' : Heap} {a C dx : Addr} {fs fs' : List (Str × V)}
theorem ins_get (hok : HOk P w H h) (e : H a = some (.ins C dx fs)) : ∃ mA, ObjM h a dx C mA ∧ (∀ f, RelO (fs.lookup f) (mA f)) ∧ PySem.Within mA (fs.map (·.1)) ∧ fs.length ≤ 1000 ∧ H dx = some (.own a) := by
  obtain ⟨d, z, ne, ob, mA, n, r, q⟩ := (show ObjOk P w H h a (.ins C dx fs) from hok a _ e)
  exact ⟨mA, ⟨ob, n, ne⟩, r, q, z, d⟩
end

/-! ### what of the text a class must have -/
structure Cls (K : PySem.W.Frag) (C : Addr) : Prop where
  pg : PySem.W.plainGet K C Str.empty = true
  hd : PySem.W.hasDictIn K C = true
  po : PySem.W.plainOver K C = true
  sa : PySem.W.findIn K (.ref C) "__setattr__" = some (some (.builtin "object.__setattr__"))
theorem Cls.get {K : PySem.W.Frag} {C : Addr} (c : Cls K C) (f : Str) : PySem.W.plainGet K C f = true := c.pg
/-- no class of it has the name -/
def NoAttr (K : PySem.W.Frag) (C : Addr) (f : Str) : Prop := PySem.W.findIn K (.ref C) f = some none
theorem NoAttr.taker {K : PySem.W.Frag} {C : Addr} {f : Str} (n : NoAttr K C f) : PySem.W.takerIn K C f = some none := by
  unfold PySem.W.takerIn
  rw [show PySem.W.findIn K (.ref C) f = some none from n]
  rfl

section
variable {X : Cx} {pins : List (Addr × Obj)} {σ : St} {H : Hp} {s : Shared} {a C dx : Addr} {fs : List (Str × V)} {f : Str} {v : V} {A : Around} {E : Value → Shared → Prop}

theorem getattr_ok {b : Bool} {Q : Value → Shared → Prop} (I : Inv X pins σ H s) (e : H a = some (.ins C dx fs)) (c : Cls X.K C) (n : NoAttr X.K C f) (l : fs.lookup f = some v)
    (h : ∀ u s', Inv X pins σ H s' → RelV v u → Q u s') : wpAny (model X.prog X.w) A (getAttr (.ref a) f b) Q E s := by
  obtain ⟨mA, O, r, _, _, _⟩ := ins_get I.hok e
  obtain ⟨u, hu, ru⟩ := RelO.some_of (v := v) (o := mA f) (by rw [← l]; exact r f)
  exact get_map I.kIn O (c.get f) c.hd n hu (handed_of ru) (h u _ (I.tok _) ru)



theorem setattr_ok {y : V} {u : Value} {Q : Unit → Shared → Prop} (I : Inv X pins σ H s) (e : H a = some (.ins C dx fs)) (c : Cls X.K C) (n : NoAttr X.K C f) (hl : fs.length < 1000) (ry : RelV y u)
    (h : ∀ s', Inv X pins σ (upd H a (.ins C dx (putF f y fs))) s' → Q () s') : wpAny (model X.prog X.w) A (setAttr (.ref a) f u) Q E s := by
  obtain ⟨mA, O, r, wi, _, ho⟩ := ins_get I.hok e
  have hz : (fs.map (·.1)).length ≤ sizeLine := by rw [List.length_map, sizeLine_eq]; omega
  refine set_map I.kIn O c.sa c.po n.taker c.hd wi hz fun h' O' sb => h _ ?_
  have hd : ∃ o, h'.get? dx = some o := let ⟨o, _, _, e', _⟩ := O'.ns; ⟨o, e'⟩
  refine I.write (x := a) (e := dx) (by rw [e]; exact True.intro) (.inr ho) (fun b q hb z => (sb.2 b hb).trans z) hd ?_
  refine ⟨by rw [upd_ne O.ne]; exact ho, ?_, O.ne, O'.obj, _, O'.ns, fun g => ?_, fun g hg => ?_⟩
  · have := length_putF f y fs; omega
  · show RelO ((putF f y fs).lookup g) (if g = f then some u else mA g)
    rw [lookup_putF]
    by_cases q : g = f
    · rw [if_pos q, if_pos q]; exact ry
    · rw [if_neg q, if_neg q]; exact r g
  · by_cases q : g = f
    · rw [q]; exact (keys_putF f y fs).1
    · refine (keys_putF f y fs).2 g (wi g fun z => hg ?_)
      show (if g = f then some u else mA g) = none
      rw [if_neg q]; exact z

/-- a new instance, tracked, without attributes -/
theorem Inv.made (I : Inv X pins σ H s) : Inv X pins σ (upd (upd H s.heap.objs.size (.own (s.heap.objs.size + 1))) (s.heap.objs.size + 1) (.ins C s.heap.objs.size []))
    { s with heap := (s.heap.push PySem.W.emptyDict).push (PySem.W.instObj C s.heap.objs.size) } := by
  have e1 : (s.heap.push PySem.W.emptyDict).get? s.heap.objs.size = some PySem.W.emptyDict := Heap.get?_push_size s.heap rfl
  have e2 : ((s.heap.push PySem.W.emptyDict).push (PySem.W.instObj C s.heap.objs.size)).get? (s.heap.objs.size + 1) = some (PySem.W.instObj C s.heap.objs.size) := by
    have := Heap.get?_push_size (s.heap.push PySem.W.emptyDict) (o := PySem.W.instObj C s.heap.objs.size) rfl
    rwa [Heap.size_push] at this
  have e3 : (s.heap.push PySem.W.emptyDict).Ns s.heap.objs.size (fun _ => none) := ⟨PySem.W.emptyDict, #[], _, e1, rfl, (fun e he => absurd he (by simp)), fun _ => rfl⟩
  have I1 := I.laid (a := s.heap.objs.size) (o := .own (s.heap.objs.size + 1)) (h' := s.heap.push PySem.W.emptyDict) (t' := s.toks) (fun b u q => Heap.get?_push_of_some _ q) (Nat.le_refl _) ⟨_, e1⟩
  refine I1.laid (a := s.heap.objs.size + 1) (o := .ins C s.heap.objs.size []) (t' := s.toks) (fun b u q => Heap.get?_push_of_some _ q) (Nat.le_of_eq (Heap.size_push _ _)) ?_
  have ne : s.heap.objs.size ≠ s.heap.objs.size + 1 := Nat.ne_of_lt (Nat.lt_succ_self _)
  refine ⟨by rw [upd_ne ne, upd_same], Nat.zero_le _, ne, e2, fun _ => none, (Heap.Ns1.of_empty e3).at fun o q => Heap.get?_push_of_some _ q, fun _ => True.intro, fun y hy => absurd rfl hy⟩

/-- e.f where nothing but the object is asked: through attributeBase (super) and the last hold -/
theorem attr_of {prog : Program} {w : World} {env : Env} {e : Expr} {f : Str} {pos : Pos} {s : Shared} {Q : Value → Shared → Prop} (hb : attributeBase e f env (eval e env) = eval e env)
    (h : wpAny (model prog w) A (eval e env) (fun o s₁ => wpAny (model prog w) A (getAttr o f true) Q E s₁) E s) : wpAny (model prog w) A (eval (.Attribute e f pos) env) Q E s :=
  Attribute_any_ h (by rw [arm_eval_Attribute, hb])
end

/-! ### readings and rules -/
/-- e.f, an attribute of the instance -/
def tFld (K : PySem.W.Frag) (ta : TE) (f : Str) : TE := fun σ H Q => ta σ H fun x H1 => ∃ a C dx fs v, x = .ref a ∧ H1 a = some (.ins C dx fs) ∧ Cls K C ∧ NoAttr K C f ∧ fs.lookup f = some v ∧ Q v H1
/-- e.f = value -/
def sFld (K : PySem.W.Frag) (ta tv : TE) (f : Str) : TS := fun D σ H => tv σ H fun y H1 => ta σ H1 fun x H2 => ∃ a C dx fs, x = .ref a ∧ H2 a = some (.ins C dx fs) ∧ Cls K C ∧ NoAttr K C f ∧ fs.length < 1000 ∧
  D.nx σ (upd H2 a (.ins C dx (putF f y fs)))

section
variable {X : Cx} {o e value : Expr} {f : Str} {pos pos' tpos : Pos} {ta tv : TE}
theorem pe_fld (he : PE X e ta) (hb : attributeBase e f X.env (eval e X.env) = eval e X.env) : PE X (.Attribute e f pos) (tFld X.K ta f) := by
  intro pins s σ H Q I h
  refine attr_of hb (thn (he pins s σ H _ I h) fun u s1 ⟨x, H1, I1, rx, a, C, dx, fs, v, ex, ea, c, n, l, q⟩ => ?_)
  subst ex
  obtain rfl : u = Value.ref a := rx
  exact getattr_ok I1 ea c n l fun u' s2 I2 ru => ⟨v, H1, I2, ru, q⟩
theorem ps_fld (ha : PE X o ta) (hv : PE X value tv) (hs : swapsWith value (some (.Attribute o f pos')) pos.line X.env = pure false) : PS X (.Assign [.Attribute o f pos'] value pos) (sFld X.K ta tv f) := by
  intro pins s σ H D I h
  refine plainObj_wpAny_Assign_Attribute (thn (hv pins s σ H _ I h) fun u s1 ⟨y, H1, I1, ry, q⟩ => thn (ha pins s1 σ H1 _ I1 q) fun ov s2 ⟨x, H2, I2, rx, a, C, dx, fs, ex, ea, c, n, l, q2⟩ => ?_) hs
  subst ex
  obtain rfl : ov = Value.ref a := rx
  exact setattr_ok I2 ea c n l ry fun s3 I3 => ⟨σ, _, I3, q2⟩

end

/-! ### isinstance -/
section
variable {X : Cx} {pins : List (Addr × Obj)} {σ : St} {H : Hp} {s : Shared} {A : Around} {E : Value → Shared → Prop} {Q : Value → Shared → Prop} {c : Value} {b : Bool}
/-- the type of a value, as the fragment's deciders take it; for an instance its class -/
inductive TyOf (K : PySem.W.Frag) (H : Hp) : V → Value → Prop where
  | non : TyOf K H .non (.type "NoneType")
  | bl (x : Bool) : TyOf K H (.bl x) (.type "bool")
  | int (i : Int) : TyOf K H (.int i) (.type "int")
  | str (x : Str) : TyOf K H (.str x) (.type "str")
  | flt (x : UInt64) : TyOf K H (.flt x) (.type "float")
  | lst {a : Addr} {xs : List V} (e : H a = some (.lst xs)) : TyOf K H (.ref a) (.type "list")
  | frz {a : Addr} {o : Obj} {xs : List V} (e : H a = some (.frz o (.lst xs))) : TyOf K H (.ref a) (.type "list")
  | tup {a : Addr} {xs : List V} (e : H a = some (.tup xs)) : TyOf K H (.ref a) (.type "tuple")
  | dK {a : Addr} {kvs : List (Key × V)} (e : H a = some (.dK kvs)) : TyOf K H (.ref a) (.type "dict")
  | dT {a : Addr} {kvs : List (List Key × V)} (e : H a = some (.dT kvs)) : TyOf K H (.ref a) (.type "dict")
  | ins {a C dx : Addr} {fs : List (Str × V)} (e : H a = some (.ins C dx fs)) (cl : Cls K C) (ha : PySem.W.findIn K (.ref C) "__class__" = some (some (.builtin "object.__class__")))
      (hn : PySem.W.specialIn K (.builtin "object.__class__") "__get__" = some (some (.builtin "getset_descriptor.__get__"))) (htk : PySem.W.takesIn K (.builtin "object.__class__") = some true)
      (hm : PySem.W.mroIn K C (.type "object") = some true) : TyOf K H (.ref a) (.ref C)
/-- isinstance(x, c) for one class c, a built-in or an own one: kitOne's answer -/
theorem isinst_ok {x : V} {u t : Value} (I : Inv X pins σ H s) (rx : RelV x u) (ty : TyOf X.K H x t) (e : PySem.W.kitOne X.K t c = some b) (h : ∀ tk, Q (.bool b) { s with toks := tk }) :
    wpAny (model X.prog X.w) A (call (.builtin "isinstance") [u, c]) Q E s := by
  cases ty with
  | non => cases (show u = Value.none from rx); exact PySem.W.kia_one PySem.W.kitx_none I.kIn True.intro e (fun z => nomatch z) h
  | bl y => cases (show u = Value.bool y from rx); exact PySem.W.kia_one PySem.W.kitx_bool I.kIn True.intro e (fun z => nomatch z) h
  | int i => obtain ⟨t, q⟩ := (show ∃ t, u = Value.int i t from rx); cases q; exact PySem.W.kia_one PySem.W.kitx_int I.kIn True.intro e (fun z => nomatch z) h
  | str y => obtain ⟨t, q⟩ := (show ∃ t, u = Value.str y t from rx); cases q; exact PySem.W.kia_one PySem.W.kitx_str I.kIn True.intro e (fun z => nomatch z) h
  | flt y => obtain ⟨t, q⟩ := (show ∃ t, u = Value.float y t from rx); cases q; exact PySem.W.kia_one PySem.W.kitx_float I.kIn True.intro e (fun z => nomatch z) h
  | @lst a xs ea =>
    cases (show u = Value.ref a from rx)
    obtain ⟨_, _, n, _, h1⟩ := (show ObjOk X.prog X.w H s.heap a (.lst xs) from I.hok a _ ea)
    exact PySem.W.kia_one PySem.W.kitx_list I.kIn ⟨_, h1, rfl⟩ e (fun z => nomatch z) h
  | @frz a ob xs ea =>
    cases (show u = Value.ref a from rx)
    obtain ⟨_, _, _, n, _, h1⟩ := (show ObjOk X.prog X.w H s.heap a (.frz ob (.lst xs)) from I.hok a _ ea)
    exact PySem.W.kia_one PySem.W.kitx_list I.kIn ⟨_, h1, rfl⟩ e (fun z => nomatch z) h
  | @tup a xs ea =>
    cases (show u = Value.ref a from rx)
    obtain ⟨_, _, _, p⟩ := (show ObjOk X.prog X.w H s.heap a (.tup xs) from I.hok a _ ea)
    obtain ⟨o, h1, h2, _⟩ := p
    exact PySem.W.kia_one PySem.W.kitx_tuple I.kIn ⟨o, h1, h2⟩ e (fun z => nomatch z) h
  | @dK a kvs ea =>
    cases (show u = Value.ref a from rx)
    obtain ⟨_, _, vs, _, p⟩ := (show ObjOk X.prog X.w H s.heap a (.dK kvs) from I.hok a _ ea)
    obtain ⟨o, es, ep, h1, h2, _⟩ := p
    exact PySem.W.kia_one PySem.W.kitx_dict I.kIn ⟨o, h1, h2.1⟩ e (fun z => nomatch z) h
  | @dT a kvs ea =>
    cases (show u = Value.ref a from rx)
    obtain ⟨_, _, xs, _, o, es, ep, h1, h2, _⟩ := (show ObjOk X.prog X.w H s.heap a (.dT kvs) from I.hok a _ ea)
    exact PySem.W.kia_one PySem.W.kitx_dict I.kIn ⟨o, h1, h2.1⟩ e (fun z => nomatch z) h
  | @ins a C dx fs ea cl ha hn htk hm =>
    cases (show u = Value.ref a from rx)
    obtain ⟨mA, O, _⟩ := ins_get I.hok ea
    obtain ⟨od, J, _⟩ := O.look
    exact PySem.W.kia_one (PySem.W.kitx_own (cl.get _) cl.hd ha hn htk hm) I.kIn J e (fun z => nomatch z) h
end
end L2

namespace L2
open PySem PySem.Spec PyProof.Rows

/-! ### room -/
structure Room (k : Nat) (A : Around) : Prop where
  hd : A.handled = none
  dp : A.depth + 3 * k + 5 < recursionLimit
  un : A.units + 16 * k + 200 < cLine
theorem Room.mono {j k : Nat} {A : Around} (r : Room k A) (h : j ≤ k) : Room j A := ⟨r.hd, by have := r.dp; omega, by have := r.un; omega⟩
theorem Room.deeper {k : Nat} {A : Around} (r : Room (k + 1) A) (env : Env) : Room k (A.deeper env) :=
  ⟨r.hd, by have := r.dp; show A.depth + 1 + 3 * k + 5 < _; omega, by have := r.un; show A.units + 3 + 16 * k + 200 < _; omega⟩
theorem make_depth {A : Around} {C : Addr} {us : List Value} {kw : List (Str × Value)} : (A.under (.builtin "type.__call__" ⟨.ref C :: us, kw⟩)).depth = A.depth + 1 := by
  first | rfl | simp [Around.under, Code.weight, Code.isCreation, Code.isGuard, Code.isCaller, Code.frames, Code.isFrame, guardIds]
theorem make_units {A : Around} {C : Addr} {us : List Value} {kw : List (Str × Value)} : (A.under (.builtin "type.__call__" ⟨.ref C :: us, kw⟩)).units = A.units + 1 := by
  first | rfl | simp [Around.under, Code.cUnits, Code.frames, Code.isFrame]
theorem Room.make {k : Nat} {A : Around} (r : Room (k + 1) A) (C : Addr) (us : List Value) (kw : List (Str × Value)) : Room k (A.under (.builtin "type.__call__" ⟨.ref C :: us, kw⟩)) :=
  ⟨r.hd, by have := r.dp; rw [make_depth]; omega, by have := r.un; rw [make_units]; omega⟩
theorem Room.depth {k : Nat} {A : Around} (r : Room k A) : A.depth < recursionLimit := by have := r.dp; omega
theorem Room.units {k : Nat} {A : Around} (r : Room k A) : A.units + 64 < cLine := by have := r.un; omega

/-! ### argument lists and displays -/
def tNil : TA := fun _ H Q => Q [] H
def tCons (ta : TE) (tr : TA) : TA := fun σ H Q => ta σ H fun x H1 => tr σ H1 fun xs H2 => Q (x :: xs) H2
section
variable {X : Cx} {e : Expr} {es : List Expr} {te : TE} {t : TA} {pos : Pos}
theorem pa_nil : PA X [] tNil := fun _ _ _ _ H Q I h => Calls.spliced_nil ⟨[], H, I, .nil, h⟩
theorem pa_cons (ha : PE X e te) (hr : PA X es t) (hs : starEach (e :: es) X.env = (false, eval e X.env) :: starEach es X.env := by rfl) : PA X (e :: es) (tCons te t) := by
  intro pos pins s σ H Q I h
  rw [hs]
  show wpAny _ _ (spliced ((false, eval e X.env) :: backTo pos (starEach es X.env))) _ _ s
  refine Calls.spliced_cons (thn (ha pins s σ H _ I h) fun u s1 ⟨x, H1, I1, r1, q1⟩ => ?_)
  exact thn (hr pos pins s1 σ H1 _ I1 q1) fun us s2 ⟨xs, H2, I2, r2, q2⟩ => ⟨x :: xs, H2, I2, .cons r1 r2, q2⟩

/-- a tuple, a list of written items -/
def tTup (t : TA) : TE := fun σ H Q => t σ H fun xs H1 => xs.length ≤ sizeLine ∧ ∀ p, H1 p = none → Q (.ref p) (upd H1 p (.tup xs))
def tLst (t : TA) : TE := fun σ H Q => t σ H fun xs H1 => xs.length ≤ sizeLine ∧ ∀ p, H1 p = none → Q (.ref p) (upd H1 p (.lst xs))
theorem pe_tup {x1} (h : PA X es t) : PE X (.Tuple es x1 pos) (tTup t) := by
  intro pins s σ H Q I hq
  refine wpAny_Tuple_spliced (thn (h pos pins s σ H _ I hq) fun us s1 ⟨xs, H1, I1, r, z, q⟩ => ⟨by rw [← r.length]; exact z, ?_⟩)
  have hf : H1 s1.heap.objs.size = none := I1.hok.fresh (Nat.le_refl _)
  refine ⟨.ref s1.heap.objs.size, upd H1 s1.heap.objs.size (.tup xs), I1.laid (t' := s1.toks) (fun b u e => Heap.get?_push_of_some _ e) (Nat.le_refl _) ?_, rfl, q _ hf⟩
  exact ⟨z, us, r, ⟨_, Heap.get?_push_size _ rfl, rfl, _, rfl⟩⟩
theorem pe_lst (h : PA X es t) : PE X (.List es pos) (tLst t) := by
  intro pins s σ H Q I hq
  refine wpAny_List_spliced (thn (h pos pins s σ H _ I hq) fun us s1 ⟨xs, H1, I1, r, z, q⟩ => ⟨by rw [← r.length]; exact z, ?_⟩)
  have hf : H1 s1.heap.objs.size = none := I1.hok.fresh (Nat.le_refl _)
  refine ⟨.ref s1.heap.objs.size, upd H1 s1.heap.objs.size (.lst xs), I1.laid (t' := s1.toks) (fun b u e => Heap.get?_push_of_some _ e) (Nat.le_refl _) ?_, rfl, q _ hf⟩
  exact ⟨z, us, 0, r, Heap.get?_push_size _ rfl⟩
end

/-! ### what a def promises -/
/-- a def's promise: the bound arguments in the parameters' order, the heap, the wanted end, the wanted exception -/
abbrev Sp := List V → Hp → VK → XK → Prop
/-- how an exception lies behind a call (file 08 gives it): the callers' frames, abstract heap and state ahead of the call, the wish, the exception, the state -/
abbrev CXT := List Env → Hp → Shared → XK → Value → Shared → Prop

/-- the state at a call -/
structure Env0 (P : Program) (w : World) (K : PySem.W.Frag) (mg : Str → Option Value) (base : Heap) (A : Around) (outer : List Env) (s : Shared) (H : Hp) : Prop where
  frames : A.frames = some outer
  mod : Mod K mg base
  bs : ∀ b o, base.get? b = some o → s.heap.get? b = some o ∧ H b = none
  bsz : base.objs.size ≤ s.heap.objs.size
  funs : s.heap.FunFrames base outer
  frf : ∀ b ∈ frs outer, H b = none
  hok : HOk P w H s.heap
  bare : AllBare s.gens
/-- a call's end -/
def CE (outer : List Env) (P : Program) (w : World) (H : Hp) (s : Shared) (Q : VK) (u : Value) (s' : Shared) : Prop :=
  ∃ v H', s'.os = s.os ∧ AllBare s'.gens ∧ Un (frs outer) [] H H' s.heap s'.heap ∧ HOk P w H' s'.heap ∧ RelV v u ∧ Q v H'
def CR (CX : CXT) (outer : List Env) (P : Program) (w : World) (H : Hp) (s : Shared) (Q : VK) (E : XK) (r : Result) (s' : Shared) : Prop :=
  match r with
  | .ok (.ret u) => CE outer P w H s Q u s'
  | .ok _ => False
  | .error e => CX outer H s E e s'
structure FnOk (P : Program) (w : World) (K : PySem.W.Frag) (mg : Str → Option Value) (base : Heap) (CX : CXT) (k : Nat) (f : Addr) (fd : FuncData) (ps : List Str) (sp : Sp) : Prop where
  len : ∀ vs H Q E, sp vs H Q E → vs.length = ps.length
  run : ∀ (A : Around) (outer : List Env) (s : Shared) (H : Hp) (args : Args) (us : List Value) (vs : List V) (Q : VK) (E : XK), Room k A → Env0 P w K mg base A outer s H → BindsTo s fd args (ps.zip us) → Vals vs us → sp vs H Q E →
    codeAny (model P w) A (.call (.ref f) args) (CR CX outer P w H s Q E) s

theorem Env0.make {P : Program} {w : World} {K : PySem.W.Frag} {mg : Str → Option Value} {base : Heap} {A : Around} {outer : List Env} {s : Shared} {H : Hp} (e : Env0 P w K mg base A outer s H) (C : Addr) (us : List Value) (kw : List (Str × Value)) :
    Env0 P w K mg base (A.under (.builtin "type.__call__" ⟨.ref C :: us, kw⟩)) outer s H := ⟨by first | exact e.frames | (simpa [Around.under, Code.envs, Code.isFrame, pushEnvs] using e.frames), e.mod, e.bs, e.bsz, e.funs, e.frf, e.hok, e.bare⟩

section
variable {X : Cx} {pins : List (Addr × Obj)} {σ : St} {H : Hp} {s s' : Shared}
/-- from a body: what a callee wants -/
theorem Inv.env0 (I : Inv X pins σ H s) : Env0 X.prog X.w X.K X.mg X.base X.A X.stack s H :=
  ⟨I.ok.frames, I.ok.mod, I.bs, Nat.le_trans I.ok.bsz I.sz, I.stack, I.stkFree, I.hok, I.bare⟩
/-- behind a call -/
theorem Inv.after {Q : VK} {u : Value} (I : Inv X pins σ H s) (h : CE X.stack X.prog X.w H s Q u s') : EP X pins σ Q u s' := by
  obtain ⟨v, H', os, bare, un, hok, r, q⟩ := h
  obtain ⟨hh, g, d, t, os'⟩ := s'
  obtain rfl : os' = s.os := os
  exact ⟨v, H', I.call (h' := hh) (g' := g) (d' := d) (t' := t) (ch := []) un hok bare (fun b z => absurd z (by simp)), r, q⟩
end

/-! ### calls -/
/-- f(..): the written arguments, then the defaults dvs; E: what is wanted of an exception -/
def tCall (sp : Sp) (dvs : List V) (E : XK) (t : TA) : TE := fun σ H Q => t σ H fun vs H1 => sp (vs ++ dvs) H1 Q E
/-- C(..): a new instance and its dict, then __init__ -/
def tMake (C : Addr) (sp : Sp) (dvs : List V) (E : XK) (t : TA) : TE := fun σ H Q => t σ H fun vs H1 => ∀ x dx, H1 x = none → H1 dx = none → dx ≠ x →
  sp (.ref x :: (vs ++ dvs)) (upd (upd H1 dx (.own x)) x (.ins C dx [])) (fun v H2 => v = .non ∧ Q (.ref x) H2) E

/-- how the parameters are bound: us the positional arguments, kw the keywords' values by name, ds the defaults that fill up -/
def Binds (K : PySem.W.Frag) (fd : FuncData) (ps : List Str) (ds : List Value) : Prop :=
  ∀ (s : Shared) (us : List Value), K.In s.heap → (us ++ ds).length = ps.length → BindsTo s fd ⟨us, []⟩ (ps.zip (us ++ ds))
/-- every parameter is given -/
theorem Binds.all {K : PySem.W.Frag} {fd : FuncData} {ps : List Str} (h : ∀ us : List Value, us.length = ps.length → bindArgs fd ⟨us, []⟩ = pure (ps.zip us)) : Binds K fd ps [] := fun s us _ hl => by
  rw [List.append_nil] at hl ⊢
  exact .of_eq (h us hl)

/-- an exception of a callee reaches what this body wants of exceptions -/
def Passes (CX : CXT) (X : Cx) (E : XK) : Prop := ∀ (pins : List (Addr × Obj)) (σ : St) (H : Hp) (s : Shared) (e : Value) (s' : Shared), Inv X pins σ H s → CX X.stack H s E e s' → X.xe e s'

section
variable {X : Cx} {CX : CXT} {k : Nat} {f C : Addr} {fd : FuncData} {ps : List Str} {sp : Sp} {dvs : List V} {ds : List Value} {E : XK} {x m : Str} {p pos apos : Pos} {e o : Expr} {es : List Expr} {ta : TE} {t : TA}

/-- the callee runs -/
theorem run_fn {pins : List (Addr × Obj)} {σ : St} {H : Hp} {s : Shared} {Q : VK} {us : List Value} {vs : List V} (F : FnOk X.prog X.w X.K X.mg X.base CX k f fd ps sp) (hr : Room k X.A) (hb : Binds X.K fd ps ds) (hd : Vals dvs ds) (hx : Passes CX X E)
    (I : Inv X pins σ H s) (r : Vals vs us) (h : sp (vs ++ dvs) H Q E) : wpAny (model X.prog X.w) X.A (call (.ref f) us) (EP X pins σ Q) X.xe s := by
  have r2 : Vals (vs ++ dvs) (us ++ ds) := r.append hd
  have hl : (us ++ ds).length = ps.length := by rw [← r2.length]; exact F.len _ _ _ _ h
  refine wpAny_call (codeAny_mono (F.run X.A X.stack s H ⟨us, []⟩ (us ++ ds) (vs ++ dvs) Q E hr I.env0 (hb s us I.kIn hl) r2 h) fun r s' hq => ?_)
  cases r with
  | error e => exact hx pins σ H s e s' I hq
  | ok fl =>
    cases fl with
    | ret u => exact I.after hq
    | next => exact False.elim hq
    | brk => exact False.elim hq
    | cont => exact False.elim hq

theorem pe_call (F : FnOk X.prog X.w X.K X.mg X.base CX k f fd ps sp) (hr : Room k X.A) (hg : Gl X x) (hm : X.mg x = some (.ref f)) (hk : PySem.W.keepIn X.K (.ref f) = true) (hb : Binds X.K fd ps ds) (hd : Vals dvs ds) (hx : Passes CX X E)
    (ha : PA X (e :: es) t) (hdb : (x == ("__debug__" : Str)) = false := by decide) (he : starEach (e :: es) X.env = (false, eval e X.env) :: starEach es X.env := by rfl) (hpl : (backTo pos (starEach es X.env)).any (·.1) = false := by rfl) :
    PE X (.Call (.Name x p) (e :: es) [] pos) (tCall sp dvs E t) := by
  intro pins s σ H Q I h
  refine wpAny_Call_Name_kw (ld_glob I hg hm ?_ hdb)
  refine PySem.W.callWith_K (h₀ := X.base) I.ok.mod.kin hk (thn (ha pos pins s σ H _ I h) fun us s1 ⟨vs, H1, I1, r, q⟩ => ⟨I1.kIn, ?_⟩) he hpl
  exact run_fn F hr hb hd hx I1 r q


/-- what a class must have to be made -/
structure Mk (K : PySem.W.Frag) (C f : Addr) : Prop where
  makes : PySem.W.makesIn K C = true
  init : PySem.W.findIn K (.ref C) "__init__" = some (some (.ref f))
  fn : PySem.W.isFn K (.ref f) = true
  kp : PySem.W.keepIn K (.ref C) = true

theorem run_make {pins : List (Addr × Obj)} {σ : St} {H : Hp} {s : Shared} {Q : VK} {us : List Value} {vs : List V} (M : Mk X.K C f) (F : FnOk X.prog X.w X.K X.mg X.base CX k f fd ps sp) (hr : Room (k + 1) X.A) (hb : Binds X.K fd ps ds) (hd : Vals dvs ds)
    (hx : Passes CX X E) (I : Inv X pins σ H s) (r : Vals vs us)
    (h : ∀ x dx, H x = none → H dx = none → dx ≠ x → sp (.ref x :: (vs ++ dvs)) (upd (upd H dx (.own x)) x (.ins C dx [])) (fun v H2 => v = .non ∧ Q (.ref x) H2) E) :
    wpAny (model X.prog X.w) X.A (call (.ref C) us) (EP X pins σ Q) X.xe s := by
  have hq := h (s.heap.objs.size + 1) s.heap.objs.size (I.hok.fresh (Nat.le_succ _)) (I.hok.fresh (Nat.le_refl _)) (Nat.ne_of_lt (Nat.lt_succ_self _))
  have I2 := Inv.made (C := C) I
  have r2 : Vals (V.ref (s.heap.objs.size + 1) :: (vs ++ dvs)) (Value.ref (s.heap.objs.size + 1) :: (us ++ ds)) := .cons rfl (r.append hd)
  have hl : (Value.ref (s.heap.objs.size + 1) :: us ++ ds).length = ps.length := by
    have e := r2.length
    rw [F.len _ _ _ _ hq] at e
    exact e.symm
  refine wpAny_call (make_map (f := f) I.kIn M.makes M.init (beq_iff_eq.mp M.fn) (codeAny_mono (F.run _ X.stack _ _ ⟨Value.ref (s.heap.objs.size + 1) :: us, []⟩ (Value.ref (s.heap.objs.size + 1) :: (us ++ ds)) _ _ E (hr.make C us [])
    (I2.env0.make C us []) (hb _ (Value.ref (s.heap.objs.size + 1) :: us) I2.kIn hl) r2 hq) fun r s' hq' => ?_))
  cases r with
  | error e => exact hx pins σ _ _ e s' I2 hq'
  | ok fl =>
    cases fl with
    | ret u =>
      obtain ⟨v, H', I3, rv, ev, q3⟩ := I2.after hq'
      subst ev
      exact ⟨rv, ⟨V.ref (s.heap.objs.size + 1), H', I3, rfl, q3⟩⟩
    | next => exact False.elim hq'
    | brk => exact False.elim hq'
    | cont => exact False.elim hq'
theorem pe_make (M : Mk X.K C f) (F : FnOk X.prog X.w X.K X.mg X.base CX k f fd ps sp) (hr : Room (k + 1) X.A) (hg : Gl X x) (hm : X.mg x = some (.ref C)) (hb : Binds X.K fd ps ds) (hd : Vals dvs ds) (hx : Passes CX X E)
    (ha : PA X (e :: es) t) (hdb : (x == ("__debug__" : Str)) = false := by decide) (he : starEach (e :: es) X.env = (false, eval e X.env) :: starEach es X.env := by rfl) (hpl : (backTo pos (starEach es X.env)).any (·.1) = false := by rfl) :
    PE X (.Call (.Name x p) (e :: es) [] pos) (tMake C sp dvs E t) := by
  intro pins s σ H Q I h
  refine wpAny_Call_Name_kw (ld_glob I hg hm ?_ hdb)
  refine PySem.W.callWith_K (h₀ := X.base) I.ok.mod.kin M.kp (thn (ha pos pins s σ H _ I h) fun us s1 ⟨vs, H1, I1, r, q⟩ => ⟨I1.kIn, ?_⟩) he hpl
  exact run_make M F hr hb hd hx I1 r q
end

/-! ### keywords -/
section
variable {X : Cx} {CX : CXT} {k : Nat} {f C : Addr} {fd : FuncData} {ps ks : List Str} {sp : Sp} {E : XK} {x m : Str} {p pos apos kpos : Pos} {e o : Expr} {es : List Expr} {kws : List Keyword} {te ta : TE} {t tk : TA} {nm : Option Str}

variable {g : List Value → List Value → List Value} {gV : List V → List V → List V}
end

/-! ### a def's body keeps its promise -/
/-- names: the parameters first -/
structure FnScope (N P : List Str) (sc : Scope) : Prop where
  kind : sc.kind = .function
  co : sc.isCoroutine = false
  gen : sc.isGenerator = false
  nd : N.Nodup
  pre : N.take P.length = P
  par : ∀ x ∈ P, sc.names.lookup x = some .local ∨ sc.names.lookup x = some .cell
  nofree : ∀ y ∈ sc.names, y.2 ≠ .free

theorem bindL_out {kindOf : Str → Option NameKind} {x : Str} : ∀ {binds : List (Str × Value)} {m : Str → Option Value}, (∀ v, (x, v) ∉ binds) → bindL kindOf binds m x = m x
  | [], _, _ => rfl
  | (n, v) :: r, m, h => by
    unfold bindL
    rw [bindL_out fun w hw => h w (List.mem_cons_of_mem _ hw)]
    split
    · have : x ≠ n := by rintro rfl; exact h v List.mem_cons_self
      simp [this]
    · rfl
theorem bindC_out {kindOf : Str → Option NameKind} {x : Str} : ∀ {binds : List (Str × Value)} {m : Str → Option Value}, (∀ v, (x, v) ∉ binds) → bindC kindOf binds m x = m x
  | [], _, _ => rfl
  | (n, v) :: r, m, h => by
    unfold bindC
    rw [bindC_out fun w hw => h w (List.mem_cons_of_mem _ hw)]
    split
    · rfl
    · have : x ≠ n := by rintro rfl; exact h v List.mem_cons_self
      simp [this]
theorem bindL_get {kindOf : Str → Option NameKind} {x : Str} {v : Value} : ∀ {P : List Str} {vs : List Value} {i : Nat} {m : Str → Option Value}, P.Nodup → P[i]? = some x → vs[i]? = some v → kindOf x = some .local →
    bindL kindOf (P.zip vs) m x = some v
  | [], _, _, _, _, h, _, _ => by simp at h
  | _ :: _, [], _, _, _, _, h, _ => by simp at h
  | p :: P, w :: vs, 0, m, nd, h1, h2, hk => by
    simp at h1 h2; subst h1; subst h2
    show bindL kindOf ((p, w) :: P.zip vs) m p = _
    unfold bindL
    rw [bindL_out fun v hv => (List.nodup_cons.mp nd).1 (List.of_mem_zip hv).1, if_pos hk]
    simp
  | p :: P, w :: vs, i + 1, m, nd, h1, h2, hk => by
    show bindL kindOf ((p, w) :: P.zip vs) m x = _
    unfold bindL
    exact bindL_get (i := i) (List.nodup_cons.mp nd).2 (by simpa using h1) (by simpa using h2) hk
theorem bindC_get {kindOf : Str → Option NameKind} {x : Str} {v : Value} : ∀ {P : List Str} {vs : List Value} {i : Nat} {m : Str → Option Value}, P.Nodup → P[i]? = some x → vs[i]? = some v → kindOf x ≠ some .local →
    bindC kindOf (P.zip vs) m x = some v
  | [], _, _, _, _, h, _, _ => by simp at h
  | _ :: _, [], _, _, _, _, h, _ => by simp at h
  | p :: P, w :: vs, 0, m, nd, h1, h2, hk => by
    simp at h1 h2; subst h1; subst h2
    show bindC kindOf ((p, w) :: P.zip vs) m p = _
    unfold bindC
    rw [bindC_out fun v hv => (List.nodup_cons.mp nd).1 (List.of_mem_zip hv).1, if_neg hk]
    simp
  | p :: P, w :: vs, i + 1, m, nd, h1, h2, hk => by
    show bindC kindOf ((p, w) :: P.zip vs) m x = _
    unfold bindC
    exact bindC_get (i := i) (List.nodup_cons.mp nd).2 (by simpa using h1) (by simpa using h2) hk

/-- the names' values at the entry -/
def start (N : List Str) (vs : List V) : St := vs.map some ++ List.replicate (N.length - vs.length) none

/-- the context of a def's body, at its entry; an exception leaves the frame, then lies as CX says -/
def cxOf (CX : CXT) (P : Program) (w : World) (K : PySem.W.Frag) (mg : Str → Option Value) (base : Heap) (N : List Str) (qual : Str) (scope : Scope) (f : Addr) (cd : Value) (A : Around) (outer : List Env) (s : Shared) (H : Hp) (E : XK) : Cx where
  prog := P
  w := w
  K := K
  mg := mg
  base := base
  A := A.deeper (envOfC qual scope s.heap.objs.size f cd)
  N := N
  s₀ := s
  H₀ := H
  env := envOfC qual scope s.heap.objs.size f cd
  outer := outer
  stack := envOfC qual scope s.heap.objs.size f cd :: outer
  ex := []
  calm := true
  fn := fun _ => true
  pn := []
  xe := fun e s' => wpAny (model P w) (A.deeper (envOfC qual scope s.heap.objs.size f cd)) (leaving (envOfC qual scope s.heap.objs.size f cd) e) (fun _ s'' => CX outer H s E e s'') (fun e' s'' => CX outer H s E e' s'') s'

theorem cell_has {sc : Scope} {n : Nat} {x : Str} (h : sc.names.lookup x = some .cell) : ∃ c, (cellsFrom n sc.names []).lookup x = some c := by
  have q := PySem.W.cellsFrom_some sc.names n [] (.inl h)
  exact Option.isSome_iff_exists.mp q

theorem inv_start {CX : CXT} {P : Program} {w : World} {K : PySem.W.Frag} {mg : Str → Option Value} {base : Heap} {N ps : List Str} {qual : Str} {scope : Scope} {f : Addr} {cd : Value} {A : Around} {outer : List Env} {s s1 : Shared} {H : Hp} {E : XK} {us : List Value} {vs : List V}
    (S : FnScope N ps scope) (hd : A.handled = none) (e0 : Env0 P w K mg base A outer s H) (hl : vs.length = ps.length) (r : Vals vs us)
    (x : InCallC s s.heap.objs.size (bindL (envOfC qual scope s.heap.objs.size f cd).kindOf (ps.zip us) fun _ => none) (cellsFrom (s.heap.objs.size + 1) scope.names []) (bindC (envOfC qual scope s.heap.objs.size f cd).kindOf (ps.zip us) fun _ => none) s1) :
    Inv (cxOf CX P w K mg base N qual scope f cd A outer s H E) [] (start N vs) H s1 := by
  have hpl : ps.length ≤ N.length := by have := congrArg List.length S.pre; rw [List.length_take] at this; omega
  obtain ⟨h1, tk, rfl, hk⟩ := x.done
  have noA : ∀ b : Addr, b ∉ (cxOf CX P w K mg base N qual scope f cd A outer s H E).ex := fun b z => absurd (show b ∈ ([] : List Addr) from z) (by simp)
  refine ⟨⟨e0.mod, S.kind, rfl, rfl, Nat.le_refl _, fun y z c h1 h2 => ?_, fun y hy => ?_, fun y c _ h => ?_, fun _ => hd, Around.frames_deeper e0.frames, .inr ⟨rfl, rfl⟩, fun b z => absurd z (noA b), e0.bs, e0.bsz, fun b _ _ => noA b, fun b z => absurd z (noA b), e0.funs, e0.frf⟩,
    rfl, e0.bare, Un.kept hk, ⟨_, x.toInCall.ns, fun i y v h1 h2 h3 => ?_⟩, fun y c h => ⟨_, x.cell y c h⟩, e0.hok.fresh (Nat.le_refl _), fun y c h => ?_, fun p hp => absurd (show p ∈ ([] : List (Addr × Obj)) from hp) (by simp), e0.hok.kept hk, ?_⟩
  · exact name_of_addr x.apart (PySem.mem_of_lookup h1) (PySem.mem_of_lookup h2)
  · have hy : scope.names.lookup y = some .cell ∨ scope.names.lookup y = some .free := hy
    rcases hy with hy | hy
    · exact cell_has hy
    · exact absurd rfl (S.nofree _ (PySem.mem_of_lookup hy))
  · exact Nat.le_of_lt (x.above y c (PySem.mem_of_lookup h))
  · have hi : i < vs.length := by
      unfold start at h2
      by_cases hi : i < vs.length
      · exact hi
      · rw [List.getElem?_append_right (by simpa using hi)] at h2
        rw [List.getElem?_replicate] at h2
        split at h2 <;> cases h2
    have ha : vs[i]? = some v := by
      unfold start at h2
      rw [List.getElem?_append_left (by simpa using hi), List.getElem?_map] at h2
      cases e : vs[i]? with
      | none => rw [e] at h2; cases h2
      | some a => rw [e] at h2; cases h2; rfl
    obtain ⟨u, hu, rv⟩ := r.get ha
    have hp : ps[i]? = some y := by
      rw [← S.pre, List.getElem?_take_of_lt (by omega)]; exact h1
    have ndP : ps.Nodup := by rw [← S.pre]; exact S.nd.sublist (List.take_sublist _ _)
    refine ⟨u, rv, ?_⟩
    rcases S.par y (List.mem_of_getElem? hp) with k | k
    · exact .inl ⟨k, bindL_get ndP hp hu k⟩
    · obtain ⟨c, e⟩ := cell_has (n := s.heap.objs.size + 1) k
      refine .inr ⟨.inl k, c, e, ?_⟩
      have q := x.cell y c e
      rw [bindC_get ndP hp hu (by show scope.names.lookup y ≠ _; rw [k]; decide)] at q
      exact q
  · exact e0.hok.fresh (Nat.le_of_lt (x.above y c (PySem.mem_of_lookup h)))
  · unfold start
    show _ = N.length
    rw [List.length_append, List.length_map, List.length_replicate]
    omega

/-- THE RULE: a def (or a method) of the text, by its body. The body's reading t is chosen for each entry; it is run at the parameters' values -/
theorem fn_of {CX : CXT} {P : Program} {w : World} {K : PySem.W.Frag} {mg : Str → Option Value} {base : Heap} {k : Nat} {f : Addr} {name qual : Str} {params : Arguments} {body : List Stmt} {scope : Scope} {dV kV doc pm cdv ct oc : Value} {an od : Option Addr}
    {osl : Array (Option Value)} {N ps : List Str} {sp : Sp} (lk : K.lookup f = some ⟨oc, od, .func (PySem.W.fnOf name qual params body scope dV kV doc pm an cdv ct), osl⟩) (hcd : PySem.W.codeIn K cdv qual = true) (S : FnScope N ps scope)
    (len : ∀ vs H Q E, sp vs H Q E → vs.length = ps.length)
    (hbody : ∀ (A : Around) (outer : List Env) (s : Shared) (H : Hp) (vs : List V) (Q : VK) (E : XK), Room k (A.deeper (envOfC qual scope s.heap.objs.size f cdv)) → sp vs H Q E →
      ∃ t, PSs (cxOf CX P w K mg base N qual scope f cdv A outer s H E) body t ∧ t { nx := fun _ H' => Q .non H', rt := Q } (start N vs) H) :
    FnOk P w K mg base CX (k + 1) f (PySem.W.fnOf name qual params body scope dV kV doc pm an cdv ct) ps sp := by
  refine ⟨len, fun A outer s H args us vs Q E hr e0 hb r hsp => ?_⟩
  have hl := len _ _ _ _ hsp
  have KX : K.In s.heap := e0.mod.kin.keeps fun b o e => (e0.bs b o e).1
  have lim : s.heap.NoLimit := e0.mod.nolimit.keeps fun b o e => (e0.bs b o e).1
  have hkind : ∀ y ∈ ps.zip us, scope.names.lookup y.1 = some .local ∨ (scope.names.lookup y.1 = some .cell ∧ ((cellsFrom (s.heap.objs.size + 1) scope.names []).lookup y.1).isSome = true) := fun ⟨n, v⟩ hy => by
    rcases S.par n (List.of_mem_zip hy).1 with q | q
    · exact .inl q
    · exact .inr ⟨q, PySem.W.cellsFrom_some _ _ _ (.inl q)⟩
  refine codeAny_call_function hr.depth (KX _ _ lk) rfl S.co S.gen rfl (PySem.W.codeRec_of KX hcd) (hb _ _ _ _ ?_)
  refine wpAny_newFunctionEnv_cells S.kind hkind fun env he s1 x => ?_
  subst he
  refine ⟨lim.keeps x.toInCall.keep, codeAny_func ?_⟩
  obtain ⟨t, ht, hq⟩ := hbody A outer s H vs Q E (hr.deeper _) hsp
  have I : Inv (cxOf CX P w K mg base N qual scope f cdv A outer s H E) [] (start N vs) H s1 := inv_start S hr.hd e0 hl r x
  refine wpAny_mono (ht [] s1 (start N vs) H _ I hq) (fun fl s' hs => ?_) fun e s' hs => hs
  have fin : ∀ {σ' : St} {H' : Hp} {v : V} {u : Value}, Inv (cxOf CX P w K mg base N qual scope f cdv A outer s H E) [] σ' H' s' → RelV v u → Q v H' → CE outer P w H s Q u s' :=
    fun {σ' H' v u} J rv q => ⟨v, H', J.os, J.bare, J.base, J.hok, rv, q⟩
  cases fl with
  | ret u =>
    obtain ⟨v, σ', H', J, rv, q⟩ := hs
    exact fin J rv q
  | next =>
    obtain ⟨σ', H', J, q⟩ := hs
    exact fin (v := V.non) (u := Value.none) J rfl q
  | brk =>
    obtain ⟨_, _, _, q⟩ := hs
    exact False.elim q
  | cont =>
    obtain ⟨_, _, _, q⟩ := hs
    exact False.elim q
end L2

namespace L2
open PySem PySem.Spec PyProof.Rows
section
variable {X : Cx} {x : Str} {p pos : Pos} {e : Expr} {es : List Expr} {t : TA} {id T : String} {r : List V → Hp → VK → Prop}

def tCB (r : List V → Hp → VK → Prop) (t : TA) : TE := fun σ H Q => t σ H fun vs H1 => r vs H1 Q
/-- f(e, ..), f a built-in function -/
theorem pe_callB (hc : CallR X (.builtin id) r) (hg : Gl X x) (hm : X.mg x = none) (hv : bootBuiltins x = some (.builtin id)) (ha : PA X (e :: es) t) (hn : x ≠ "__name__" := by decide) (hdb : (x == ("__debug__" : Str)) = false := by decide)
    (he : starEach (e :: es) X.env = (false, eval e X.env) :: starEach es X.env := by rfl) (hpl : (backTo pos (starEach es X.env)).any (·.1) = false := by rfl) : PE X (.Call (.Name x p) (e :: es) [] pos) (tCB r t) := by
  intro pins s σ H Q I h
  refine wpAny_Call_Name_kw (ld_blt I hg hm hv ?_ hn hdb)
  exact PyProof.Rows.callWith_builtin1 (thn (ha pos pins s σ H _ I h) fun us s1 ⟨vs, H1, I1, r1, q1⟩ => hc pins s1 σ H1 vs us Q I1 r1 q1) he hpl
/-- T(e, ..), T a built-in type -/
theorem pe_callTy (hc : CallR X (.type T) r) (hg : Gl X x) (hm : X.mg x = none) (hv : bootBuiltins x = some (.type T)) (ha : PA X (e :: es) t) (hn : x ≠ "__name__" := by decide) (hdb : (x == ("__debug__" : Str)) = false := by decide)
    (he : starEach (e :: es) X.env = (false, eval e X.env) :: starEach es X.env := by rfl) (hpl : (backTo pos (starEach es X.env)).any (·.1) = false := by rfl) : PE X (.Call (.Name x p) (e :: es) [] pos) (tCB r t) := by
  intro pins s σ H Q I h
  refine wpAny_Call_Name_kw (ld_blt I hg hm hv ?_ hn hdb)
  exact PyProof.Rows.callWith_type1 (thn (ha pos pins s σ H _ I h) fun us s1 ⟨vs, H1, I1, r1, q1⟩ => hc pins s1 σ H1 vs us Q I1 r1 q1) he hpl
end
end L2

namespace HT
open PySem PyProof.Rows



section
open PySem.SeqAt
open PySem.AutoSeq1 (wpAny_loadPart')
open PySem.MeetsSeq PySem.MeetsSeq2 PySem.MeetsSeq3

end

section
variable {prog : Program} {w : World} {A : Around} {E : Value → Shared → Prop} {s : Shared}



/-! ### t[a:b], not the whole -/
/-- a slice's bound as a place among n (d where it is left out) -/
def sIx (n d : Nat) : Option Int → Nat
  | none => d
  | some v => if v < 0 then (v + (n : Int)).toNat else min v.toNat n
theorem sIx_nat (n d k : Nat) : sIx n d (some (k : Int)) = min k n := by
  show (if (k : Int) < 0 then ((k : Int) + (n : Int)).toNat else min (k : Int).toNat n) = min k n
  rw [if_neg (by omega), Int.toNat_natCast]

end
end HT

namespace L2
open PySem PySem.Spec PyProof.Rows

/-! ### the parts of a slice -/
abbrev TO := St → Hp → (Option Int → Hp → Prop) → Prop
/-- a slice's part (left out, or an int) -/
def PO (X : Cx) (e : Option Expr) (t : TO) : Prop :=
  ∀ (pins : List (Addr × Obj)) (s : Shared) (σ : St) (H : Hp) (Q : Option Int → Hp → Prop), Inv X pins σ H s → t σ H Q →
    wpAny (model X.prog X.w) X.A (evalPart e X.env) (fun u s' => ∃ o H', Inv X pins σ H' s' ∧ IsPart u o ∧ Q o H') X.xe s
def tNoPart : TO := fun _ H Q => Q none H
def tPart (t : TE) : TO := fun σ H Q => t σ H fun x H1 => ∃ i, x = .int i ∧ Q (some i) H1


section
variable {X : Cx} {e : Expr} {te : TE} {lo hi : Option Expr} {tl th : TO} {pos p2 : Pos}

theorem po_none : PO X none tNoPart := by
  intro pins s σ H Q I h
  rw [evalPart_none]
  exact wpAny_pure ⟨none, H, I, .none, h⟩
theorem po_some (h : PE X e te) : PO X (some e) (tPart te) := by
  intro pins s σ H Q I hw
  rw [evalPart_some]
  refine thn (h pins s σ H _ I hw) fun u s1 ⟨x, H1, I1, r1, q1⟩ => ?_
  obtain ⟨i, rfl, q⟩ := q1
  obtain ⟨t, rfl⟩ := r1
  exact ⟨some i, H1, I1, .int i t, q⟩

/-- what a slice of a value is, by values: the slice object stands at sl -/
def SlR (X : Cx) (r : V → Option Int → Option Int → Hp → VK → Prop) : Prop :=
  ∀ (pins : List (Addr × Obj)) (s : Shared) (σ : St) (H : Hp) (x : V) (v vl vu : Value) (lo hi : Option Int) (sl : Addr) (Q : VK), Inv X pins σ H s → RelV x v → s.heap.IsSliceOf sl vl vu .none → IsPart vl lo → IsPart vu hi → r x lo hi H Q →
    ∃ T id, typeLookup (.type T) "__getitem__" = pure (some (.builtin id)) ∧ s.TypeIs v T ∧ wpAny (model X.prog X.w) X.A (getItem v (.ref sl)) (EP X pins σ Q) X.xe s
def tSl (r : V → Option Int → Option Int → Hp → VK → Prop) (te : TE) (tl th : TO) : TE := fun σ H Q => te σ H fun x H1 => tl σ H1 fun l H2 => th σ H2 fun u H3 => r x l u H3 Q
/-- a[lo:hi], any a -/
theorem pe_slice {r : V → Option Int → Option Int → Hp → VK → Prop} (hr : SlR X r) (he : PE X e te) (hl : PO X lo tl) (hu : PO X hi th) : PE X (.Subscript e (.Slice lo hi none p2) pos) (tSl r te tl th) := by
  intro pins s σ H Q I h
  refine Subscript_ (thn (he pins s σ H _ I h) fun v s1 ⟨x, H1, I1, r1, q1⟩ => ?_)
  refine wpAny_Slice (thn (hl pins s1 σ H1 _ I1 q1) fun vl s2 ⟨l, H2, I2, pl, q2⟩ => thn (hu pins s2 σ H2 _ I2 q2) fun vu s3 ⟨u, H3, I3, pu, q3⟩ => ?_)
  rw [evalPart_none]
  refine wpAny_pure ?_
  have I4 : Inv X pins σ H3 { s3 with heap := s3.heap.push { cls := .type "slice", data := .fields #[vl, vu, .none] } } := I3.kept (t' := s3.toks) fun b ob q => Heap.get?_push_of_some _ q
  obtain ⟨T, id, hT, ht, hg⟩ := hr pins { s3 with heap := s3.heap.push { cls := .type "slice", data := .fields #[vl, vu, .none] } } σ H3 x v vl vu l u s3.heap.objs.size Q I4 r1 (Heap.IsSliceOf.new ..) pl pu q3
  show wpAny (model X.prog X.w) X.A (subscriptTail e (.Slice lo hi none p2) v (.ref s3.heap.objs.size)) (EP X pins σ Q) X.xe { s3 with heap := s3.heap.push { cls := .type "slice", data := .fields #[vl, vu, .none] } }
  exact tail_any (ops := [.ref s3.heap.objs.size, v]) ht hT hg (by with_unfolding_all rfl)

/-- the items of xs[lo:hi] -/
def cutV (xs : List V) (lo hi : Option Int) : List V := (xs.drop (HT.sIx xs.length 0 lo)).take (HT.sIx xs.length xs.length hi - HT.sIx xs.length 0 lo)
theorem cutV_length (xs : List V) (lo hi : Option Int) : (cutV xs lo hi).length ≤ xs.length := by
  unfold cutV
  rw [List.length_take, List.length_drop]
  omega

/-! ### t < u, t + u -/
end
end L2

namespace L2
open PySem PySem.Spec PyProof.Rows

/-! ### places -/
/-- the place that an index of any sign means -/
def ixN (n : Nat) (i : Int) : Option Nat := if 0 ≤ i then (if i < n then some i.toNat else none) else if -(n : Int) ≤ i then some (i + n).toNat else none
def atI {α : Type} (xs : List α) (i : Int) : Option α := (ixN xs.length i).bind fun j => xs[j]?
theorem ixN_seq {n : Nat} {i : Int} {j : Nat} (h : ixN n i = some j) : seqIndex? i n = some j ∧ j < n ∧ -(n : Int) ≤ i ∧ i < n := by
  unfold ixN at h
  by_cases h0 : 0 ≤ i
  · rw [if_pos h0] at h
    by_cases h1 : i < n
    · rw [if_pos h1] at h
      have e : i.toNat = j := Option.some.inj h
      exact ⟨by rw [seqIndex_of h0 h1, e], by omega, by omega, h1⟩
    · rw [if_neg h1] at h; cases h
  · rw [if_neg h0] at h
    by_cases h1 : -(n : Int) ≤ i
    · rw [if_pos h1] at h
      have e : (i + n).toNat = j := Option.some.inj h
      exact ⟨by rw [seqIndex_neg (by omega) h1, e], by omega, h1, by omega⟩
    · rw [if_neg h1] at h; cases h
theorem atI_get {α : Type} {xs : List α} {i : Int} {v : α} (h : atI xs i = some v) : ∃ j, seqIndex? i xs.length = some j ∧ xs[j]? = some v ∧ j < xs.length ∧ -(xs.length : Int) ≤ i ∧ i < xs.length := by
  unfold atI at h
  cases e : ixN xs.length i with
  | none => rw [e] at h; cases h
  | some j =>
    rw [e] at h
    obtain ⟨h1, h2, h3, h4⟩ := ixN_seq e
    exact ⟨j, h1, h, h2, h3, h4⟩
theorem atI_nat {α : Type} {xs : List α} {j : Nat} {v : α} (h : xs[j]? = some v) : atI xs (j : Int) = some v := by
  have hj : j < xs.length := (List.getElem?_eq_some_iff.mp h).1
  have e : ixN xs.length (j : Int) = some j := by
    unfold ixN
    rw [if_pos (by omega), if_pos (by omega)]; simp
  unfold atI; rw [e]; exact h

/-! ### what may be subscripted -/
/-- what stands as an index of a plain subscript -/
def PlainIx (b : Expr) : Prop := ∀ o i, subscripted b false o i = operate [o, i] (getItem o i)
/-- a subscript by values -/
def IxR (X : Cx) (r : R2) : Prop :=
  ∀ (value slice : Expr) (pins : List (Addr × Obj)) (s : Shared) (σ : St) (H : Hp) (x y : V) (v u : Value) (Q : VK), Inv X pins σ H s → RelV x v → RelV y u → r x y H Q →
    subscripted slice false v u = operate [v, u] (getItem v u) → wpAny (model X.prog X.w) X.A (subscriptTail value slice v u) (EP X pins σ Q) X.xe s
/-- a call of a builtin's method by values: the receiver, the arguments -/
def MtR (X : Cx) (id : String) (r : V → List V → Hp → VK → Prop) : Prop :=
  ∀ (pins : List (Addr × Obj)) (s : Shared) (σ : St) (H : Hp) (x : V) (xs : List V) (v : Value) (us : List Value) (Q : VK), Inv X pins σ H s → RelV x v → Vals xs us → r x xs H Q →
    wpAny (model X.prog X.w) X.A (call (.builtin id) (v :: us)) (EP X pins σ Q) X.xe s
section
variable {X : Cx} {a b : Expr} {ta tb : TE} {pos : Pos}
/-- a[b] -/
theorem pe_ix {r : R2} (hr : IxR X r) (ha : PE X a ta) (hb : PE X b tb) (hs : PlainIx b) : PE X (.Subscript a b pos) (tOp r ta tb) := by
  intro pins s σ H Q I h
  exact Subscript_ (binT ha hb I h fun v u s2 x y H2 I2 rx ry q => hr a b pins s2 σ H2 x y v u Q I2 rx ry q (hs _ _))

def rIxL (K : PySem.W.Frag) : R2 := fun x y H Q => ∃ p xs i v, x = .ref p ∧ y = .int i ∧ SqL K H p xs ∧ atI xs i = some v ∧ Q v H
def rIxT (K : PySem.W.Frag) : R2 := fun x y H Q => ∃ p xs i v, x = .ref p ∧ y = .int i ∧ SqT K H p xs ∧ atI xs i = some v ∧ Q v H
theorem ix_list : IxR X (rIxL X.K) := by
  intro value slice pins s σ H x y v u Q I rx ry h hs
  obtain ⟨p, xs, i, z, rfl, rfl, hq, he, q⟩ := h
  cases rx
  obtain ⟨t, rfl⟩ := ry
  obtain ⟨its, r, pl, hz⟩ := I.list hq
  obtain ⟨j, h1, h2, h3, h4, h5⟩ := atI_get he
  obtain ⟨w, ew, rw'⟩ := r.get h2
  have hl := r.length
  have hn := line63
  have fin : EP X pins σ Q w s := ⟨z, H, I, rw', q⟩
  by_cases h0 : 0 ≤ i
  · have hj : i.toNat = j := by
      rw [seqIndex_of h0 h5] at h1
      exact Option.some.inj h1
    exact item_listR pl.isList h0 (by omega) (by rw [hj]; simpa using ew) fin hs
  · have hj : (i + (its.toArray.size : Int)).toNat = j := by
      rw [seqIndex_neg (by omega) h4] at h1
      rw [List.size_toArray, ← hl]
      exact Option.some.inj h1
    exact subscriptTail_builtinR (x := w) pl.isList.typeIs slot_list_getitem.lookup
      (wpAny_getItem_list_neg (Q := fun r s' => r = w ∧ EP X pins σ Q r s') pl.isList (by omega) (by rw [List.size_toArray] <;> omega) (by omega) (by rw [hj]; simpa using ew) ⟨rfl, fin⟩) hs
theorem ix_tup : IxR X (rIxT X.K) := by
  intro value slice pins s σ H x y v u Q I rx ry h hs
  obtain ⟨p, xs, i, z, rfl, rfl, hq, he, q⟩ := h
  cases rx
  obtain ⟨t, rfl⟩ := ry
  obtain ⟨its, r, pl, hz⟩ := I.tuple hq
  obtain ⟨j, h1, h2, h3, h4, h5⟩ := atI_get he
  obtain ⟨w, ew, rw'⟩ := r.get h2
  have hl := r.length
  have hn := line63
  have fin : EP X pins σ Q w s := ⟨z, H, I, rw', q⟩
  exact subscriptTail_builtinR (x := w) pl.typeIs slot_tuple_getitem.lookup
    (getItem_tuple (j := j) (Q := fun r s' => r = w ∧ EP X pins σ Q r s') pl (by omega) (by omega) (by rw [List.size_toArray, ← hl]; exact h1) (by simpa using ew) ⟨rfl, fin⟩) hs

/-! ### xs[i] = v, any sign -/
/-- the list's object behind a store -/
theorem mapSeq_set (its : List Value) (n j : Nat) (u : Value) : Obj.mapSeq (·.setIfInBounds j u) { cls := .type "list", data := .seq its.toArray n } = { cls := .type "list", data := .seq (its.set j u).toArray n } := by
  simp [Obj.mapSeq]
theorem Inv.lst {pins : List (Addr × Obj)} {σ : St} {H : Hp} {s : Shared} {p : Addr} {xs : List V} (I : Inv X pins σ H s) (h : H p = some (.lst xs)) :
    ∃ (its : List Value) (n : Nat), Vals xs its ∧ s.heap.get? p = some { cls := .type "list", data := .seq its.toArray n } ∧ xs.length ≤ sizeLine := by
  obtain ⟨z, its, n, r, e⟩ := I.hok p _ h
  exact ⟨its, n, r, e, z⟩
/-- the list at p is written by an update of its object -/
theorem Inv.lstUpd {pins : List (Addr × Obj)} {σ : St} {H : Hp} {s : Shared} {p : Addr} {xs ys : List V} {its its' : List Value} {n n' : Nat} {f : Obj → Obj} (I : Inv X pins σ H s) (h : H p = some (.lst xs))
    (ho : s.heap.get? p = some { cls := .type "list", data := .seq its.toArray n }) (hf : f { cls := .type "list", data := .seq its.toArray n } = { cls := .type "list", data := .seq its'.toArray n' }) (r : Vals ys its') (hz : ys.length ≤ sizeLine) (t : Nat) :
    Inv X pins σ (upd H p (.lst ys)) { s with heap := s.heap.update p f, toks := t } := by
  have e : (s.heap.update p f).get? p = some { cls := .type "list", data := .seq its'.toArray n' } := by
    rw [Heap.get?_update_self f ho (by rw [hf] <;> rfl), hf]
  refine I.write (x := p) (e := p) (by rw [h]; trivial) (.inl rfl) (fun b u hb q => (Heap.get?_update_other _ _ (Ne.symm hb)).trans q) ⟨_, e⟩ ?_
  exact ⟨hz, its', n', r, e⟩
def rSetL : V → V → V → Hp → (Hp → Prop) → Prop := fun o i v H Q => ∃ p xs k j, o = .ref p ∧ i = .int k ∧ H p = some (.lst xs) ∧ ixN xs.length k = some j ∧ Q (upd H p (.lst (xs.set j v)))
theorem set_list : PSet X rSetL := by
  intro pins s σ H o i v ov iv u Q I ro ri rv h
  obtain ⟨p, xs, k, j, rfl, rfl, hp, hj, q⟩ := h
  cases ro
  obtain ⟨t, rfl⟩ := ri
  obtain ⟨its, n, r, ho, hz⟩ := I.lst hp
  obtain ⟨h1, h2, h3, h4⟩ := ixN_seq hj
  have hl := r.length
  have hn := line63
  have I' : Inv X pins σ (upd H p (.lst (xs.set j v))) { s with heap := s.heap.update p (Obj.mapSeq (·.setIfInBounds j u)) } :=
    I.lstUpd hp ho (mapSeq_set its n j u) (r.set rv j) (by rw [List.length_set]; exact hz) s.toks
  by_cases h0 : 0 ≤ k
  · have hk : k.toNat = j := by
      rw [seqIndex_of h0 h4] at h1
      exact Option.some.inj h1
    exact PySem.W.ki_setAt ho h0 (by omega) (by rw [List.size_toArray, ← hl]; exact h4) (by rw [hk]; exact ⟨_, I', q⟩)
  · have hk : (k + (its.toArray.size : Int)).toNat = j := by
      rw [seqIndex_neg (by omega) h3] at h1
      rw [List.size_toArray, ← hl]
      exact Option.some.inj h1
    exact PySem.W.ki_setBack ho (by omega) (by rw [List.size_toArray, ← hl]; exact h3) (by omega) (by rw [hk]; exact ⟨_, I', q⟩)

/-! ### slices -/
theorem slice_bounds (lo hi : Option Int) (n : Nat) : (sliceBounds lo hi none n).1 = ((HT.sIx n 0 lo : Nat) : Int) ∧ (sliceBounds lo hi none n).2.1 = ((HT.sIx n n hi : Nat) : Int) ∧ (sliceBounds lo hi none n).2.2 = 1 := by
  refine ⟨?_, ?_, rfl⟩
  · cases lo with
    | none => simp [sliceBounds, HT.sIx]
    | some i =>
      simp only [sliceBounds, HT.sIx, Option.getD_none, show (1 : Int) > 0 by decide, if_true]
      by_cases h : i < 0
      · simp only [h, if_true] <;> omega
      · simp only [h, if_false] <;> omega
  · cases hi with
    | none => simp [sliceBounds, HT.sIx]
    | some i =>
      simp only [sliceBounds, HT.sIx, Option.getD_none, show (1 : Int) > 0 by decide, if_true]
      by_cases h : i < 0
      · simp only [h, if_true] <;> omega
      · simp only [h, if_false] <;> omega
theorem slicePick_cut (its : List Value) (lo hi : Option Int) : slicePick its.toArray lo hi none = ((its.drop (HT.sIx its.length 0 lo)).take (HT.sIx its.length its.length hi - HT.sIx its.length 0 lo)).toArray := by
  obtain ⟨h1, h2, h3⟩ := slice_bounds lo hi its.toArray.size
  unfold slicePick
  rw [h1, h2, h3]
  simp only [sliceRange_one, pick_run, List.size_toArray] <;> rfl
/-- xs[lo:hi] of a list: a new list -/
def rSlL (K : PySem.W.Frag) : V → Option Int → Option Int → Hp → VK → Prop := fun x lo hi H Q => ∃ a xs, x = .ref a ∧ SqL K H a xs ∧ ∀ p, H p = none → Q (.ref p) (upd H p (.lst (cutV xs lo hi)))
theorem sl_list : SlR X (rSlL X.K) := by
  intro pins s σ H x v vl vu lo hi sl Q I rx hs pl pu h
  obtain ⟨a, xs, rfl, hx, q⟩ := h
  cases rx
  obtain ⟨its, r, ht, hz⟩ := I.list hx
  have hlen := r.length
  refine ⟨"list", _, slot_list_getitem.lookup, ht.isList.typeIs, ?_⟩
  refine wpAny_getItem_list_slice ht.isList hs pl pu .none (by simp) ?_ (by rw [List.size_toArray] <;> omega)
  rw [slicePick_cut, ← hlen]
  refine ⟨.ref s.heap.objs.size, _, I.laid (t' := s.toks) (o := .lst (cutV xs lo hi)) (fun b ob q => Heap.get?_push_of_some _ q) (Nat.le_refl _) ?_, rfl, q _ (I.hok.fresh (Nat.le_refl _))⟩
  exact ⟨Nat.le_trans (cutV_length xs lo hi) hz, _, 0, (r.drop (HT.sIx xs.length 0 lo)).take (HT.sIx xs.length xs.length hi - HT.sIx xs.length 0 lo), Heap.get?_push_size _ rfl⟩

/-! ### in, not in: flat items -/

/-! ### len, list(x), tuple(x) of any list or tuple that is read -/
theorem call_len_seq : CallR X (.builtin "len") (fun xs H Q => ∃ p ys, xs = [.ref p] ∧ (SqL X.K H p ys ∨ SqT X.K H p ys) ∧ Q (.int ys.length) H) := by
  intro pins s σ H xs us Q I r h
  obtain ⟨p, ys, rfl, hq, q⟩ := h
  obtain ⟨u, rfl, rx⟩ := vals1 r
  cases rx
  have hn := line63
  rcases hq with hq | hq
  · obtain ⟨its, r', pl, hz⟩ := I.list hq
    have hlen := r'.length
    exact Calls.call_len_list pl.isList (by simp only [List.size_toArray] <;> omega) ⟨.int ys.length, H, I.tok _, ⟨s.toks + 1, by rw [List.size_toArray, hlen]⟩, q⟩
  · obtain ⟨its, r', pl, hz⟩ := I.tuple hq
    have hlen := r'.length
    exact len_tuple pl (by simp only [List.size_toArray] <;> omega) ⟨.int ys.length, H, I.tok _, ⟨s.toks + 1, by rw [List.size_toArray, hlen]⟩, q⟩
theorem call_list_of : CallR X (.type "list") (fun xs H Q => ∃ p ys, xs = [.ref p] ∧ (SqL X.K H p ys ∨ SqT X.K H p ys) ∧ ∀ l, H l = none → Q (.ref l) (upd H l (.lst ys))) := by
  intro pins s σ H xs us Q I r h
  obtain ⟨p, ys, rfl, hq, q⟩ := h
  obtain ⟨u, rfl, rx⟩ := vals1 r
  cases rx
  have fin : ∀ (its : List Value), Vals ys its → ys.length ≤ sizeLine → ∀ (h' : Heap) (c' : Nat), (∀ b o', s.heap.get? b = some o' → h'.get? b = some o') →
      h'.get? s.heap.objs.size = some { cls := .type "list", dict := none, data := .seq its.toArray c', slots := #[] } → EP X pins σ Q (.ref s.heap.objs.size) { s with heap := h' } := fun its r' hz h' c' kp e =>
    ⟨.ref s.heap.objs.size, _, I.laid (t' := s.toks) kp (Nat.le_refl _) (show ObjOk X.prog X.w _ h' _ (.lst ys) from ⟨hz, its, c', r', e⟩), rfl, q _ (I.hok.fresh (Nat.le_refl _))⟩
  rcases hq with hq | hq
  · obtain ⟨its, r', pl, hz⟩ := I.list hq
    have hlen := r'.length
    obtain ⟨o, ho, hc, n, hd⟩ := pl.isList
    exact call_list_seq p (.inl rfl) ho hc hd (fun h' c' kp e => fin its r' hz h' c' kp e) (by simp only [List.size_toArray] <;> omega)
  · obtain ⟨its, r', pl, hz⟩ := I.tuple hq
    have hlen := r'.length
    obtain ⟨o, ho, hc, n, hd⟩ := pl
    exact call_list_seq p (.inr rfl) ho hc hd (fun h' c' kp e => fin its r' hz h' c' kp e) (by simp only [List.size_toArray] <;> omega)

/-! ### the call of a builtin's method: o.m(..) -/
/-- the value is of that builtin type -/
def tyV (K : PySem.W.Frag) (T : String) (x : V) (H : Hp) : Prop := match x with
  | .str _ => T = "str"
  | .int _ => T = "int"
  | .ref p => (T = "list" ∧ ∃ xs, SqL K H p xs) ∨ (T = "tuple" ∧ ∃ o, K.lookup p = some o ∧ o.cls = .type "tuple" ∧ o.dict = none) ∨
      (T = "dict" ∧ ((∃ kvs, H p = some (.dK kvs)) ∨ ∃ kvs, H p = some (.dT kvs))) ∨ (T = "set" ∧ ∃ S n, H p = some (.set S n))
  | _ => False
theorem tyV_is {pins : List (Addr × Obj)} {σ : St} {H : Hp} {s : Shared} {T : String} {x : V} {v : Value} (I : Inv X pins σ H s) (r : RelV x v) (ty : tyV X.K T x H) :
    s.TypeIs v T ∧ ∀ a, v = .ref a → ∃ ob, s.heap.get? a = some ob ∧ ob.dict = none := by
  cases x with
  | str z =>
    obtain ⟨t, rfl⟩ := r
    cases (show T = "str" from ty)
    exact ⟨typeIs_str s z t, fun _ e => nomatch e⟩
  | int i =>
    obtain ⟨t, rfl⟩ := r
    cases (show T = "int" from ty)
    exact ⟨typeIs_int s i t, fun _ e => nomatch e⟩
  | ref p =>
    cases r
    rcases ty with ⟨rfl, xs, hq⟩ | ⟨rfl, o, hk, hc, hd⟩ | ⟨rfl, hk⟩ | ⟨rfl, S, n, hk⟩
    · obtain ⟨its, _, pl, _⟩ := I.list hq
      refine ⟨pl.isList.typeIs, fun a e => ?_⟩
      cases e
      obtain ⟨o, n, e, c, hd, _⟩ := pl
      exact ⟨o, e, hd⟩
    · refine ⟨⟨o, I.kIn p o hk, hc⟩, fun a e => ?_⟩
      cases e
      exact ⟨o, I.kIn _ o hk, hd⟩
    · have z : ∃ o, s.heap.get? p = some o ∧ o.ExactDict := by
        rcases hk with ⟨kvs, hk⟩ | ⟨kvs, hk⟩
        · obtain ⟨_, _, _, _, o, _, _, e, ex, _⟩ := I.hok p _ hk
          exact ⟨o, e, ex⟩
        · obtain ⟨_, _, _, _, o, _, _, e, ex, _⟩ := I.hok p _ hk
          exact ⟨o, e, ex⟩
      obtain ⟨o, e, ex⟩ := z
      refine ⟨⟨o, e, ex.1⟩, fun a e2 => ?_⟩
      cases e2
      exact ⟨o, e, ex.2.1⟩
    · obtain ⟨o, _, _, _, e, ex, _⟩ := I.hok p _ hk
      refine ⟨⟨o, e, ex.1⟩, fun a e2 => ?_⟩
      cases e2
      exact ⟨o, e, ex.2.1⟩
  | _ => exact False.elim ty
def tBM (K : PySem.W.Frag) (T : String) (r : V → List V → Hp → VK → Prop) (to : TE) (t : TA) : TE := fun σ H Q => to σ H fun x H1 => tyV K T x H1 ∧ t σ H1 fun xs H2 => r x xs H2 Q
variable {o e : Expr} {es : List Expr} {to : TE} {t : TA} {name : Str} {apos cpos : Pos} {T id : String} {r : V → List V → Hp → VK → Prop}
theorem pe_bm (pa : PlainAttrs T) (slot : Slot T name id) (hty : typeOf (.builtin id) = pure (.type "method_descriptor")) (hm : MtR X id r) (ho : PE X o to) (ha : PA X (e :: es) t)
    (hbase : attributeBase o name X.env (eval o X.env) = eval o X.env := by rfl)
    (hfew : ((backTo cpos (starEach (e :: es) X.env)).all (fun x => !x.1) && (backToKw cpos (keywordEach [] X.env)).all (fun x => x.1.isSome)
      && decide ((e :: es).length + ([] : List Keyword).length + (if ([] : List Keyword).isEmpty then 0 else 1) < 30)) = true := by rfl)
    (hline : (apos.endLine == cpos.line) = true := by rfl) (hs : starEach (e :: es) X.env = (false, eval e X.env) :: starEach es X.env := by rfl) (hplain : (backTo cpos (starEach es X.env)).any (·.1) = false := by rfl) :
    PE X (.Call (.Attribute o name apos) (e :: es) [] cpos) (tBM X.K T r to t) := by
  intro pins s σ H Q I h
  refine wpAny_Call_method_late hbase hfew hline rfl (thn (ho pins s σ H _ I h) fun v s1 ⟨x, H1, I1, r1, ty, q1⟩ => ?_)
  obtain ⟨h1, h2⟩ := tyV_is I1 r1 ty
  refine ⟨T, id, pa, slot, hty, h1, h2, ?_⟩
  have hA := ha cpos pins s1 σ H1 _ I1 q1
  rw [hs] at hA ⊢
  refine Calls.callWith_builtin (by show (false || (backTo cpos (starEach es X.env)).any (·.1)) = false; rw [hplain] <;> rfl) (Calls.evalArgs_plain ?_)
  exact thn hA fun us s2 ⟨vs, H2, I2, r2, q2⟩ => hm pins s2 σ H2 x vs v us Q I2 r1 r2 q2
/- xs.append(e), list.index on a module's tuple .. are MtR facts of 06m -/
end
end L2

namespace L2
open PySem PySem.Spec PyProof.Rows

def MtM (X : Cx) (id : String) (r : V → List V → Hp → VK → Prop) : Prop :=
  ∀ (pins : List (Addr × Obj)) (s : Shared) (σ : St) (H : Hp) (x : V) (xs : List V) (v : Value) (us : List Value) (Q : VK), Inv X pins σ H s → RelV x v → Vals xs us → r x xs H Q →
    wpAny (model X.prog X.w) X.A (call (.builtin id) (v :: us)) (EP X pins σ Q) X.xe s

/-! ### lists of values -/
theorem Vals.one : ∀ {x : V} {us : List Value}, Vals [x] us → ∃ u, us = [u] ∧ RelV x u
  | _, _, .cons r .nil => ⟨_, rfl, r⟩
theorem Vals.two : ∀ {x y : V} {us : List Value}, Vals [x, y] us → ∃ u v, us = [u, v] ∧ RelV x u ∧ RelV y v
  | _, _, _, .cons r (.cons q .nil) => ⟨_, _, rfl, r, q⟩
theorem Vals.eraseIdx : ∀ {xs : List V} {us : List Value} (i : Nat), Vals xs us → Vals (xs.eraseIdx i) (us.eraseIdx i)
  | _, _, _, .nil => .nil
  | _, _, 0, .cons _ t => t
  | _, _, i + 1, .cons r t => .cons r (Vals.eraseIdx i t)
theorem len_erase {α : Type} : ∀ (l : List α) (i : Nat), (l.eraseIdx i).length ≤ l.length
  | [], _ => Nat.le_refl _
  | _ :: _, 0 => Nat.le_succ _
  | _ :: r, i + 1 => Nat.succ_le_succ (len_erase r i)

section
variable {X : Cx} {pins : List (Addr × Obj)} {σ : St} {H : Hp} {s : Shared} {l b : Addr} {xs ys zs : List V}

/-! ### the two steps: a tracked list is rewritten, a new list is laid -/
theorem Inv.lset {its its' : List Value} {n : Nat} {f : Array Value → Array Value} {t' : Nat} (I : Inv X pins σ H s) (hH : H l = some (.lst xs))
    (e : s.heap.get? l = some { cls := .type "list", data := .seq its.toArray n }) (hf : f its.toArray = its'.toArray) (hv : Vals ys its') (hz : ys.length ≤ sizeLine) :
    Inv X pins σ (upd H l (.lst ys)) { s with heap := s.heap.update l (Obj.mapSeq f), toks := t' } := by
  have q := PySem.IsL.update e f
  rw [hf] at q
  refine I.write (x := l) (e := l) (by rw [hH]; exact trivial) (.inl rfl) (fun b' u hb hu => (Heap.get?_update_other s.heap (Obj.mapSeq f) (Ne.symm hb)).trans hu) ⟨_, q⟩ ?_
  exact ⟨hz, its', _, hv, q⟩
theorem Inv.lnew {its : List Value} {t' : Nat} (I : Inv X pins σ H s) (hv : Vals ys its) (hz : ys.length ≤ sizeLine) :
    Inv X pins σ (upd H s.heap.objs.size (.lst ys)) { s with heap := s.heap.push { cls := .type "list", data := .seq its.toArray }, toks := t' } :=
  I.laid (fun _ _ q => Heap.get?_push_of_some _ q) (Nat.le_refl _) ⟨hz, its, 0, hv, Heap.get?_push_size _ rfl⟩
theorem Inv.fresh (I : Inv X pins σ H s) : H s.heap.objs.size = none := I.hok.fresh (Nat.le_refl _)
theorem Inv.lstM (I : Inv X pins σ H s) (hH : H l = some (.lst xs)) : xs.length ≤ sizeLine ∧ ∃ (its : List Value) (n : Nat), Vals xs its ∧ xs.length = its.length ∧ s.heap.get? l = some { cls := .type "list", data := .seq its.toArray n } := by
  obtain ⟨z, its, n, r, e⟩ := I.hok l _ hH
  exact ⟨z, its, n, r, r.length, e⟩

end

section
variable {X : Cx}

/-! ### methods -/
def rAppend : V → List V → Hp → VK → Prop := fun x vs H Q => ∃ l xs y, x = .ref l ∧ vs = [y] ∧ H l = some (.lst xs) ∧ xs.length < sizeLine ∧ Q .non (upd H l (.lst (xs ++ [y])))
theorem mt_append : MtM X "list.append" rAppend := by
  intro pins s σ H x vs v us Q I rx rv h
  obtain ⟨l, xs, y, rfl, rfl, hH, hz, q⟩ := h
  cases rx
  obtain ⟨u, rfl, ru⟩ := rv.one
  obtain ⟨z, its, n, r, hl, e⟩ := I.lstM hH
  refine call_meets F.slot_list_append ⟨_, e, rfl⟩ F.entry_list_append (F.args_list_append_2 _ _) (PySem.list_append l its.toArray n u (by rw [List.size_toArray]; omega)) ⟨e, ?_⟩
  refine ⟨.non, _, I.lset (its' := its ++ [u]) hH e (by simp) (r.append (.cons ru .nil)) ?_, rfl, q⟩
  rw [List.length_append, List.length_singleton]
  omega



def rPopAt : V → List V → Hp → VK → Prop := fun x vs H Q => ∃ l xs i k y, x = .ref l ∧ vs = [.int i] ∧ H l = some (.lst xs) ∧ -(2 ^ 63) ≤ i ∧ i < 2 ^ 63 ∧ seqIndex? i xs.length = some k ∧ xs[k]? = some y ∧ Q y (upd H l (.lst (xs.eraseIdx k)))
theorem mt_popAt : MtM X "list.pop" rPopAt := by
  intro pins s σ H x vs v us Q I rx rv h
  obtain ⟨l, xs, i, k, y, rfl, rfl, hH, h1, h2, hk, hy, q⟩ := h
  cases rx
  obtain ⟨u, rfl, ru⟩ := rv.one
  obtain ⟨t, rfl⟩ := ru
  obtain ⟨z, its, n, r, hl, e⟩ := I.lstM hH
  obtain ⟨w, hw, rw'⟩ := r.get hy
  refine call_meets F.slot_list_pop ⟨_, e, rfl⟩ F.entry_list_pop (F.args_list_pop_2 _ _)
    (MeetsSeq.list_pop_at l its.toArray n i t k w (fitsIndex_both h1 h2) (by rw [List.size_toArray, ← hl]; exact hk) (by rw [← Array.getElem?_toList]; exact hw) (by rw [List.size_toArray]; omega)) ⟨e, ?_⟩
  refine ⟨y, _, I.lset (its' := its.eraseIdx k) hH e ?_ (r.eraseIdx k) ?_, rw', q⟩
  · show its.toArray.eraseIdxIfInBounds k = (its.eraseIdx k).toArray
    rw [List.eraseIdxIfInBounds_toArray]
  · have := len_erase xs k
    omega



/-! ### list + list, list += list, list * int -/
def rCat : R2 := fun x y H Q => ∃ l b xs zs, x = .ref l ∧ y = .ref b ∧ H l = some (.lst xs) ∧ H b = some (.lst zs) ∧ xs.length + zs.length ≤ sizeLine ∧ ∀ p, H p = none → Q (.ref p) (upd H p (.lst (xs ++ zs)))
theorem op_cat : OpR X (binaryOp .Add) rCat := by
  intro pins s σ H x y v u Q I rx ry h
  obtain ⟨l, b, xs, zs, rfl, rfl, hH, hB, hz, q⟩ := h
  cases rx
  cases ry
  obtain ⟨z, its, n, r, hl, e⟩ := I.lstM hH
  obtain ⟨z2, its2, n2, r2, hl2, e2⟩ := I.lstM hB
  refine PySem.P.add_list e e2 ?_ (by rw [List.size_toArray, List.size_toArray]; omega)
  have ea : its.toArray ++ its2.toArray = (its ++ its2).toArray := by simp
  rw [ea]
  exact ⟨.ref _, _, I.lnew (t' := s.toks) (r.append r2) (by rw [List.length_append]; omega), rfl, q _ I.fresh⟩

/-! ### del xs[i] -/
end

/-! ### xs[a:b] = ys -/
section
variable {prog : Program} {w : World} {A : Around} {E : Value → Shared → Prop} {s : Shared}
end

section
variable {X : Cx}
end
end L2

namespace Att
open PySem PySem.W PySem.Calls PyProof.Rows

/-! ### the script -/
theorem ints_of_wellAll {P : Params} {h : Heap} : ∀ (ns : List Int) (vs : List Value), WellAll P h vs (ns.map WData.int) → IntsAre vs ns := by
  intro ns
  induction ns with
  | nil =>
    intro vs w
    rw [List.map_nil] at w
    cases w
    exact .nil
  | cons n ns ih =>
    intro vs w
    rw [List.map_cons] at w
    cases w with
    | cons a b =>
      cases a
      exact .cons _ _ (ih _ b)

theorem script_of {l : OpenLaw} {n : Nat} (hn : l.most = some n) {P : Params} {h : Heap} {args : List WData} {vals : List Value}
    (hpre : l.row.toRowW.claim.pre args = true) (hwl : WellAll P h vals args) :
    ∃ a vs ns, vals = [Value.ref a] ∧ args = [WData.list (ns.map WData.int)] ∧ h.get? a = some { cls := .type "list", data := .seq vs.toArray } ∧ IntsAre vs ns ∧ ns.length ≤ n := by
  have hsh : WShape.hasAll [] args [.list .int] = true := (pre_splitW hpre).1
  have hc : l.pre.holds [] { args := args } = true := (pre_splitW hpre).2
  obtain ⟨d, r, rfl, h1, h2⟩ := hasAllW_cons hsh
  obtain rfl := hasAllW_nil h2
  obtain ⟨xs, rfl, h3⟩ := hasW_list h1
  obtain ⟨ns, rfl⟩ := items_int h3
  have hlen : ns.length ≤ n := by
    unfold OpenLaw.pre at hc
    have h4 : (WTm.not (.lt (.lit (.int (n : Int))) (.len (.arg 0)))).holds [] { args := [.list (ns.map .int)] } = true := by
      have h4 := (holds_andW hc).1
      rw [hn] at h4
      exact h4
    have h5 := condW_of h4 (w_not (w_lt w_lit (w_len_list (w_arg rfl))))
    rw [List.length_map] at h5
    refine Nat.le_of_not_lt fun q => ?_
    have q' : (n : Int) < ((ns.length : Nat) : Int) := by omega
    first
      | (rw [decide_eq_true q'] at h5; exact absurd h5 (by decide))
      | (simp at h5; omega)
  cases hwl with
  | cons w1 w2 =>
    cases w2
    cases w1 with
    | list ho hall => exact ⟨_, _, ns, rfl, rfl, ho, ints_of_wellAll ns _ hall, hlen⟩

theorem post_true (l : OpenLaw) (args : List WData) : l.row.toRowW.claim.post args (.bool true) args = true :=
  postW_of (r := l.row.toRowW) (X := (true == true))
    (show WShape.has [] (.bool true) .bool = true by first | rfl | decide | simp [WShape.has, WShape.arms, WShape.armsAll])
    (show (WTm.eq .res (.lit (.bool true))).value [] { args := args, res := some (.bool true), after := args } = some (.bool (true == true)) from w_eq_bool (w_res rfl) w_lit) rfl

/-! ### the attachment: holds_open's last premise (the goal 'hc' behind k_head) from a wpAny of the law's body -/

/-- the same from a codeAny of the CALL (for a layer whose function contracts speak of calls) -/
theorem attach_call {l : OpenLaw} {n : Nat} {q : Program} {loose : List Str} {XP : (Str → Option Value) → Heap → Prop} {YP : World → Heap → Prop} {d : DefRec}
    (hn : l.most = some n) (hdf : d.params.defaults = [])
    (call : ∀ (w : World) (s₀ s₁ : Shared) (mg mb : Str → Option Value) (fa : Addr) (o : Obj) (pm cd doc : Value) (a : Addr) (vs : List Value) (ns : List Int),
      Ground q loose [] XP w s₀ mg mb s₁.heap → YP w s₁.heap →
      s₁.heap.get? fa = some o → o.data = .func (docDef d.name d.params d.body d.scope pm cd doc) → s₁.heap.CodeRec cd d.name → mg d.name = some (.ref fa) →
      s₁.heap.get? a = some { cls := .type "list", data := .seq vs.toArray } → IntsAre vs ns → ns.length ≤ n → s₁.gens = #[] →
      codeAny (model l.prog w) callerA (.call (.ref fa) ⟨[.ref a], []⟩) (fun r s' => r = .ok (.ret (.bool true)) ∧ OldK s₁.heap s'.heap ∧ s'.os = s₁.os ∧ AllBare s'.gens) s₁) :
    WalkO q loose XP YP l.row.toRowW d [] (fun f vs => PySem.call f vs) := by
  intro w s₀ s₁ mg mb G Y fa o pm cd doc dV kV ho hd hcd hD hmg hg args vals as hpre hlay hrd hwl hlo
  obtain rfl : dV = .none := Dflts.none hD hdf
  obtain rfl : kV = .none := Dflts.noKw hD
  obtain ⟨a, vs, ns, rfl, rfl, hobj, hints, hlen⟩ := script_of hn hpre hwl
  refine enter_call (codeAny_mono (call w s₀ s₁ mg mb fa o pm cd doc a vs ns G Y ho (fd_plain hd) hcd hmg hobj hints hlen hg) fun r s' hq => ?_)
  obtain ⟨rfl, h2, h3, h4⟩ := hq
  exact ⟨.inl ⟨.bool true, .bool true, [], rfl, fun _ => rfl, .bool true, post_true l _, fun _ => ⟨List.Pairwise.nil, fun _ hm => (nomatch hm)⟩⟩, h2, h3, h4⟩


/-! ### rules over ANY heap (no ledger) from facts about the written part K: the library's own take a ledger (News) for what they write -/
section
variable {prog : Program} {w : World} {A : Around} {E : Value → Shared → Prop} {s : Shared} {K : Frag}





/-! the whole heap as the ledger: makes every rule that writes through a ledger a rule over any heap -/

end
end Att

namespace L2
open PySem PySem.Spec PyProof.Rows

theorem vals_ints : ∀ {vs : List Value} {ns : List Int}, IntsAre vs ns → Vals (ns.map V.int) vs
  | _, _, .nil => .nil
  | _, _, .cons n t h => .cons ⟨t, rfl⟩ (vals_ints h)

/-- nothing is tracked but the script, known to the object (or it is an object of the module) -/
def Only (H : Hp) : Prop := ∀ b, H b = none ∨ ∃ o xs, H b = some (.frz o (.lst xs))

/-- THE HEAD: the law's promise, at the heap behind the top. F, the promise of the law's def, may use that base is part of the heap (so K.In base, base.Ns mainGlobals mg stand in Mod) -/
theorem law_call {P : Program} {w : World} {K : PySem.W.Frag} {mg mb : Str → Option Value} {CX : CXT} {k : Nat} {fa a : Addr} {fd : FuncData} {x : Str} {sp : Sp} {s₁ : Shared} {vs : List Value} {ns : List Int}
    (KX : K.In s₁.heap) (hns : s₁.heap.Ns mainGlobals mg) (hb : s₁.heap.Ns builtinsNs mb) (hbb : ∀ x : Str, x ≠ "__name__" → mb x = bootBuiltins x) (hlim : s₁.heap.NoLimit) (hg : s₁.gens = #[])
    (ha : s₁.heap.get? a = some { cls := .type "list", data := .seq vs.toArray }) (hi : IntsAre vs ns) (hl : ns.length ≤ sizeLine) (hr : Room k callerA)
    (F : ∀ base : Heap, K.In base → base.Ns mainGlobals mg → FnOk P w K mg base CX k fa fd [x] sp) (hbind : ∀ (s : Shared) (u : Value), BindsTo s fd ⟨[u], []⟩ [(x, u)])
    (hsp : ∀ H : Hp, Only H → SqL K H a (ns.map V.int) → sp [.ref a] H (fun v _ => v = .bl true) fun _ _ _ => False)
    (hCX : ∀ H e s', CX [] H s₁ (fun _ _ _ => False) e s' → False) :
    codeAny (model P w) callerA (.call (.ref fa) ⟨[.ref a], []⟩) (fun r s' => r = .ok (.ret (.bool true)) ∧ OldK s₁.heap s'.heap ∧ s'.os = s₁.os ∧ AllBare s'.gens) s₁ := by
  have rv := vals_ints hi
  have lenV := hi.length
  -- from an abstract heap in which nothing but the script may be tracked
  have core : ∀ H : Hp, Only H → SqL K H a (ns.map V.int) → HOk P w H s₁.heap → (∀ b, H b ≠ none → b = a) → (H a ≠ none → K.lookup a = none) →
      codeAny (model P w) callerA (.call (.ref fa) ⟨[.ref a], []⟩) (fun r s' => r = .ok (.ret (.bool true)) ∧ OldK s₁.heap s'.heap ∧ s'.os = s₁.os ∧ AllBare s'.gens) s₁ := by
    intro H hO hS hok hA hK
    have base_of : ∀ {b : Addr} {o : Obj}, s₁.heap.get? b = some o → H b = none → (hidT s₁.heap H).get? b = some o := fun e n => hidT_get e n
    have noA : ∀ {b : Addr} {o : Obj} {es : Array DictEntry} {ep : Nat}, s₁.heap.get? b = some o → o.data = .dict es ep → H b = none := fun {b o es ep} e d => by
      cases q : H b with
      | none => rfl
      | some u =>
        have e' : b = a := hA b (by rw [q]; simp)
        subst e'
        rw [ha] at e; cases e
        have d' : Data.seq vs.toArray _ = Data.dict es ep := d
        cases d'
    have nsK : ∀ {b : Addr} {m : Str → Option Value}, s₁.heap.Ns b m → (hidT s₁.heap H).Ns b m := fun {b m} ⟨o, es, ep, e, d, r⟩ => ⟨o, es, ep, base_of e (noA e d), d, r⟩
    have hKb : K.In (hidT s₁.heap H) := fun b o e => base_of (KX b o e) (by
      cases q : H b with
      | none => rfl
      | some u =>
        have e' : b = a := hA b (by rw [q]; simp)
        subst e'
        rw [hK (by rw [q]; simp)] at e; cases e)
    have hM : Mod K mg (hidT s₁.heap H) := ⟨hKb, nsK hns, ⟨mb, nsK hb, hbb⟩, let ⟨mc, h1, h2⟩ := hlim; ⟨mc, nsK h1, h2⟩⟩
    have e0 : Env0 P w K mg (hidT s₁.heap H) callerA [] s₁ H := ⟨rfl, hM, fun b o e => of_hidT e, Nat.le_of_eq (hidT_size _ _), trivial, fun b hb => absurd (show b ∈ ([] : List Addr) from hb) (by simp), hok, .of_eq hg⟩
    refine codeAny_mono ((F _ hKb (nsK hns)).run callerA [] s₁ H ⟨[.ref a], []⟩ [.ref a] [.ref a] _ _ hr e0 (hbind s₁ (.ref a)) (.cons rfl .nil) (hsp H hO hS)) fun r s' h => ?_
    cases r with
    | error e => exact (hCX H e s' h).elim
    | ok fl =>
      cases fl with
      | next => exact False.elim h
      | brk => exact False.elim h
      | cont => exact False.elim h
      | ret u =>
        obtain ⟨v, H', os, bare, un, hok', r', q⟩ := h
        have q' : v = .bl true := q
        subst q'
        obtain rfl : u = Value.bool true := r'
        refine ⟨rfl, OldK.of_keep fun b o e => ?_, os, bare⟩
        cases q : H b with
        | none => exact un.keep b o e q (by intro z; exact absurd (show b ∈ ([] : List Addr) from z) (by simp)) (by simp)
        | some u =>
          rcases hO b with z | ⟨ob, xs, z⟩
          · rw [q] at z; cases z
          · have z2 := un.frzs b ob _ z
            obtain ⟨e1, _⟩ := hok b _ z
            obtain ⟨e2, _⟩ := hok' b _ z2
            rw [e] at e1; cases e1
            exact e2
  cases hk : K.lookup a with
  | some o =>
    -- the script is one of the module's own objects
    have e := KX a o hk
    rw [ha] at e
    cases e
    refine core (fun _ => none) (fun _ => .inl rfl) (.inr ⟨_, vs.toArray, _, hk, rfl, rfl, rfl, by rw [List.size_toArray, lenV]; exact hl, by simpa using rv⟩) (fun b u z => by have z' : (none : Option HO) = some u := z; cases z') (fun b z => absurd rfl z) fun z => absurd rfl z
  | none =>
    refine core (fun b => if b = a then some (.frz { cls := .type "list", data := .seq vs.toArray } (.lst (ns.map V.int))) else none) (fun b => ?_) (.inl (.inr ⟨{ cls := .type "list", data := .seq vs.toArray }, if_pos rfl⟩)) (fun b u z => ?_) (fun b z => ?_) fun _ => hk
    · by_cases hb : b = a
      · exact .inr ⟨_, _, if_pos hb⟩
      · exact .inl (if_neg hb)
    · by_cases hb : b = a
      · have z' := (if_pos hb).symm.trans z
        cases z'
        subst hb
        exact ⟨ha, by rw [List.length_map]; exact hl, vs, _, rv, ha⟩
      · have z' := (if_neg hb).symm.trans z
        cases z'
    · by_cases hb : b = a
      · exact hb
      · exact absurd (if_neg hb) z
end L2

namespace L2
open PySem PySem.Spec PyProof.Rows


/-- the goal that k_head leaves (case hc), from the law's promise. F gives the function object fd (K's own) once, then the promise over every base -/
theorem walk_of {l : PySem.W.OpenLaw} {n k : Nat} {q : Program} {loose : List Str} {XP : (Str → Option Value) → Heap → Prop} {YP : World → Heap → Prop} {d : DefRec} {K : Params → PySem.W.Frag} {CX : World → CXT} {sp : World → Sp} {x : Str}
    (hn : l.most = some n) (hn2 : n ≤ sizeLine) (hdf : d.params.defaults = []) (hr : Room k callerA)
    (hY : ∀ (w : World) (h : Heap), YP w h → (K w.params).In h)
    (F : ∀ (w : World) (mg : Str → Option Value) (fa : Addr) (h : Heap), (K w.params).In h → h.Ns mainGlobals mg → mg d.name = some (.ref fa) →
      ∃ fd : FuncData, (∀ (s : Shared) (u : Value), BindsTo s fd ⟨[u], []⟩ [(x, u)]) ∧
        ∀ base : Heap, (K w.params).In base → base.Ns mainGlobals mg → FnOk l.prog w (K w.params) mg base (CX w) k fa fd [x] (sp w))
    (hsp : ∀ (w : World) (H : Hp) (a : Addr) (ns : List Int), ns.length ≤ n → Only H → SqL (K w.params) H a (ns.map V.int) → sp w [.ref a] H (fun v _ => v = .bl true) fun _ _ _ => False)
    (hCX : ∀ (w : World) (H : Hp) (s : Shared) (e : Value) (s' : Shared), CX w [] H s (fun _ _ _ => False) e s' → False) :
    PySem.W.WalkO q loose XP YP l.row.toRowW d [] (fun f vs => PySem.call f vs) := by
  refine Att.attach_call hn hdf fun w s₀ s₁ mg mb fa o pm cd doc a vs ns G Y ho hd hcd hmg hobj hints hlen hg => ?_
  have KX := hY w _ Y
  obtain ⟨fd, hb, hF⟩ := F w mg fa _ KX G.T.g hmg
  exact law_call KX G.T.g G.T.b G.T.builtins G.T.nolimit hg hobj hints (Nat.le_trans hlen hn2) hr hF hb (fun H hO hS => hsp w H a ns hlen hO hS) fun H e s' => hCX w H s₁ e s'
end L2

/- THE LAST THEOREM (shape; LID, My.* are yours):
   My.Adr: a structure of the addresses that your layer names (classes, functions); My.Txt K t: a structure (Prop) of the equations over K;
   My.txt_mk : {K} {implicit addresses ..} (e1 : nsIn K mainGlobals "law" = some (some (.ref f))) (e2 : K.lookup f = some ⟨oc, od, .func (fnOf "law" "law" params body scope dV kV doc pm an cdv ct), sl⟩) (e3 : codeIn K cdv "law" = true) .. : ∃ t, My.Txt K t

set_option maxRecDepth 100000 in
set_option maxHeartbeats 0 in
theorem PySem.Challenge.cw_LID_holds : PySem.Challenge.rw_LID.Holds := by
  w_on; o_law; k_head; (case hw => w_witness2)
  k_fill
  refine L2.walk_of (l := PySem.Challenge.rw_LID) (n := 63) (k := 40) (x := "script") (CX := fun w => ..) (sp := fun _ => My.sp_law) rfl (by decide) rfl ⟨rfl, by decide, by decide⟩ (fun w h Y => PySem.W.kIn_of Y) ?F ?S ?C
  case F =>
    intro w mg fa h KX G hmg
    have T : ∃ t, My.Txt (L2.KOf KX) t := by
      dsimp only [L2.KOf]                          -- K must stand as «<heap const> w.params» for k_is
      refine' My.txt_mk ?e1 ?e2 ?e3 ..
      (case e1 => PySem.W.k_is)                    -- in the order: a name -> its address -> its object -> its parts
      (case e2 => PySem.W.k_is)
      ..
    obtain ⟨t, T⟩ := T
    have e0 := hmg.symm.trans (PySem.W.mg_of KX G T.law)
    cases e0                                       -- fa is the law's own address
    exact ⟨_, fun s u => .of_eq rfl, fun base kb nb => My.law_fn T kb nb⟩     -- if «.of_eq rfl» comes too early: refine' ⟨_, ?b, fun base kb nb => My.law_fn T kb nb⟩; exact fun s u => .of_eq rfl
  case S => exact fun w H a ns hl hO hS => ..
  case C => exact ..
(the tactic k_is has no namespace: write k_is) -/

/-! SHORT WORDS over the layer: a def of the text, its body, what a loop and a test want. -/
namespace L2
open PySem PySem.Spec PyProof.Rows

/-! ### the text by places -/
/-- the j-th statement of a class's body -/
def inClass (s : Stmt) (j : Nat) : Stmt := match s with
  | .ClassDef _ _ _ body _ _ _ _ _ _ _ => body.getD j (.Pass ⟨0, 0, 0, 0⟩)
  | _ => .Pass ⟨0, 0, 0, 0⟩
def defArgs (s : Stmt) : Arguments := match s with
  | .FunctionDef _ a _ _ _ _ _ _ _ _ => a
  | _ => { posonlyargs := [], args := [], vararg := none, kwonlyargs := [], kw_defaults := [], kwarg := none, defaults := [] }
def defBody (s : Stmt) : List Stmt := match s with
  | .FunctionDef _ _ b _ _ _ _ _ _ _ => b
  | _ => []
def defScope (s : Stmt) : Scope := match s with
  | .FunctionDef _ _ _ _ _ _ sc _ _ _ => sc
  | _ => { kind := .function, names := [], isGenerator := false, isCoroutine := false }

/-! ### no exception leaves a def -/
abbrev CX0 : CXT := fun _ _ _ _ _ _ => False
abbrev E0 : XK := fun _ _ _ => False
theorem pass0 {X : Cx} : Passes CX0 X E0 := fun _ _ _ _ _ _ _ h => h.elim

/-! ### a def (or method) of the text as it stands behind the top -/
structure Fun (K : PySem.W.Frag) (x qual : Str) (st : Stmt) (f : Addr) (fd : FuncData) : Prop where
  ex : ∃ (oc : Value) (od : Option Addr) (kV doc pm : Value) (an : Option Addr) (cdv ct : Value) (osl : Array (Option Value)),
    fd = PySem.W.fnOf x qual (defArgs st) (defBody st) (defScope st) .none kV doc pm an cdv ct ∧ K.lookup f = some ⟨oc, od, .func fd, osl⟩ ∧ PySem.W.codeIn K cdv qual = true
  kp : PySem.W.keepIn K (.ref f) = true
section
variable {P : Program} {w : World} {K : PySem.W.Frag} {mg : Str → Option Value} {base : Heap}
/-- THE RULE for a def: its body as a term of rules, and the reading of that term -/
theorem Fun.ok {x qual : Str} {st : Stmt} {f : Addr} {fd : FuncData} {N ps : List Str} {k : Nat} {sp : Sp} (F : Fun K x qual st f fd) (S : FnScope N ps (defScope st)) (len : ∀ vs H Q E, sp vs H Q E → vs.length = ps.length)
    (hbody : ∀ (cdv : Value) (A : Around) (outer : List Env) (s : Shared) (H : Hp) (vs : List V) (Q : VK) (E : XK), Room k (A.deeper (envOfC qual (defScope st) s.heap.objs.size f cdv)) → sp vs H Q E →
      ∃ t, PSs (cxOf CX0 P w K mg base N qual (defScope st) f cdv A outer s H E).nox (defBody st) t ∧ t { nx := fun _ H' => Q .non H', rt := Q } (start N vs) H) : FnOk P w K mg base CX0 (k + 1) f fd ps sp := by
  obtain ⟨oc, od, kV, doc, pm, an, cdv, ct, osl, rfl, lk, hcd⟩ := F.ex
  refine fn_of lk hcd S len fun A outer s H vs Q E hr hsp => ?_
  obtain ⟨t, h, q⟩ := hbody cdv A outer s H vs Q E hr hsp
  exact ⟨t, h.nox, q⟩
/-- how its arguments bind (no defaults): h is «fun _ _ _ _ _ _ us hl => match us, hl with | [_, _], _ => rfl», one _ a parameter -/
theorem Fun.binds {x qual : Str} {st : Stmt} {f : Addr} {fd : FuncData} {ps : List Str} (F : Fun K x qual st f fd)
    (h : ∀ (kV doc pm : Value) (an : Option Addr) (cdv ct : Value) (us : List Value), us.length = ps.length → bindArgs (PySem.W.fnOf x qual (defArgs st) (defBody st) (defScope st) .none kV doc pm an cdv ct) ⟨us, []⟩ = pure (ps.zip us)) : Binds K fd ps [] := by
  obtain ⟨oc, od, kV, doc, pm, an, cdv, ct, osl, rfl, lk, hcd⟩ := F.ex
  exact .all (h kV doc pm an cdv ct)
theorem fun_mk {x qual : Str} {st : Stmt} {f : Addr} {oc : Value} {od an : Option Addr} {osl : Array (Option Value)} {kV doc pm cdv ct : Value} (l : K.lookup f = some ⟨oc, od, .func (PySem.W.fnOf x qual (defArgs st) (defBody st) (defScope st) .none kV doc pm an cdv ct), osl⟩)
    (c : PySem.W.codeIn K cdv qual = true) (k : PySem.W.keepIn K (.ref f) = true) : Fun K x qual st f (PySem.W.fnOf x qual (defArgs st) (defBody st) (defScope st) .none kV doc pm an cdv ct) := ⟨⟨oc, od, kV, doc, pm, an, cdv, ct, osl, rfl, l, c⟩, k⟩
end
theorem hu_of {A : Around} {k : Nat} (hr : Room k A) : A.units + 1 < cLine := Nat.lt_of_le_of_lt (Nat.add_le_add_left (by decide : 1 ≤ 64) _) hr.units
theorem small1000 {n : Nat} (h : n ≤ 1000) : n < sizeLine := Nat.lt_of_le_of_lt h (by decide)

/-! ### expressions in short: the name that stands in the i-th slot -/
section
variable {X : Cx}
theorem pv (i : Nat) {x : Str} {pos : Pos} (hN : X.N[i]? = some x := by rfl) (hv : Vis X.env.scope x := by first | exact Or.inl rfl | exact Or.inr (Or.inl rfl) | exact Or.inr (Or.inr rfl)) (hd : (x == ("__debug__" : Str)) = false := by decide)
    (hcd : (x == ("__classdict__" : Str)) = false := by decide) : PE X (.Name x pos) (tVar i) := pe_var hN hv hd hcd
end

/-! ### tests -/
theorem iteF {A B : Prop} (h : B) : if false = true then A else B := by
  rw [if_neg Bool.false_ne_true]
  exact h
theorem iteT {A B : Prop} (h : A) : if true = true then A else B := by
  rw [if_pos rfl]
  exact h
theorem ite2 {c A B : Prop} [Decidable c] (h1 : c → A) (h2 : ¬ c → B) : if c then A else B := by
  by_cases h : c
  · rw [if_pos h]
    exact h1 h
  · rw [if_neg h]
    exact h2 h
theorem iteNS {c A B : Prop} [Decidable c] (hc : c) (h : B) : if (!decide c) = true then A else B := by
  rw [decide_eq_true hc]
  exact iteF h

/-! ### heaps -/
/-- all that was tracked is as it was -/
def Same (H H' : Hp) : Prop := ∀ b o, H b = some o → H' b = some o
theorem Same.trans {H H1 H2 : Hp} (a : Same H H1) (b : Same H1 H2) : Same H H2 := fun c o h => b c o (a c o h)
theorem Same.seq {K : PySem.W.Frag} {H H' : Hp} {a : Addr} {xs : List V} (e : Same H H') (h : SqL K H a xs) : SqL K H' a xs := by
  rcases h with (h | ⟨o, h⟩) | h
  · exact .inl (.inl (e _ _ h))
  · exact .inl (.inr ⟨o, e _ _ h⟩)
  · exact .inr h

end L2

set_option maxRecDepth 100000
set_option maxHeartbeats 4000000
namespace L2
open PySem PySem.Spec PyProof.Rows
end L2
namespace L2
open PySem PySem.Spec PyProof.Rows
section
variable (P : Program) (w : World)
end
section
variable {P : Program} {w : World} {H H' : Hp} {h h' : Heap} {a : Addr} {o : HO}
end
section
variable {P : Program} {w : World} {H : Hp} {h h' : Heap} {x e : Addr} {o' : HO}
end
section
variable {fs fs' ex ex' : List Addr} {H H1 H2 : Hp} {h h1 h2 h' : Heap} {a x e : Addr} {o : HO}
end
end L2
namespace L2
open PySem PySem.Spec PyProof.Rows
section
variable {X : Cx} {pins : List (Addr × Obj)} {σ : List (Option V)} {H H' : Hp} {s : Shared} {h' : Heap}
end
end L2
namespace L2
open PySem PySem.Spec PyProof.Rows
section
variable {X : Cx}
variable {a b : Expr} {ta tb : TE} {pos : Pos}
variable {tA tB' : TT} {rest : List Expr}
end
end L2
namespace L2
open PySem PySem.Spec PyProof.Rows
section
variable {X : Cx} {pins : List (Addr × Obj)} {σ : St} {H : Hp} {s : Shared} {a : Addr} {xs ys : List V}
end
section
variable {X : Cx} {pins : List (Addr × Obj)} {σ : St} {H : Hp} {s : Shared} {E : Value → Shared → Prop}
end
section
variable {X : Cx} {st : Stmt} {rest : List Stmt} {t u : TS} {e : Expr} {te : TE} {pos : Pos}
end
section
variable {X : Cx} {pos : Pos}
end
section
variable {X : Cx} {pos : Pos}
end
end L2
namespace L2
open PySem PySem.Spec PyProof.Rows
section
variable {X : Cx} {tg : Expr}
end
end L2
namespace L2
open PySem PySem.Spec PyProof.Rows
section
variable {X : Cx} {a b c : Expr} {ta tb tc : TE} {pos : Pos}
end
section
variable {X : Cx} {a b c : Expr} {ta tb tc : TE} {pos : Pos}
end
end L2
namespace L2
open PySem PySem.Spec PyProof.Rows
section
variable {prog : Program} {w : World} {A : Around} {E : Value → Shared → Prop} {s : Shared} {K : PySem.W.Frag} {x dx C f : Addr} {mA : Str → Option Value} {name : Str} {v : Value}
end
section
variable {P : Program} {w : World} {H H' : Hp} {h h' : Heap} {a C dx : Addr} {fs fs' : List (Str × V)}
end
section
variable {X : Cx} {pins : List (Addr × Obj)} {σ : St} {H : Hp} {s : Shared} {a C dx : Addr} {fs : List (Str × V)} {f : Str} {v : V} {A : Around} {E : Value → Shared → Prop}
end
section
variable {X : Cx} {o e value : Expr} {f : Str} {pos pos' tpos : Pos} {ta tv : TE}
end
section
variable {X : Cx} {pins : List (Addr × Obj)} {σ : St} {H : Hp} {s : Shared} {A : Around} {E : Value → Shared → Prop} {Q : Value → Shared → Prop} {c : Value} {b : Bool}
end
end L2
namespace L2
open PySem PySem.Spec PyProof.Rows
section
variable {X : Cx} {e : Expr} {es : List Expr} {te : TE} {t : TA} {pos : Pos}
end
section
variable {X : Cx} {pins : List (Addr × Obj)} {σ : St} {H : Hp} {s s' : Shared}
end
section
variable {X : Cx} {CX : CXT} {k : Nat} {f C : Addr} {fd : FuncData} {ps : List Str} {sp : Sp} {dvs : List V} {ds : List Value} {E : XK} {x m : Str} {p pos apos : Pos} {e o : Expr} {es : List Expr} {ta : TE} {t : TA}
end
section
variable {X : Cx} {CX : CXT} {k : Nat} {f C : Addr} {fd : FuncData} {ps ks : List Str} {sp : Sp} {E : XK} {x m : Str} {p pos apos kpos : Pos} {e o : Expr} {es : List Expr} {kws : List Keyword} {te ta : TE} {t tk : TA} {nm : Option Str}
variable {g : List Value → List Value → List Value} {gV : List V → List V → List V}
end
end L2
namespace L2
open PySem PySem.Spec PyProof.Rows
section
variable {X : Cx} {x : Str} {p pos : Pos} {e : Expr} {es : List Expr} {t : TA} {id T : String} {r : List V → Hp → VK → Prop}
end
end L2
namespace L2
open PySem PySem.Spec PyProof.Rows
section
variable {κ : Type} [DecidableEq κ]
def valV (kvs : List (κ × V)) (k : κ) : Option V := (kvs.find? fun kv => decide (kv.1 = k)).map (·.2)
def putK (kvs : List (κ × V)) (k : κ) (v : V) : List (κ × V) :=
  if (kvs.any fun kv => decide (kv.1 = k)) = true then kvs.map (fun kv => if kv.1 = k then (kv.1, v) else kv) else kvs ++ [(k, v)]
theorem valV_pos {p : κ × V} {r : List (κ × V)} {k : κ} (e : p.1 = k) : valV (p :: r) k = some p.2 := by simp [valV, List.find?_cons, e]
theorem valV_neg {p : κ × V} {r : List (κ × V)} {k : κ} (e : ¬ p.1 = k) : valV (p :: r) k = valV r k := by simp [valV, List.find?_cons, e]
theorem valV_any (k : κ) : ∀ kvs : List (κ × V), (kvs.any fun kv => decide (kv.1 = k)) = (valV kvs k).isSome
  | [] => rfl
  | p :: r => by
    rw [List.any_cons]
    by_cases e : p.1 = k
    · simp only [valV_pos e, decide_eq_true e, Bool.true_or, Option.isSome_some]
    · rw [valV_neg e, decide_eq_false e, Bool.false_or]; exact valV_any k r
theorem valV_map (k j : κ) (y : V) : ∀ kvs : List (κ × V), valV (kvs.map fun kv => if kv.1 = k then (kv.1, y) else kv) j = (valV kvs j).map fun x => if j = k then y else x
  | [] => rfl
  | p :: r => by
    have ih := valV_map k j y r
    rw [List.map_cons]
    by_cases h : p.1 = k
    · rw [if_pos h]
      by_cases e : p.1 = j
      · rw [valV_pos (p := (p.1, y)) e, valV_pos e, Option.map_some, if_pos (e.symm.trans h)]
      · rw [valV_neg (p := (p.1, y)) e, valV_neg e, ih]
    · rw [if_neg h]
      by_cases e : p.1 = j
      · rw [valV_pos (p := p) e, valV_pos e, Option.map_some, if_neg (fun z => h (e.trans z))]
      · rw [valV_neg (p := p) e, valV_neg e, ih]
theorem valV_snoc (k j : κ) (y : V) : ∀ kvs : List (κ × V), valV kvs k = none → valV (kvs ++ [(k, y)]) j = if j = k then some y else valV kvs j
  | [], _ => by
    by_cases e : k = j
    · rw [if_pos e.symm]; exact valV_pos (p := (k, y)) e
    · rw [if_neg (fun z => e z.symm)]; exact valV_neg (p := (k, y)) e
  | p :: r, hn => by
    rw [List.cons_append]
    have hk : ¬ p.1 = k := fun z => by rw [valV_pos z] at hn; cases hn
    rw [valV_neg hk] at hn
    have ih := valV_snoc k j y r hn
    by_cases e : p.1 = j
    · rw [valV_pos e, valV_pos e, if_neg (fun z => hk (e.trans z))]
    · rw [valV_neg e, valV_neg e, ih]
theorem valV_put (kvs : List (κ × V)) (k j : κ) (y : V) : valV (putK kvs k y) j = if j = k then some y else valV kvs j := by
  unfold putK
  by_cases a : (kvs.any fun kv => decide (kv.1 = k)) = true
  · rw [if_pos a, valV_map]
    rw [valV_any] at a
    by_cases e : j = k
    · obtain ⟨x, hx⟩ := Option.isSome_iff_exists.mp a
      rw [if_pos e, e, hx, Option.map_some, if_pos rfl]
    · rw [if_neg e]
      cases valV kvs j with
      | none => rfl
      | some x => rw [Option.map_some, if_neg e]
  · rw [if_neg a]
    refine valV_snoc k j y kvs ?_
    rw [valV_any] at a
    cases q : valV kvs k with
    | none => rfl
    | some x => rw [q] at a; exact (a rfl).elim
theorem length_putK (kvs : List (κ × V)) (k : κ) (v : V) : (putK kvs k v).length ≤ kvs.length + 1 := by
  unfold putK
  split
  · rw [List.length_map]; omega
  · rw [List.length_append, List.length_cons, List.length_nil]; omega
theorem RelO.isSome_eq {o : Option V} {u : Option Value} (r : RelO o u) : o.isSome = u.isSome := by
  cases o with
  | none => cases u with
    | none => rfl
    | some _ => exact (show False from r).elim
  | some _ => cases u with
    | none => exact (show False from r).elim
    | some _ => rfl
theorem KV.val {kvs : List (κ × V)} {vs : List (κ × Value)} (r : KV kvs vs) (k : κ) : RelO (valV kvs k) (valueAt vs k) := by
  unfold KV at r
  induction r with
  | nil => exact True.intro
  | @cons p q ps qs h t ih =>
    obtain ⟨h1, h2⟩ := h
    by_cases e : p.1 = k
    · have e' : q.1 = k := h1.symm.trans e
      have b : valueAt (q :: qs) k = some q.2 := by simp [valueAt, List.find?_cons, e']
      rw [valV_pos e, b]; exact h2
    · have e' : ¬ q.1 = k := fun z => e (h1.trans z)
      have b : valueAt (q :: qs) k = valueAt qs k := by simp [valueAt, List.find?_cons, e']
      rw [valV_neg e, b]; exact ih
theorem KV.any {kvs : List (κ × V)} {vs : List (κ × Value)} (r : KV kvs vs) (k : κ) : (kvs.any fun kv => decide (kv.1 = k)) = vs.any fun kv => decide (kv.1 = k) := by
  unfold KV at r
  induction r with
  | nil => rfl
  | cons h t ih => rw [List.any_cons, List.any_cons, ih, h.1]
theorem KV.repl {kvs : List (κ × V)} {vs : List (κ × Value)} (r : KV kvs vs) (k : κ) {y : V} {u : Value} (ry : RelV y u) :
    KV (kvs.map fun kv => if kv.1 = k then (kv.1, y) else kv) (vs.map fun kv => if kv.1 = k then (kv.1, u) else kv) := by
  unfold KV at r ⊢
  induction r with
  | nil => exact .nil
  | @cons p q ps qs h t ih =>
    rw [List.map_cons, List.map_cons]
    refine .cons ?_ ih
    obtain ⟨h1, h2⟩ := h
    by_cases e : p.1 = k
    · rw [if_pos e, if_pos (h1.symm.trans e)]; exact ⟨h1, ry⟩
    · rw [if_neg e, if_neg (fun z => e (h1.trans z))]; exact ⟨h1, h2⟩
theorem KV.put {kvs : List (κ × V)} {vs : List (κ × Value)} (r : KV kvs vs) (k : κ) {y : V} {u : Value} (ry : RelV y u) : KV (putK kvs k y) (stored vs k u) := by
  unfold putK stored
  rw [r.any k]
  by_cases e : (vs.any fun kv => decide (kv.1 = k)) = true
  · rw [if_pos e, if_pos e]; exact r.repl k ry
  · rw [if_neg e, if_neg e]; exact Paired.snoc r ⟨rfl, ry⟩
theorem KV.length {kvs : List (κ × V)} {vs : List (κ × Value)} (r : KV kvs vs) : kvs.length = vs.length := Paired.length r
end
theorem kV_is {P : Program} {w : World} {k : Key} {u : Value} (r : RelV (kV k) u) : (mixKind P w).is k u = true := by
  cases k with
  | inl i => obtain ⟨t, e⟩ := (show ∃ t, u = Value.int i t from r); subst e; exact mixKind_int P w i t
  | inr x => obtain ⟨t, e⟩ := (show ∃ t, u = Value.str x t from r); subst e; exact mixKind_str P w x t
theorem items_are {P : Program} {w : World} : ∀ {ks : List Key} {us : List Value}, Vals (ks.map kV) us → ItemsAre (mixKind P w) ks us
  | [], _, r => by rw [List.map_nil] at r; cases r; exact .nil
  | k :: ks, _, r => by
    rw [List.map_cons] at r
    cases r with
    | cons h t => exact .cons (kV_is h) (items_are t)
abbrev KT (H : Hp) : List (List Key × V) → List (List Key × Addr × Value) → Prop := Paired fun p q => p.1 = q.1 ∧ H q.2.1 = some (.tup (p.1.map kV)) ∧ RelV p.2 q.2.2
theorem KT.val {H : Hp} {kvs : List (List Key × V)} {xs : List (List Key × Addr × Value)} (r : KT H kvs xs) (k : List Key) : RelO (valV kvs k) ((atKey xs k).map (·.2)) := by
  induction r with
  | nil => exact True.intro
  | @cons p q ps qs h t ih =>
    obtain ⟨h1, _, h2⟩ := h
    by_cases e : p.1 = k
    · have e' : q.1 = k := h1.symm.trans e
      have b : atKey (q :: qs) k = some q.2 := by simp [atKey, List.find?_cons, e']
      rw [valV_pos e, b]; exact h2
    · have e' : ¬ q.1 = k := fun z => e (h1.trans z)
      have b : atKey (q :: qs) k = atKey qs k := by simp [atKey, List.find?_cons, e']
      rw [valV_neg e, b]; exact ih
theorem KT.repl {H : Hp} {kvs : List (List Key × V)} {xs : List (List Key × Addr × Value)} (r : KT H kvs xs) (k : List Key) {y : V} {u : Value} (ry : RelV y u) :
    KT H (kvs.map fun kv => if kv.1 = k then (kv.1, y) else kv) (xs.map (putAt k u)) := by
  induction r with
  | nil => exact .nil
  | @cons p q ps qs h t ih =>
    rw [List.map_cons, List.map_cons]
    refine .cons ?_ ih
    obtain ⟨h1, h2, h3⟩ := h
    unfold putAt
    by_cases e : p.1 = k
    · rw [if_pos e, if_pos (h1.symm.trans e)]; exact ⟨h1, h2, ry⟩
    · rw [if_neg e, if_neg (fun z => e (h1.trans z))]; exact ⟨h1, h2, h3⟩
theorem KT.put {H : Hp} {kvs : List (List Key × V)} {xs : List (List Key × Addr × Value)} (r : KT H kvs xs) (k : List Key) {b : Addr} {y : V} {u : Value} (hb : H b = some (.tup (k.map kV))) (ry : RelV y u) :
    KT H (putK kvs k y) (storedH xs k b u) := by
  have e : (kvs.any fun kv => decide (kv.1 = k)) = (atKey xs k).isSome := by
    rw [valV_any, (r.val k).isSome_eq, Option.isSome_map]
  unfold putK storedH
  rw [e]
  by_cases q : (atKey xs k).isSome = true
  · rw [if_pos q, if_pos q]; exact r.repl k ry
  · rw [if_neg q, if_neg q]; exact Paired.snoc r ⟨rfl, hb, ry⟩
theorem KT.keeps {H H' : Hp} {kvs : List (List Key × V)} {xs : List (List Key × Addr × Value)} (r : KT H kvs xs) (ht : ∀ b ys, H b = some (.tup ys) → H' b = some (.tup ys)) : KT H' kvs xs :=
  Paired.mapP r fun _ _ z => ⟨z.1, ht _ _ z.2.1, z.2.2⟩
section
variable {P : Program} {w : World} {H : Hp} {h : Heap} {a : Addr}
theorem rd_of {u : HO} (ok : HOk P w H h) (e : Rd H a u) : ObjOk P w H h a u := e.ok ok
theorem dk_rd {kvs : List (Key × V)} (ok : HOk P w H h) (e : Rd H a (.dK kvs)) : kvs.length ≤ sizeLine ∧ (a == sysModules) = false ∧ ∃ vs, KV kvs vs ∧ h.DictOf (mixKind P w) a vs :=
  show ObjOk P w H h a (.dK kvs) from rd_of ok e
theorem dk_of {kvs : List (Key × V)} (ok : HOk P w H h) (e : H a = some (.dK kvs)) : kvs.length ≤ sizeLine ∧ (a == sysModules) = false ∧ ∃ vs, KV kvs vs ∧ h.DictOf (mixKind P w) a vs := dk_rd ok (.inl e)
theorem key_of {ks : List Key} (ok : HOk P w H h) (e : H a = some (.tup (ks.map kV))) : (tupleKind (mixKind P w)).is h ks a := by
  obtain ⟨_, its, r, o, h1, h2, n, h3⟩ := (show ObjOk P w H h a (.tup (ks.map kV)) from ok a _ e)
  exact ⟨o, its.toArray, n, h1, h2, h3, by simpa using items_are r⟩
theorem dt_rd {kvs : List (List Key × V)} (ok : HOk P w H h) (e : Rd H a (.dT kvs)) : kvs.length ≤ sizeLine ∧ (a == sysModules) = false ∧
    ∃ xs, KT H kvs xs ∧ h.DictOfH (tupleKind (mixKind P w)) a xs := by
  obtain ⟨z, y, xs, r, o, es, ep, h1, h2, h3, h4, h5⟩ := (show ObjOk P w H h a (.dT kvs) from rd_of ok e)
  refine ⟨z, y, xs, r, o, es, ep, h1, h2, h3, h4, fun x hx => ?_, h5⟩
  have all : ∀ {l : List (List Key × V)} {m : List (List Key × Addr × Value)}, KT H l m → ∀ x ∈ m, (tupleKind (mixKind P w)).is h x.1 x.2.1 := by
    intro l m q
    induction q with
    | nil => intro x hx; exact nomatch hx
    | @cons p q ps qs hq t ih =>
      intro x hx
      rcases List.mem_cons.mp hx with e | hx
      · subst e
        exact key_of ok (by rw [← hq.1]; exact hq.2.1)
      · exact ih x hx
  exact all r x hx
theorem dt_of {kvs : List (List Key × V)} (ok : HOk P w H h) (e : H a = some (.dT kvs)) : kvs.length ≤ sizeLine ∧ (a == sysModules) = false ∧
    ∃ xs, KT H kvs xs ∧ h.DictOfH (tupleKind (mixKind P w)) a xs := dt_rd ok (.inl e)
end
def DGet (H : Hp) (a : Addr) (y : V) (r : Option V) : Prop :=
  (∃ kvs k, Rd H a (.dK kvs) ∧ y = kV k ∧ r = valV kvs k) ∨ ∃ kvs k b, Rd H a (.dT kvs) ∧ y = .ref b ∧ H b = some (.tup (k.map kV)) ∧ r = valV kvs k
def DPut (H : Hp) (a : Addr) (y v : V) (H' : Hp) : Prop :=
  (∃ kvs k, H a = some (.dK kvs) ∧ y = kV k ∧ kvs.length < sizeLine ∧ H' = upd H a (.dK (putK kvs k v))) ∨
  ∃ kvs k b, H a = some (.dT kvs) ∧ y = .ref b ∧ H b = some (.tup (k.map kV)) ∧ kvs.length < sizeLine ∧ H' = upd H a (.dT (putK kvs k v))
theorem DGet.k {H : Hp} {a : Addr} {kvs : List (Key × V)} {k : Key} (e : H a = some (.dK kvs)) : DGet H a (kV k) (valV kvs k) := .inl ⟨kvs, k, .inl e, rfl, rfl⟩
theorem DPut.k {H : Hp} {a : Addr} {kvs : List (Key × V)} {k : Key} {v : V} (e : H a = some (.dK kvs)) (hl : kvs.length < sizeLine) : DPut H a (kV k) v (upd H a (.dK (putK kvs k v))) := .inl ⟨kvs, k, e, rfl, hl, rfl⟩
section
variable {X : Cx} {pins : List (Addr × Obj)} {σ : St} {H : Hp} {s : Shared} {a : Addr} {y v : V} {u r : Value} {o : Option V} {A : Around} {E : Value → Shared → Prop}
theorem Inv.big (I : Inv X pins σ H s) : sysModules < s.heap.objs.size := by
  have h : mainGlobals < s.heap.objs.size := (I.mod.glob.keeps I.bk).lt
  exact Nat.lt_trans (by decide) h
theorem d_getItem {Q : Value → Shared → Prop} (hu : A.units + 1 < cLine) (I : Inv X pins σ H s) (g : DGet H a y (some v)) (ry : RelV y u) (h : ∀ w' s', Inv X pins σ H s' → RelV v w' → Q w' s') :
    wpAny (model X.prog X.w) A (getItem (.ref a) u) Q E s := by
  rcases g with ⟨kvs, k, e, ey, l⟩ | ⟨kvs, k, b, e, ey, eb, l⟩
  · subst ey
    obtain ⟨z, hd, vs, rel, dd⟩ := dk_rd I.hok e
    obtain ⟨w', hw, rw'⟩ := RelO.some_of (v := v) (o := valueAt vs k) (by rw [l]; exact rel.val k)
    exact wpAny_getItem_of (kV_is ry) dd.mapOf hw (h w' _ (I.tok _) rw')
  · subst ey
    cases (show u = Value.ref b from ry)
    obtain ⟨z, hd, xs, rel, dd⟩ := dt_rd I.hok e
    obtain ⟨w', hw, rw'⟩ := RelO.some_of (v := v) (o := (atKey xs k).map (·.2)) (by rw [l]; exact rel.val k)
    obtain ⟨p, hp, hp2⟩ := Option.map_eq_some_iff.mp hw
    refine wpAny_getItem_heap (tupleKind_room_in1 hu) (key_of I.hok eb) dd hp ?_
    rw [hp2]
    exact h w' _ (I.tok _) rw'
theorem d_notIn {Q : Value → Shared → Prop} (hu : A.units + 1 < cLine) (I : Inv X pins σ H s) (g : DGet H a y o) (ry : RelV y u) (h : ∀ s', Inv X pins σ H s' → Q (.bool (!o.isSome)) s') :
    wpAny (model X.prog X.w) A (compareOp .NotIn u (.ref a)) Q E s := by
  rcases g with ⟨kvs, k, e, ey, l⟩ | ⟨kvs, k, b, e, ey, eb, l⟩
  · subst ey
    obtain ⟨z, hd, vs, rel, dd⟩ := dk_rd I.hok e
    refine wpAny_notIn_of (kV_is ry) hd dd.mapOf ?_
    rw [← (rel.val k).isSome_eq, ← l]
    exact h _ (I.tok _)
  · subst ey
    cases (show u = Value.ref b from ry)
    obtain ⟨z, hd, xs, rel, dd⟩ := dt_rd I.hok e
    refine wpAny_notIn_heap (tupleKind_room_in1 hu) (key_of I.hok eb) hd dd ?_
    have q := (rel.val k).isSome_eq
    rw [Option.isSome_map] at q
    rw [← q, ← l]
    exact h _ (I.tok _)
theorem d_write {h' : Heap} {t' : Nat} {ob : HO} (I : Inv X pins σ H s) (mu : Mut (H a)) (hs : Heap.SameBut a s.heap h') (he : ∃ q, h'.get? a = some q) (new : ObjOk X.prog X.w (upd H a ob) h' a ob) :
    Inv X pins σ (upd H a ob) { s with heap := h', toks := t' } :=
  I.write (x := a) (e := a) mu (.inl rfl) (fun b q hb z => (hs.2 b hb).trans z) he new
theorem dk_new {P : Program} {w : World} {H' : Hp} {h' : Heap} {kvs : List (Key × V)} {vs : List (Key × Value)} (z : kvs.length ≤ sizeLine) (hd : (a == sysModules) = false) (rel : KV kvs vs) (dd : h'.DictOf (mixKind P w) a vs) :
    ObjOk P w H' h' a (.dK kvs) := ⟨z, hd, vs, rel, dd⟩
theorem d_setItem {H' : Hp} {Q : Unit → Shared → Prop} (hu : A.units + 1 < cLine) (I : Inv X pins σ H s) (g : DPut H a y v H') (ry : RelV y u) (rv : RelV v r) (h : ∀ s', Inv X pins σ H' s' → Q () s') :
    wpAny (model X.prog X.w) A (setItem (.ref a) u r) Q E s := by
  rcases g with ⟨kvs, k, e, ey, l, eH⟩ | ⟨kvs, k, b, e, ey, eb, l, eH⟩
  · subst ey eH
    obtain ⟨z, hd, vs, rel, dd⟩ := dk_of I.hok e
    have hz : vs.length ≤ sizeLine := by rw [← rel.length]; exact z
    have hl : (putK kvs k v).length ≤ sizeLine := by have := length_putK kvs k v; omega
    refine wpAny_setItem_pairs (hsz := hz) (kV_is ry) dd fun h' dd' hs => h _ ?_
    have he : ∃ q, h'.get? a = some q := let ⟨q, _, _, hq, _⟩ := dd'; ⟨q, hq⟩
    exact d_write I (by rw [e]; exact True.intro) hs he (dk_new hl hd (rel.put k rv) dd')
  · subst ey eH
    cases (show u = Value.ref b from ry)
    obtain ⟨z, hd, xs, rel, dd⟩ := dt_of I.hok e
    have hz : xs.length ≤ sizeLine := by rw [← Paired.length rel]; exact z
    have hl : (putK kvs k v).length ≤ sizeLine := by have := length_putK kvs k v; omega
    refine wpAny_setItem_heap (hsz := hz) (tupleKind_room_in1 hu) (key_of I.hok eb) dd fun h' dd' hs => h _ ?_
    obtain ⟨q, es, ep, hq, h2, h3, h4, _, h5⟩ := dd'
    refine d_write I (by rw [e]; exact True.intro) hs ⟨q, hq⟩ ⟨hl, hd, _, (rel.put k eb rv).keeps fun c ys ec => ?_, q, es, ep, hq, h2, h3, h4, h5⟩
    rw [upd_ne (ne_of ec e (fun z => nomatch z))]
    exact ec
end
section
variable {X : Cx} {pins : List (Addr × Obj)} {σ : St} {H : Hp} {s : Shared} {a : Addr} {kvs : List (Key × V)} {k : Key} {u : Value} {A : Around} {E : Value → Shared → Prop}
end
def NoSl (i : Expr) : Prop := ∀ ov iv, subscripted i false ov iv = operate [ov, iv] (getItem ov iv)
theorem subD_of {prog : Program} {w : World} {A : Around} {E : Value → Shared → Prop} {s : Shared} {env : Env} {value slice : Expr} {pos : Pos} {T id : String} {Q : Value → Shared → Prop}
    (hl : typeLookup (.type T) "__getitem__" = pure (some (.builtin id))) (hs : NoSl slice)
    (h : wpAny (model prog w) A (eval value env) (fun o s₁ => wpAny (model prog w) A (eval slice env) (fun i s₂ => s₂.TypeIs o T ∧ wpAny (model prog w) A (getItem o i) Q E s₂) E s₁) E s) :
    wpAny (model prog w) A (eval (.Subscript value slice pos) env) Q E s := by
  refine Subscript_ (wpAny_mono h (fun o s₁ h₁ => wpAny_mono h₁ (fun i s₂ h₂ => ?_) fun _ _ x => x) fun _ _ x => x)
  obtain ⟨hT, h₂⟩ := h₂
  unfold subscriptTail
  refine wpAny_bind ?_
  rw [getitemInPython_of_ne hT.not_modules]
  refine wpAny_bind (wpAny_specialOf hT hl ?_)
  have fin : wpAny (model prog w) A (subscripted slice false o i) (fun r s₃ => wpAny (model prog w) A (letTemporaryGo value o r >>= fun _ => pure r) Q E s₃) E s₂ := by
    rw [hs o i]
    exact wpAny_operating (wpAny_mono h₂ (fun r s₃ h₃ => wpAny_bind (wpAny_letTemporaryGo (wpAny_pure h₃))) fun _ _ x => x)
  first
    | exact wpAny_pure (wpAny_bind fin)
    | exact wpAny_bind (wpAny_pure (wpAny_bind fin))
    | exact wpAny_bind fin
theorem dict_typeIs {X : Cx} {pins : List (Addr × Obj)} {σ : St} {H : Hp} {s : Shared} {a : Addr} {y : V} {o : Option V} (I : Inv X pins σ H s) (g : DGet H a y o) : s.TypeIs (.ref a) "dict" := by
  rcases g with ⟨kvs, k, e, _, _⟩ | ⟨kvs, k, b, e, _, _, _⟩
  · obtain ⟨_, _, vs, _, dd⟩ := dk_rd I.hok e
    exact dd.typeIs
  · obtain ⟨_, _, xs, _, dd⟩ := dt_rd I.hok e
    exact dd.typeIs
def tDGet (td ty : TE) : TE := fun σ H Q => td σ H fun x H1 => ty σ H1 fun y H2 => ∃ a v, x = .ref a ∧ DGet H2 a y (some v) ∧ Q v H2
def tDNotIn (ty td : TE) : TE := fun σ H Q => ty σ H fun y H1 => td σ H1 fun x H2 => ∃ a o, x = .ref a ∧ DGet H2 a y o ∧ Q (.bl (!o.isSome)) H2
def sDPut (td ty tv : TE) : TS := fun D σ H => tv σ H fun v H1 => td σ H1 fun x H2 => ty σ H2 fun y H3 => ∃ a H4, x = .ref a ∧ DPut H3 a y v H4 ∧ D.nx σ H4
section
variable {X : Cx} {o i e value : Expr} {pos pos' tpos : Pos} {td ty tv : TE}
theorem pe_dget (hu : X.A.units + 1 < cLine) (ho : PE X o td) (hi : PE X i ty) (hs : NoSl i) : PE X (.Subscript o i pos) (tDGet td ty) := by
  intro pins s σ H Q I h
  refine subD_of PySem.F.slot_dict_getitem.lookup hs (thn (ho pins s σ H _ I h) fun u s1 ⟨x, H1, I1, rx, q1⟩ => thn (hi pins s1 σ H1 _ I1 q1) fun iv s2 ⟨y, H2, I2, ry, a, v, ex, g, q2⟩ => ?_)
  subst ex
  obtain rfl : u = Value.ref a := rx
  exact ⟨dict_typeIs I2 g, d_getItem hu I2 g ry fun w' s3 I3 rw' => ⟨v, H2, I3, rw', q2⟩⟩
theorem pc_dnotin (hu : X.A.units + 1 < cLine) (hi : PE X i ty) (ho : PE X o td) : PC X .NotIn i o (tDNotIn ty td) := by
  intro pins s σ H Q I h
  refine thn (hi pins s σ H _ I h) fun iv s1 ⟨y, H1, I1, ry, q1⟩ => thn (ho pins s1 σ H1 _ I1 q1) fun u s2 ⟨x, H2, I2, rx, a, ov, ex, g, q2⟩ => ?_
  subst ex
  obtain rfl : u = Value.ref a := rx
  exact d_notIn hu I2 g ry fun s3 I3 => ⟨.bl (!ov.isSome), H2, I3, rfl, q2⟩
theorem ps_dput (hu : X.A.units + 1 < cLine) (ho : PE X o td) (hi : PE X i ty) (hv : PE X value tv) (hs : swapsWith value (some (.Subscript o i pos')) pos.line X.env = pure false) :
    PS X (.Assign [.Subscript o i pos'] value pos) (sDPut td ty tv) := by
  intro pins s σ H D I h
  refine wpAny_Assign_Subscript (thn (hv pins s σ H _ I h) fun r s1 ⟨v, H1, I1, rv, q1⟩ => thn (ho pins s1 σ H1 _ I1 q1) fun u s2 ⟨x, H2, I2, rx, q2⟩ => thn (hi pins s2 σ H2 _ I2 q2) fun iv s3 ⟨y, H3, I3, ry, a, H4, ex, g, q3⟩ => ?_) hs
  subst ex
  obtain rfl : u = Value.ref a := rx
  exact d_setItem hu I3 g ry rv fun s4 I4 => ⟨σ, H4, I4, q3⟩
end
theorem dk_empty {P : Program} {w : World} {H : Hp} (h : Heap) (hb : sysModules < h.objs.size) : ObjOk P w H (h.push { cls := .type "dict", data := .dict #[] }) h.objs.size (.dK []) :=
  ⟨Nat.zero_le _, beq_eq_false_iff_ne.mpr (Ne.symm (Nat.ne_of_lt hb)), [], .nil, Heap.DictOf.new h⟩
def tDNewK : TE := fun _ H Q => ∀ p, H p = none → Q (.ref p) (upd H p (.dK []))
section
variable {X : Cx} {pos : Pos}
theorem pe_dnewK : PE X (.Dict [] [] pos) tDNewK := fun pins s σ H Q I h =>
  wpAny_Dict_empty ⟨.ref s.heap.objs.size, _, I.laid (a := s.heap.objs.size) (o := .dK []) (t' := s.toks) (fun _ _ q => Heap.get?_push_of_some _ q) (Nat.le_refl _) (dk_empty s.heap I.big), rfl, h _ (I.hok.fresh (Nat.le_refl _))⟩
end
section
variable {X : Cx} {pins : List (Addr × Obj)} {σ : St} {H : Hp} {s : Shared} {a : Addr} {y d : V} {u r : Value} {o : Option V} {A : Around} {E : Value → Shared → Prop}
end
section
variable {X : Cx} {o e f : Expr} {apos cpos : Pos} {td ty tx : TE}
end
section
variable {X : Cx} {pins : List (Addr × Obj)} {σ : St} {H : Hp} {s : Shared} {a : Addr} {kvs : List (Key × V)} {A : Around} {E : Value → Shared → Prop}
end
section
variable {X : Cx} {pins : List (Addr × Obj)} {σ : St} {H : Hp} {s : Shared} {a : Addr} {y : V} {u : Value} {A : Around} {E : Value → Shared → Prop}
end
end L2
namespace Att
open PySem PySem.W PySem.Calls PyProof.Rows
section
variable {prog : Program} {w : World} {A : Around} {E : Value → Shared → Prop} {s : Shared} {K : Frag}
end
end Att
namespace L2
open PySem PySem.Spec PyProof.Rows
end L2
namespace L2
open PySem PySem.Spec PyProof.Rows
end L2
namespace L2
open PySem PySem.Spec PyProof.Rows
section
variable {P : Program} {w : World} {K : PySem.W.Frag} {mg : Str → Option Value} {base : Heap}
end
section
variable {X : Cx}
end
section
variable {κ : Type} [DecidableEq κ]
end
end L2

namespace L2
open PySem PySem.Spec PyProof.Rows
/-! ### a list comprehension of one clause without a test -/
/-- the cells that the block is handed -/
def clOf (env : Env) (fr : List (Str × Nat)) : List (Str × Addr) := fr.map fun p => (p.1, (env.cells.lookup p.1).getD 0)
/-- what the names from outside are worth -/
def frOf (fr : List (Str × Nat)) (σ : St) : St := fr.map fun p => (σ[p.2]?).join
/-- the context of the block -/
def cxComp (X : Cx) (scope : Scope) (fr : List (Str × Nat)) (x : Str) (C : Addr) (ex : List Addr) (s : Shared) (H : Hp) : Cx where
  prog := X.prog
  w := X.w
  K := X.K
  mg := X.mg
  base := X.base
  A := X.A
  N := x :: fr.map (·.1)
  s₀ := s
  H₀ := H
  env := compEnvC scope (clOf X.env fr) C X.env
  outer := X.stack
  stack := X.stack
  ex := ex
  fn := fun _ => false
  calm := X.calm
  pn := []
  xe := fun _ _ => False
/-- what the text must show of the block's names -/
structure CompOk (X : Cx) (scope : Scope) (fr : List (Str × Nat)) (x : Str) : Prop where
  clos : closureFor scope X.env = pure (clOf X.env fr)
  cell : ∀ y ∈ scope.names, y.2 ≠ .cell
  kind : scope.kind = .function
  names : ∀ y ∈ scope.names, y.2 = .local → scope.names.lookup y.1 = some .local
  xl : scope.names.lookup x = some .local
  nd : (x :: fr.map (·.1)).Nodup
  slot : ∀ p ∈ fr, X.N[p.2]? = some p.1 ∧ X.env.kindOf p.1 = some .cell
  has : ∀ y ∈ (relabel scope X.env).names, (y.2 = .cell ∨ y.2 = .free) → y.1 ∈ fr.map (·.1)
  frk : ∀ p ∈ fr, (relabel scope X.env).names.lookup p.1 = some .cell
theorem CompOk.plain {X : Cx} {scope : Scope} {x : Str} (clos : closureFor scope X.env = pure []) (cell : ∀ y ∈ scope.names, y.2 ≠ .cell) (kind : scope.kind = .function) (names : ∀ y ∈ scope.names, y.2 = .local → scope.names.lookup y.1 = some .local)
    (hx : scope.names.lookup x = some .local) (nf : ∀ y ∈ scope.names, y.2 ≠ .free) : CompOk X scope [] x where
  clos := clos
  cell := cell
  kind := kind
  names := names
  xl := hx
  nd := by simp
  slot := fun p hp => nomatch hp
  has := fun y hy hk => by
    obtain ⟨⟨n, k⟩, hz, e⟩ := List.mem_map.mp (show y ∈ scope.names.map _ from hy)
    have h1 := nf _ hz
    have h2 := cell _ hz
    dsimp only at e h1 h2
    have hf : (k == NameKind.free) = false := by simpa using h1
    rw [hf] at e
    simp only [Bool.false_and, Bool.false_eq_true, if_false] at e
    subst e
    exact (hk.elim h2 h1).elim
  frk := fun p hp => nomatch hp
theorem CompOk.one {X : Cx} {scope : Scope} {x y : Str} {j : Nat} (clos : closureFor scope X.env = pure (clOf X.env [(y, j)])) (cell : ∀ y ∈ scope.names, y.2 ≠ .cell) (kind : scope.kind = .function) (names : ∀ y ∈ scope.names, y.2 = .local → scope.names.lookup y.1 = some .local)
    (hx : scope.names.lookup x = some .local) (nd : ([x, y] : List Str).Nodup) (hN : X.N[j]? = some y) (hk : X.env.kindOf y = some .cell) (nf : ∀ z ∈ scope.names, z.2 = .free → z.1 = y) (hr : (relabel scope X.env).names.lookup y = some .cell) : CompOk X scope [(y, j)] x where
  clos := clos
  cell := cell
  kind := kind
  names := names
  xl := hx
  nd := nd
  slot := fun p hp => by
    have e : p = (y, j) := by simpa using hp
    subst e
    exact ⟨hN, hk⟩
  has := fun z hz hk => by
    obtain ⟨⟨n, k⟩, hm, e⟩ := List.mem_map.mp (show z ∈ scope.names.map _ from hz)
    have h2 := cell _ hm
    dsimp only at e h2
    have hn : z.1 = n := by rw [← e]; split <;> rfl
    have hf : k = .free := by
      by_cases q : k = .free
      · exact q
      · have hb : (k == NameKind.free) = false := by simpa using q
        rw [hb] at e
        simp only [Bool.false_and, Bool.false_eq_true, if_false] at e
        subst e
        exact (hk.elim h2 q).elim
    have := nf _ hm hf
    rw [hn]
    simp [← this]
  frk := fun p hp => by
    have e : p = (y, j) := by simpa using hp
    subst e
    exact hr
theorem lookup_map_fst {env : Env} : ∀ {fr : List (Str × Nat)} {y : Str} {c : Addr}, (clOf env fr).lookup y = some c → y ∈ fr.map (·.1) ∧ c = (env.cells.lookup y).getD 0
  | [], _, _, h => by cases h
  | p :: r, y, c, h => by
    unfold clOf at h
    rw [List.map_cons, List.lookup_cons] at h
    cases e : y == p.1 with
    | true =>
      rw [e] at h
      have ey : y = p.1 := eq_of_beq e
      cases h
      exact ⟨by rw [ey]; exact List.mem_cons_self, by rw [ey]⟩
    | false =>
      rw [e] at h
      obtain ⟨a, b⟩ := lookup_map_fst (env := env) (fr := r) h
      exact ⟨List.mem_cons_of_mem _ a, b⟩
theorem lookup_map_some {env : Env} : ∀ {fr : List (Str × Nat)} {y : Str}, y ∈ fr.map (·.1) → (clOf env fr).lookup y = some ((env.cells.lookup y).getD 0)
  | [], _, h => by cases h
  | p :: r, y, h => by
    unfold clOf
    rw [List.map_cons, List.lookup_cons]
    cases e : y == p.1 with
    | true =>
      have ey : y = p.1 := eq_of_beq e
      rw [ey]
    | false =>
      have ny : y ≠ p.1 := fun z => by rw [z] at e; simp at e
      rcases List.mem_cons.mp h with z | z
      · exact absurd z ny
      · exact lookup_map_some (env := env) (fr := r) z
section
variable {X : Cx} {pins : List (Addr × Obj)} {σ : St} {H : Hp} {s : Shared} {scope : Scope} {fr : List (Str × Nat)} {x : Str}
/-- a cell of the block is a cell of the body around -/
theorem CompOk.cells (O : CompOk X scope fr x) (I : Inv X pins σ H s) {y : Str} {c : Addr} (h : (clOf X.env fr).lookup y = some c) : X.env.cells.lookup y = some c := by
  obtain ⟨hm, e⟩ := lookup_map_fst h
  obtain ⟨p, hp, ep⟩ := List.mem_map.mp hm
  have k := (O.slot p hp).2
  rw [ep] at k
  obtain ⟨c', e'⟩ := I.ok.has y (.inl k)
  rw [e'] at e
  rw [e', e]
  rfl
/-- the state at the block's head -/
theorem inv_comp {fp : List Addr} (O : CompOk X scope fr x) (I : Inv X pins σ H s) (hf : ∀ b ∈ fp, FpOk X pins H b) (hfs : ∀ b ∈ fp, b < s.heap.objs.size) {g h' : Heap} {tk : Nat} (hg : g = s.heap.push (LCg.lst []))
    (hk : ∀ b o, g.get? b = some o → h'.get? b = some o) (hC : h'.Ns g.objs.size fun _ => none) :
    Inv (cxComp X scope fr x g.objs.size (s.heap.objs.size :: fp) { s with heap := g } H) (X.pn ++ pins ++ [(s.heap.objs.size, LCg.lst [])]) (none :: frOf fr σ) H { s with heap := h', toks := tk } := by
  have hsz : g.objs.size = s.heap.objs.size + 1 := by rw [hg, Heap.size_push]
  have kp : ∀ b o, s.heap.get? b = some o → g.get? b = some o := fun b o e => by rw [hg]; exact Heap.get?_push_of_some _ e
  have hk0 : ∀ b o, s.heap.get? b = some o → h'.get? b = some o := fun b o e => hk b o (kp b o e)
  have hDo : h'.get? s.heap.objs.size = some (LCg.lst []) := hk _ _ (by rw [hg]; exact Heap.get?_push_size _ rfl)
  have neC : ∀ b, b < s.heap.objs.size → b ≠ g.objs.size := fun b e => by rw [hsz]; exact Nat.ne_of_lt (Nat.lt_succ_of_lt e)
  have hDC : s.heap.objs.size ≠ g.objs.size := by rw [hsz]; exact Nat.ne_of_lt (Nat.lt_succ_self _)
  have hfr : H g.objs.size = none := I.hok.fresh (by rw [hsz]; exact Nat.le_succ _)
  have hfD : H s.heap.objs.size = none := I.hok.fresh (Nat.le_refl _)
  have cne : ∀ y c, X.env.cells.lookup y = some c → c < s.heap.objs.size := fun y c e => by
    obtain ⟨v, q⟩ := I.cell y c e
    exact q.lt
  have nst : ∀ b, b ≠ X.env.locals → b ∉ X.fs → b ∉ frs X.stack := fun b h1 h2 z => (List.mem_cons.mp (I.stkSub b z)).elim h1 h2
  have nstD : s.heap.objs.size ∉ frs X.stack := nst _ (Nat.ne_of_gt I.lt) (I.nofs (Nat.le_refl _))
  refine ⟨⟨I.ok.mod, O.kind, I.ok.glob, I.ok.blt, Nat.le_refl _, ?_, ?_, fun _ _ z _ => (by cases z), I.ok.hd, I.ok.frames, .inl rfl, ?_, ?_, ?_, ?_, ?_, ?_, I.stkFree⟩, rfl, I.bare, Un.kept hk, ?_, ?_, hfr, ?_, ?_, I.hok.kept hk0, ?_⟩
  · intro y z c h1 h2
    exact I.ok.inj y z c (O.cells I h1) (O.cells I h2)
  · intro y hy
    have hm : y ∈ fr.map (·.1) := by
      rcases hy with hy | hy
      · exact O.has (y, _) (PySem.mem_of_lookup hy) (.inl rfl)
      · exact O.has (y, _) (PySem.mem_of_lookup hy) (.inr rfl)
    exact ⟨_, lookup_map_some hm⟩
  · intro b hb
    rcases List.mem_cons.mp hb with rfl | hb
    · exact ⟨hDC, fun y c e => Nat.ne_of_lt (cne y c (O.cells I e))⟩
    · exact ⟨neC b (hfs b hb), fun y c e => (hf b hb).2.2.2.2.1 y c (O.cells I e)⟩
  · intro b o e
    exact ⟨kp b o (I.bs b o e).1, (I.bs b o e).2⟩
  · show X.base.objs.size ≤ g.objs.size
    rw [hsz]
    exact Nat.le_succ_of_le (Nat.le_trans I.ok.bsz I.sz)
  · intro b o e hb
    rcases List.mem_cons.mp hb with z | hb
    · have := Heap.lt_size (I.bs b o e).1
      rw [z] at this
      exact Nat.lt_irrefl _ this
    · rcases (hf b hb).2.2.2.1 with z | z
      · exact I.ok.noex b o e z
      · exact absurd (Nat.lt_of_lt_of_le (Heap.lt_size (I.ok.bs b o e).1) z) (Nat.lt_irrefl _)
  · intro b hb
    rcases List.mem_cons.mp hb with z | hb
    · rw [z]; exact nstD
    · exact nst b (hf b hb).2.1 (hf b hb).2.2.1
  · exact (I.kept (h' := g) (t' := s.toks) kp).stack
  · refine ⟨_, hC, fun i y v e1 e2 e3 => ?_⟩
    cases i with
    | zero => cases e2
    | succ k =>
      have e1' : (fr.map (·.1))[k]? = some y := e1
      have e2' : (frOf fr σ)[k]? = some (some v) := e2
      unfold frOf at e2'
      rw [List.getElem?_map] at e1' e2'
      cases q : fr[k]? with
      | none => rw [q] at e1'; cases e1'
      | some p =>
        rw [q] at e1' e2'
        have ey : p.1 = y := Option.some.inj e1'
        have ev : (σ[p.2]?).join = some v := Option.some.inj e2'
        have hp : p ∈ fr := List.mem_of_getElem? q
        obtain ⟨hN, hK⟩ := O.slot p hp
        have hkk := O.frk p hp
        rw [ey] at hN hK hkk
        have ev' : σ[p.2]? = some (some v) := by
          cases q2 : σ[p.2]? with
          | none => rw [q2] at ev; cases ev
          | some w => rw [q2] at ev; exact congrArg some ev
        obtain ⟨m, hn, hl⟩ := I.loc
        obtain ⟨u, r, l⟩ := hl p.2 y v hN ev' (.inr (.inl hK))
        refine ⟨u, r, ?_⟩
        rcases l with ⟨k1, _⟩ | ⟨_, c, ec, z⟩
        · rw [hK] at k1; cases k1
        · have hm : y ∈ fr.map (·.1) := by rw [← ey]; exact List.mem_map.mpr ⟨p, hp, rfl⟩
          have el := lookup_map_some (env := X.env) hm
          rw [ec] at el
          exact .inr ⟨.inl hkk, c, el, by obtain ⟨o, ho, hd⟩ := z; exact ⟨o, hk0 _ _ ho, hd⟩⟩
  · intro y c e
    obtain ⟨v, o, ho, hd⟩ := I.cell y c (O.cells I e)
    exact ⟨v, o, hk0 _ _ ho, hd⟩
  · intro y c e
    exact I.freeC y c (O.cells I e)
  · intro p hp
    rcases List.mem_append.mp hp with hp | hp
    · cases hp
    · rcases List.mem_append.mp hp with hp | hp
      · obtain ⟨e, n, ne, nf, d⟩ := I.pin p hp
        exact ⟨hk0 _ _ e, n, neC _ (Heap.lt_size e), nst _ ne nf, d⟩
      · have ep : p = (s.heap.objs.size, LCg.lst []) := by simpa using hp
        subst ep
        exact ⟨hDo, hfD, hDC, nstD, fun v z => by cases z⟩
  · show (none :: frOf fr σ).length = (x :: fr.map (·.1)).length
    unfold frOf
    simp
/-- from the block's end back to the body around: the list is tracked, the block's names at C may still change -/
theorem inv_comp_end {fp : List Addr} {g : Heap} {s' : Shared} {H' : Hp} {σ' : St} {ys : List V} {us : List Value} (I : Inv X pins σ H s) (hf : ∀ b ∈ fp, FpOk X pins H b) (hg : g = s.heap.push (LCg.lst []))
    (J : Inv (cxComp X scope fr x g.objs.size (s.heap.objs.size :: fp) { s with heap := g } H) (X.pn ++ pins ++ [(s.heap.objs.size, LCg.lst us)]) σ' H' s') (hv : Vals ys us) (hl : ys.length ≤ sizeLine) :
    Inv X pins σ (upd H' s.heap.objs.size (.lst ys)) s' ∧ H' s.heap.objs.size = none ∧ FpOk X pins (upd H' s.heap.objs.size (.lst ys)) g.objs.size ∧ ∃ m, s'.heap.Ns g.objs.size m := by
  have hsz : g.objs.size = s.heap.objs.size + 1 := by rw [hg, Heap.size_push]
  have kp : ∀ b o, s.heap.get? b = some o → g.get? b = some o := fun b o e => by rw [hg]; exact Heap.get?_push_of_some _ e
  obtain ⟨eD, nD, _, _, _⟩ := J.pin (s.heap.objs.size, LCg.lst us) (by simp)
  have hDC : g.objs.size ≠ s.heap.objs.size := by rw [hsz]; exact Nat.ne_of_gt (Nat.lt_succ_self _)
  have nD' : ∀ b u, H' b = some u → b ≠ s.heap.objs.size := fun b u e z => by rw [z] at e; rw [e] at nD; cases nD
  have hx : ∀ b o, s.heap.get? b = some o → b ∉ fp → b ∉ s.heap.objs.size :: fp := fun b o e hb z => by
    rcases List.mem_cons.mp z with z | z
    · have := Heap.lt_size e
      rw [z] at this
      exact Nat.lt_irrefl _ this
    · exact hb z
  have bU : Un (frs X.stack) (s.heap.objs.size :: fp) H H' g s'.heap := J.base
  have ltD : ∀ b o, s.heap.get? b = some o → b ≠ s.heap.objs.size := fun b o e => Nat.ne_of_lt (Heap.lt_size e)
  have un : Un (frs X.stack) fp H (upd H' s.heap.objs.size (.lst ys)) s.heap s'.heap := by
    refine ⟨fun b o e n hb he => bU.keep b o (kp b o e) n hb (hx b o e he), fun b o e n hb he => bU.slot b o (kp b o e) n hb (hx b o e he), fun b o e n he => ?_, fun b o e he => bU.there b o (kp b o e) (hx b o e he), fun b xs e => ?_, fun b o u e => ?_, fun b ps e => ?_⟩
    · rw [upd_ne (ltD b o e)]; exact bU.free b o (kp b o e) n (hx b o e he)
    · have q := bU.tups b xs e
      rw [upd_ne (nD' b _ q)]; exact q
    · have q := bU.frzs b o u e
      rw [upd_ne (nD' b _ q)]; exact q
    · obtain ⟨more, q⟩ := bU.tbls b ps e
      exact ⟨more, by rw [upd_ne (nD' b _ q)]; exact q⟩
  have hok : HOk X.prog X.w (upd H' s.heap.objs.size (.lst ys)) s'.heap := fun b u e => by
    by_cases hb : b = s.heap.objs.size
    · rw [hb, upd_same] at e
      cases e
      rw [hb]
      exact ⟨hl, us, us.length, hv, eD⟩
    · rw [upd_ne hb] at e
      exact (J.hok b u e).stay (fun c v _ q => q) (fun c q => by rw [upd_ne (nD' c _ q)]; exact q) fun c xs q => by rw [upd_ne (nD' c _ q)]; exact q
  have os : s'.os = s.os := J.os
  refine ⟨I.call' os un hok J.bare fun b hb => ⟨(hf b hb).2.2.2.1, (hf b hb).2.1, (hf b hb).2.2.2.2⟩, nD, ?_, ?_⟩
  · refine I.fpOk (H' := upd H' s.heap.objs.size (.lst ys)) (b := g.objs.size) (by rw [hsz]; exact Nat.le_succ _) ?_
    rw [upd_ne hDC]
    exact J.free
  · obtain ⟨m, hn, _⟩ := J.loc
    exact ⟨m, hn⟩
end
/-- the reading: W by the turn, a measure, the items so far, the heap -/
def tCompR (te : TE) (fv : St) (J : It) (H1 : Hp) (QQ : List V → Hp → Prop) : Prop :=
  ∃ W : Nat → Nat → List V → Hp → Prop, (∃ m, W 0 m [] H1) ∧ ∀ i m ys H, W i m ys H → ys.length ≤ sizeLine ∧
    ((J.stop i H ∧ QQ ys H) ∨ (J.go i H ∧ ∃ N : V → Hp → Prop, (∀ y H2, N y H2 → ∃ m', m' < m ∧ W (i + 1) m' (ys ++ [y]) H2) ∧ ∀ x H', J.yld i H x H' → te (some x :: fv) H' N))
section
variable {X : Cx} {scope : Scope} {fr : List (Str × Nat)} {x : Str} {elt iter : Expr} {px pos : Pos} {te : TE} {wi : TI}
theorem comp_core {pins : List (Addr × Obj)} {σ : St} {H : Hp} {s : Shared} {E : Value → Shared → Prop} {it : Addr} {fp : List Addr} {tn : Nat → Heap → Prop} {J : It} {RR : Value → Addr → Result → Shared → Prop} {QQ : List V → Hp → Prop} (hc : X.calm = true) (O : CompOk X scope fr x)
    (he : ∀ C ex s H, PE (cxComp X scope fr x C ex s H) elt te) (I : Inv X pins σ H s) (T : Turn X.prog X.w X.K (.Name x px) J fp it tn) (st : tn 0 s.heap) (hf : ∀ b ∈ fp, FpOk X pins H b) (hq : tCompR te (frOf fr σ) J H QQ)
    (fin : ∀ D C H4 ys s4 m, Inv X pins σ (upd H4 D (.lst ys)) s4 → H4 D = none → FpOk X pins (upd H4 D (.lst ys)) C → s4.heap.Ns C m → QQ ys H4 → RR (.ref D) C (.ok .next) s4) :
    wpAny (model X.prog X.w) X.A (newList []) (fun acc s₃ => wpAny (model X.prog X.w) X.A (newFunctionEnv scope X.env.globals (clOf X.env fr) [] X.env.qual none .none (some X.env)) (fun cenv s₄ =>
      codeAny (model X.prog X.w) X.A (.compStart (.ListComp elt [⟨.Name x px, iter, [], 0⟩] scope pos) 0 (.ref it) acc { cenv with scope := relabel scope X.env }) (RR acc cenv.locals) s₄) E s₃) E s := by
  obtain ⟨W, ⟨m0, w0⟩, turn⟩ := hq
  have hfs : ∀ b ∈ fp, b < s.heap.objs.size := fun b hb => by
    obtain ⟨o, e, _⟩ := T.obj 0 s.heap st b hb
    exact Heap.lt_size e
  refine wpAny_newObj_type (wpAny_newFunctionEnv O.cell (by intro y hy; simp at hy) (fun h₁ hns₁ hsb₁ => ?_) O.kind)
  dsimp only at hns₁ hsb₁ ⊢
  generalize hH2 : s.heap.push { cls := .type "list", dict := none, data := .seq ([] : List Value).toArray } = g at hns₁ hsb₁ ⊢
  have hg : g = s.heap.push (LCg.lst []) := hH2.symm
  have hsz : g.objs.size = s.heap.objs.size + 1 := by rw [hg, Heap.size_push]
  have hk : ∀ b o, g.get? b = some o → h₁.get? b = some o := fun b o e => hsb₁.extBut b o (Nat.ne_of_lt (Heap.lt_size e)) (Heap.get?_push_of_some _ e)
  have kp : ∀ b o, s.heap.get? b = some o → h₁.get? b = some o := fun b o e => hk b o (by rw [hg]; exact Heap.get?_push_of_some _ e)
  have J0 := inv_comp (h' := h₁) (tk := s.toks + ([] : List (Str × Value)).length) O I hf hfs hg hk hns₁
  have stat : ∀ {H' : Hp} {us : List Value}, (∀ b ∈ fp, H' b = none) → ∀ b ∈ fp, FpOk (cxComp X scope fr x g.objs.size (s.heap.objs.size :: fp) { s with heap := g } H) (X.pn ++ pins ++ [(s.heap.objs.size, LCg.lst us)]) H' b := fun {H' us} hn b hb => by
    obtain ⟨_, f1, f2, f3, f4, f5⟩ := hf b hb
    refine ⟨hn b hb, ?_, fun z => (List.mem_cons.mp (I.stkSub b z)).elim f1 f2, .inl (List.mem_cons_of_mem _ hb), fun y c e => f4 y c (O.cells I e), fun p hp => ?_⟩
    · show b ≠ g.objs.size
      rw [hsz]; exact Nat.ne_of_lt (Nat.lt_succ_of_lt (hfs b hb))
    · rcases List.mem_append.mp hp with hp | hp
      · cases hp
      · rcases List.mem_append.mp hp with hp | hp
        · exact f5 p hp
        · have ep : p = (s.heap.objs.size, LCg.lst us) := by simpa using hp
          rw [ep]
          exact Nat.ne_of_gt (hfs b hb)
  have loop : codeAny (model X.prog X.w) X.A (.compLoop (.ListComp elt [⟨.Name x px, iter, [], 0⟩] scope pos) 0 (.ref it) (.ref s.heap.objs.size) (compEnvC scope (clOf X.env fr) g.objs.size X.env))
      (RR (.ref s.heap.objs.size) g.objs.size) { s with heap := h₁, toks := s.toks + ([] : List (Str × Value)).length } := by
    refine codeAny_compLoop_tests (fun n s' => ∃ i ys us H', Inv (cxComp X scope fr x g.objs.size (s.heap.objs.size :: fp) { s with heap := g } H) (X.pn ++ pins ++ [(s.heap.objs.size, LCg.lst us)]) (none :: frOf fr σ) H' s' ∧ Vals ys us ∧ tn i s'.heap ∧ (∀ b ∈ fp, H' b = none) ∧ W i n ys H') ?_ m0
      ⟨0, [], [], H, J0, .nil, T.keep 0 s.heap h₁ st fun b _ o e => kp b o e, fun b hb => (hf b hb).1, w0⟩
    rintro n s3 ⟨i, ys, us, H3, J3, hv, st3, fr3, w3⟩
    obtain ⟨hlen, hh⟩ := turn i n ys H3 w3
    have none_err : ∀ {α : Type} {t : Sem α} {Q : α → Shared → Prop} {E' : Value → Shared → Prop} {s : Shared}, wpAny (model X.prog X.w) X.A t Q (fun _ _ => False) s → wpAny (model X.prog X.w) X.A t Q E' s := fun h => wpAny_mono h (fun _ _ q => q) fun _ _ z => z.elim
    rcases hh with ⟨stop, qn⟩ | ⟨go, N, hN, step⟩
    · refine none_err (thn (T.done (cxComp X scope fr x g.objs.size (s.heap.objs.size :: fp) { s with heap := g } H) rfl rfl rfl hc i _ s3 _ H3 _ J3 (stat fr3) st3 stop) fun r s4 ⟨hr, J4⟩ => ?_)
      subst hr
      obtain ⟨I4, nD, fC, m, hn⟩ := inv_comp_end I hf hg J4 hv hlen
      exact fin _ _ H3 ys s4 m I4 nD fC hn qn
    · refine none_err (thn (T.item (cxComp X scope fr x g.objs.size (s.heap.objs.size :: fp) { s with heap := g } H) rfl rfl rfl hc i _ s3 _ H3 _ J3 (stat fr3) st3 go) fun r s4 ⟨u, hr, h4⟩ => ?_)
      subst hr
      have h4' := wpAny_bind (f := fun _ => assign (.Name x px) (compEnvC scope (clOf X.env fr) g.objs.size X.env) u) (thn h4 (Q' := fun _ s5 => wpAny (model X.prog X.w) X.A (assign (.Name x px) (compEnvC scope (clOf X.env fr) g.objs.size X.env) u) (fun _ s6 => ∃ (σ6 : St) (H6 : Hp) (v : V) (s5' : Shared) (H5 : Hp), Inv (cxComp X scope fr x g.objs.size (s.heap.objs.size :: fp) { s with heap := g } H) (X.pn ++ pins ++ [(s.heap.objs.size, LCg.lst us)] ++ pinsAt fp s5'.heap) σ6 H6 s6 ∧ σ6 = some v :: frOf fr σ ∧ H6 = H5 ∧ J.yld i H3 v H5 ∧ tn (i + 1) s5'.heap) (fun _ _ => False) s5) fun _ s5 ⟨v, H5, J5, r5, y5, st5, fr5⟩ => by
        have J5' := J5.pinned (stat fr5) (T.obj _ _ st5)
        have hNd : (cxComp X scope fr x g.objs.size (s.heap.objs.size :: fp) { s with heap := g } H).N.Nodup := O.nd
        have hxl : (cxComp X scope fr x g.objs.size (s.heap.objs.size :: fp) { s with heap := g } H).env.scope.names.lookup x = some .local := lookup_relabel_local O.xl
        exact thn (pg_name (X := cxComp X scope fr x g.objs.size (s.heap.objs.size :: fp) { s with heap := g } H) (i := 0) hNd rfl (.inl hxl) (.inr hxl) _ s5 _ H5 v u (fun σ6 H6 => σ6 = some v :: frOf fr σ ∧ H6 = H5) J5' r5 ⟨rfl, rfl⟩) fun _ s6 ⟨σ6, H6, J6, e6, e7⟩ => ⟨σ6, H6, v, s5, H5, J6, e6, e7, y5, st5⟩)
      refine none_err (thn h4' fun _ s6 ⟨σ6, H6, v, s5, H5, J6, e6, e7, y5, st5⟩ => ?_)
      subst e6 e7
      refine wpAny_tests_nil ?_
      rw [if_pos rfl]
      refine none_err (thn (he _ _ _ _ _ s6 _ H6 _ J6 (step v H6 y5)) fun u7 s7 ⟨v7, H7, J7, r7, q7⟩ => ?_)
      obtain ⟨m', hm, w7⟩ := hN v7 H7 q7
      obtain ⟨eD, nD, dC, dF, dd⟩ := J7.pin (s.heap.objs.size, LCg.lst us) (List.mem_append_right _ (List.mem_append_left _ (List.mem_append_right _ (by simp))))
      have hvl := hv.length
      refine append_at (hsz := by show us.toArray.size ≤ sizeLine; rw [List.size_toArray, ← hvl]; exact hlen) eD fun h8 hs8 hD8 => ?_
      have pinD : ∀ p ∈ X.pn ++ pins, p.1 ≠ s.heap.objs.size := fun p hp z => by
        have := Heap.lt_size (I.pin p hp).1
        rw [z] at this
        exact Nat.lt_irrefl _ this
      have J7a : Inv (cxComp X scope fr x g.objs.size (s.heap.objs.size :: fp) { s with heap := g } H) (X.pn ++ pins) _ H7 s7 := J7.pins_of fun p hp => J7.pin p (List.mem_append_right _ (List.mem_append_left _ (List.mem_append_left _ hp)))
      have J8 : Inv (cxComp X scope fr x g.objs.size (s.heap.objs.size :: fp) { s with heap := g } H) (X.pn ++ pins) _ H7 { s7 with heap := h8 } := J7a.turned (t' := s7.toks) (fun b o hb e => (hs8.2 b hb).trans e) nD dC (.inl List.mem_cons_self) (fun y c e z => by
        obtain ⟨w', q⟩ := I.cell y c (O.cells I e)
        have := q.lt
        rw [z] at this
        exact Nat.lt_irrefl _ this) (fun p hp => (List.mem_append.mp hp).elim (fun z => by cases z) (pinD p))
      have J9 : Inv (cxComp X scope fr x g.objs.size (s.heap.objs.size :: fp) { s with heap := g } H) (X.pn ++ pins ++ [(s.heap.objs.size, LCg.lst (us ++ [u7]))]) _ H7 { s7 with heap := h8 } := J8.pins_of fun p hp => by
        rcases List.mem_append.mp hp with hp | hp
        · exact J8.pin p (List.mem_append_right _ hp)
        · have ep : p = (s.heap.objs.size, LCg.lst (us ++ [u7])) := by simpa using hp
          subst ep
          exact ⟨hD8.trans (congrArg some (LCg.lst_snoc us u7)), nD, dC, dF, fun v z => by cases z⟩
      have J10 := J9.weak (σ' := none :: frOf fr σ) rfl fun i v e => by
        cases i with
        | zero => cases e
        | succ k => exact e
      have pinF : ∀ b ∈ fp, ∀ o, s5.heap.get? b = some o → s7.heap.get? b = some o ∧ H7 b = none := fun b hb o e => by
        obtain ⟨q1, q2, _⟩ := J7.pin (b, o) (List.mem_append_right _ (List.mem_append_right _ (mem_pinsAt hb e)))
        exact ⟨q1, q2⟩
      refine ⟨m', hm, i + 1, ys ++ [v7], us ++ [u7], H7, J10, hv.append (.cons r7 .nil), T.keep _ _ _ st5 fun b hb o e => (hs8.2 b (Nat.ne_of_lt (hfs b hb))).trans (pinF b hb o e).1, fun b hb => ?_, w7⟩
      obtain ⟨o, e, _⟩ := T.obj _ _ st5 b hb
      exact (pinF b hb o e).2
  exact codeAny_compStart_list loop (T.self X.A 0 _ _ _ (T.keep 0 s.heap h₁ st fun b _ o e => kp b o e) loop)
/-- [elt for x in iter] -/
def tComp (wi : TI) (te : TE) (fr : List (Str × Nat)) : TE := fun σ H Q => wi σ H fun J H1 => tCompR te (frOf fr σ) J H1 fun ys H2 => ∀ D, H2 D = none → Q (.ref D) (upd H2 D (.lst ys))
theorem pe_comp (hc : X.calm = true) (O : CompOk X scope fr x) (hi : PI X (.Name x px) iter wi) (he : ∀ C ex s H, PE (cxComp X scope fr x C ex s H) elt te) (hs : ∀ x, foldedSetIterable iter X.env x = pure x := by intro _; rfl) :
    PE X (.ListComp elt [⟨.Name x px, iter, [], 0⟩] scope pos) (tComp wi te fr) := by
  intro pins s σ H Q I h
  rw [eval_ListComp]
  refine wpAny_comprehension_free (use := none) rfl hs O.clos O.kind O.names (thn (hi pins s σ H _ I h) fun xv s1 h1 => thn h1 fun itv s2 h2 => ?_)
  obtain ⟨it, fp, tn, J, H2, e, I2, T, st2, f2, q2⟩ := h2
  subst e
  refine comp_core (RR := fun acc C => compPost (model X.prog X.w) X.A X.xe none (EP X pins σ Q) acc C) hc O he I2 T st2 f2 q2 ?_
  intro D C H4 ys s4 m I4 nD fC hn q4
  refine ⟨m, hn, fun h' hs' => ?_⟩
  obtain ⟨g0, g1, g2, g3, g4, g5⟩ := fC
  exact ⟨.ref D, _, I4.turned (t' := s4.toks) (fun b o hb e => (hs'.2 b hb).trans e) g0 g1 g3 g4 g5, rfl, q4 D nD⟩
/-- y = [elt for x in iter], y a plain local name -/
def tAsgComp (i : Nat) (wi : TI) (te : TE) (fr : List (Str × Nat)) : TS := fun D σ H => wi σ H fun J H1 => tCompR te (frOf fr σ) J H1 fun ys H2 => ∀ a, H2 a = none → D.nx (σ.set i (some (.ref a))) (upd H2 a (.lst ys))
theorem ps_setComp {i : Nat} {y : Str} {py spos : Pos} (hc : X.calm = true) (hN : X.N.Nodup) (hi' : X.N[i]? = some y) (hy : X.env.scope.names.lookup y = some .local) (O : CompOk X scope fr x) (hi : PI X (.Name x px) iter wi) (he : ∀ C ex s H, PE (cxComp X scope fr x C ex s H) elt te)
    (hsw : swapsWith (.ListComp elt [⟨.Name x px, iter, [], 0⟩] scope pos) (some (.Name y py)) spos.line X.env = pure true := by rfl) (hs : ∀ x, foldedSetIterable iter X.env x = pure x := by intro _; rfl) :
    PS X (.Assign [.Name y py] (.ListComp elt [⟨.Name x px, iter, [], 0⟩] scope pos) spos) (tAsgComp i wi te fr) := by
  intro pins s σ H D I h
  rw [exec_Assign_Name_used _ _ _ _ hsw]
  refine wpAny_bind (wpAny_standAt (wpAny_bind ?_))
  show wpAny _ X.A (do let _ ← comprehension (.ListComp elt [⟨.Name x px, iter, [], 0⟩] scope pos) scope X.env _ (newList []) false (eval iter X.env) (some (assign (.Name y py) X.env))) _ _ s
  refine wpAny_bind (thn (wpAny_comprehension_free (use := some (assign (.Name y py) X.env)) (Q := fun _ s' => SP X pins D .next s') rfl hs O.clos O.kind O.names (thn (hi pins s σ H _ I h) fun xv s1 h1 => thn h1 fun itv s2 h2 => ?_)) fun _ s' hq => wpAny_pure (wpAny_pure hq))
  obtain ⟨it, fp, tn, J, H2, e, I2, T, st2, f2, q2⟩ := h2
  subst e
  refine comp_core (RR := fun acc C => compPost (model X.prog X.w) X.A X.xe (some (assign (.Name y py) X.env)) (fun _ s' => SP X pins D .next s') acc C) hc O he I2 T st2 f2 q2 ?_
  intro a C H4 ys s4 m I4 nD fC hn q4
  obtain ⟨g0, g1, g2, g3, g4, g5⟩ := fC
  obtain ⟨oC, eC, hoC⟩ := LCg.ns_obj hn
  have I5 : Inv X (pins ++ [(C, oC)]) σ (upd H4 a (.lst ys)) s4 := I4.pins_of fun p hp => by
    rcases List.mem_append.mp hp with hp | hp
    · exact I4.pin p (List.mem_append_right _ hp)
    · have ep : p = (C, oC) := by simpa using hp
      subst ep
      obtain ⟨es, epp, hd, _⟩ := hoC
      exact ⟨eC, g0, g1, g2, fun v z => by rw [hd] at z; cases z⟩
  show wpAny _ X.A (assign (.Name y py) X.env (.ref a)) _ _ _
  refine wpAny_assign_Name (store_ok I5 hN hi' (.inl hy) (v := .ref a) rfl (fun s6 I6 => ?_) (.inr hy))
  obtain ⟨e6, _⟩ := I6.pin (C, oC) (List.mem_append_right _ (List.mem_append_right _ (by simp)))
  refine ⟨m, hoC.ns e6, fun h' hs' => ?_⟩
  exact ⟨_, _, I6.unpinned.turned (t' := s6.toks) (fun b o hb e => (hs'.2 b hb).trans e) g0 g1 g3 g4 g5, q4 a nD⟩
end
/-! ### the forms one uses -/
/-- over a list that stays as it is -/
theorem comp_list {K : PySem.W.Frag} {a : Addr} {xs : List V} {te : TE} {fv : St} {H1 : Hp} {QQ : List V → Hp → Prop} (Pv : Nat → List V → Hp → Prop) (hz : xs.length ≤ sizeLine) (h0 : Pv 0 [] H1) (hl : ∀ i ys H, i ≤ xs.length → Pv i ys H → SqL K H a xs)
    (hs : ∀ i x ys H, xs[i]? = some x → Pv i ys H → te (some x :: fv) H fun y H2 => Pv (i + 1) (ys ++ [y]) H2) (hd : ∀ ys H, ys.length = xs.length → Pv xs.length ys H → QQ ys H)
    : tCompR te fv (Itl K a) H1 QQ := by
  refine ⟨fun i m ys H => m = xs.length - i ∧ i ≤ xs.length ∧ ys.length = i ∧ Pv i ys H, ⟨xs.length, by simp, Nat.zero_le _, rfl, h0⟩, ?_⟩
  rintro i m ys H ⟨rfl, hi, hy, p⟩
  have q := hl i ys H hi p
  refine ⟨by omega, ?_⟩
  by_cases hlt : i < xs.length
  · refine .inr ⟨⟨xs, xs[i], q, by simp [hlt]⟩, fun y H2 => Pv (i + 1) (ys ++ [y]) H2, fun y H2 p2 => ⟨xs.length - (i + 1), by omega, rfl, hlt, by rw [List.length_append, hy]; rfl, p2⟩, fun x H' y => ?_⟩
    obtain ⟨e, y⟩ := y
    subst e
    exact hs i x ys _ (y xs q) p
  · have e : i = xs.length := by omega
    subst e
    exact .inl ⟨⟨xs, q, Nat.le_refl _⟩, hd ys H hy p⟩
theorem comp_range {lo : Int} {n : Nat} {te : TE} {fv : St} {H1 : Hp} {QQ : List V → Hp → Prop} (Pv : Nat → List V → Hp → Prop) (hz : n ≤ sizeLine) (h0 : Pv 0 [] H1)
    (hs : ∀ i ys H, i < n → Pv i ys H → te (some (.int (lo + i)) :: fv) H fun y H2 => Pv (i + 1) (ys ++ [y]) H2) (hd : ∀ ys H, ys.length = n → Pv n ys H → QQ ys H)
    : tCompR te fv (Itr lo n) H1 QQ := by
  refine ⟨fun i m ys H => m = n - i ∧ i ≤ n ∧ ys.length = i ∧ Pv i ys H, ⟨n, by simp, Nat.zero_le _, rfl, h0⟩, ?_⟩
  rintro i m ys H ⟨rfl, hi, hy, p⟩
  refine ⟨by omega, ?_⟩
  by_cases hlt : i < n
  · refine .inr ⟨hlt, fun y H2 => Pv (i + 1) (ys ++ [y]) H2, fun y H2 p2 => ⟨n - (i + 1), by omega, rfl, hlt, by rw [List.length_append, hy]; rfl, p2⟩, fun x H' y => ?_⟩
    obtain ⟨e, y⟩ := y
    subst e y
    exact hs i ys _ hlt p
  · have e : i = n := by omega
    subst e
    exact .inl ⟨Nat.le_refl _, hd ys H hy p⟩
end L2

namespace L2
open PySem PySem.Spec PyProof.Rows
theorem bt_int : bootBuiltins "int" = some (.type "int") := by decide +kernel
theorem bt_bool : bootBuiltins "bool" = some (.type "bool") := by decide +kernel
theorem bt_list : bootBuiltins "list" = some (.type "list") := by decide +kernel
theorem bt_len : bootBuiltins "len" = some (.builtin "len") := by decide +kernel
theorem bt_range : bootBuiltins "range" = some (.type "range") := by decide +kernel
theorem bt_isinstance : bootBuiltins "isinstance" = some (.builtin "isinstance") := by decide +kernel
theorem bt_sorted : bootBuiltins "sorted" = some (.builtin "sorted") := by decide +kernel
theorem bt_enumerate : bootBuiltins "enumerate" = some (.type "enumerate") := by decide +kernel
/-! ### a callee, all that a call asks -/
structure Cal (P : Program) (w : World) (K : PySem.W.Frag) (mg : Str → Option Value) (base : Heap) (k : Nat) (x : Str) (ps : List Str) (sp : Sp) (f : Addr) (fd : FuncData) : Prop where
  ok : FnOk P w K mg base CX0 k f fd ps sp
  bn : Binds K fd ps []
  mg : mg x = some (.ref f)
  kp : PySem.W.keepIn K (.ref f) = true
structure Mak (P : Program) (w : World) (K : PySem.W.Frag) (mg : Str → Option Value) (base : Heap) (k : Nat) (x : Str) (ps : List Str) (sp : Sp) (C f : Addr) (fd : FuncData) : Prop where
  mkc : Mk K C f
  ok : FnOk P w K mg base CX0 k f fd ps sp
  bn : Binds K fd ps []
  mg : mg x = some (.ref C)
/-! ### a block by what one asks of it -/
theorem pss_imp {X : Cx} {sts : List Stmt} {t t2 : TS} (h : PSs X sts t) (i : ∀ D σ H, t2 D σ H → t D σ H) : PSs X sts t2 := fun pins s σ H D I q => h pins s σ H D I (i D σ H q)
/-! ### isinstance(x, c), c one class -/
section
variable {X : Cx}
def rIsi (K : PySem.W.Frag) : List V → Hp → VK → Prop := fun xs H Q => ∃ x c t b u, xs = [x, c] ∧ TyOf K H x t ∧ ((∃ n, c = .ty n ∧ u = Value.type n) ∨ ∃ a, c = .ref a ∧ u = Value.ref a) ∧ PySem.W.kitOne K t u = some b ∧ Q (.bl b) H
theorem call_isi : CallR X (.builtin "isinstance") (rIsi X.K) := by
  intro pins s σ H xs us Q I r h
  obtain ⟨x, c, t, b, u, rfl, ty, hu, e, q⟩ := h
  obtain ⟨v1, v2, rfl, r1, r2⟩ := vals2 r
  have e2 : v2 = u := by
    rcases hu with ⟨n, rfl, rfl⟩ | ⟨a, rfl, rfl⟩
    · exact r2
    · exact r2
  subst e2
  exact isinst_ok I r1 ty e fun tk => ⟨.bl b, H, I.tok tk, rfl, q⟩
theorem kit_ii (K : PySem.W.Frag) : PySem.W.kitOne K (.type "int") (.type "int") = some true := by with_unfolding_all rfl
theorem kit_ib (K : PySem.W.Frag) : PySem.W.kitOne K (.type "int") (.type "bool") = some false := by with_unfolding_all rfl
theorem kit_ll (K : PySem.W.Frag) : PySem.W.kitOne K (.type "list") (.type "list") = some true := by with_unfolding_all rfl
end
/-! ### == of two things that hold the same data: lists and tuples of ints, bools, texts, at any depth -/
inductive RdD (K : PySem.W.Frag) (H : Hp) : V → PyData → Prop where
  | non : RdD K H .non .none
  | bl (b : Bool) : RdD K H (.bl b) (.bool b)
  | int (i : Int) : RdD K H (.int i) (.int i)
  | lst {a : Addr} {xs : List V} {ds : List PyData} (h : SqL K H a xs) (hl : xs.length = ds.length) (r : ∀ (i : Nat) (x : V) (d : PyData), xs[i]? = some x → ds[i]? = some d → RdD K H x d) : RdD K H (.ref a) (.list ds)
  | tup {a : Addr} {xs : List V} {ds : List PyData} (h : SqT K H a xs) (hl : xs.length = ds.length) (r : ∀ (i : Nat) (x : V) (d : PyData), xs[i]? = some x → ds[i]? = some d → RdD K H x d) : RdD K H (.ref a) (.tuple ds)
theorem readsAll_of {h : Heap} : ∀ {xs : List V} {us : List Value} {ds : List PyData}, Vals xs us → xs.length = ds.length → (∀ (i : Nat) x d, xs[i]? = some x → ds[i]? = some d → ∀ u, RelV x u → ∃ as, Reads h u d as) → ∃ as, ReadsAll h us ds as
  | _, _, [], .nil, _, _ => ⟨_, .nil⟩
  | _, _, _ :: _, .nil, e, _ => by cases e
  | _, _, [], .cons _ _, e, _ => by cases e
  | _, _, d :: ds, .cons r rr, e, k => by
    obtain ⟨a1, q1⟩ := k 0 _ d rfl rfl _ r
    obtain ⟨a2, q2⟩ := readsAll_of rr (Nat.succ.inj e) fun i x d' e1 e2 => k (i + 1) x d' e1 e2
    exact ⟨_, .cons q1 q2⟩
section
variable {X : Cx}
theorem RdD.reads {pins : List (Addr × Obj)} {σ : St} {H : Hp} {s : Shared} (I : Inv X pins σ H s) {x : V} {d : PyData} (r : RdD X.K H x d) : ∀ u, RelV x u → ∃ as, Reads s.heap u d as := by
  induction r with
  | non => intro u hu; cases hu; exact ⟨_, .none⟩
  | bl b => intro u hu; cases hu; exact ⟨_, .bool b⟩
  | int i => intro u hu; obtain ⟨t, rfl⟩ := hu; exact ⟨_, .int i t⟩
  | lst h hl r ih =>
    intro u hu
    cases hu
    obtain ⟨its, rv, p, _⟩ := I.list h
    obtain ⟨as, q⟩ := readsAll_of (h := s.heap) rv hl ih
    obtain ⟨o, n, e, c, _, d⟩ := p
    exact ⟨_, .list e c d (by simpa using q)⟩
  | tup h hl r ih =>
    intro u hu
    cases hu
    obtain ⟨its, rv, p, _⟩ := I.tuple h
    obtain ⟨as, q⟩ := readsAll_of (h := s.heap) rv hl ih
    obtain ⟨o, e, c, n, d⟩ := p
    exact ⟨_, .tuple e c d (by simpa using q)⟩
def rSame (b : Bool) (K : PySem.W.Frag) : R2 := fun x y H Q => ∃ d, RdD K H x d ∧ RdD K H y d ∧ SeqAt.shaped d = true ∧ Q (.bl b) H
theorem op_neD (hu : X.A.units + 64 < cLine) : OpR X (compareOp .NotEq) (rSame false X.K) := by
  intro pins s σ H x y v u Q I rx ry h
  obtain ⟨d, r1, r2, hs, q⟩ := h
  obtain ⟨as, q1⟩ := r1.reads I v rx
  obtain ⟨bs, q2⟩ := r2.reads I u ry
  refine ne_dataH q1 q2 hs hs hu ?_
  rw [SeqAt.eqv_refl d (SeqAt.canLay_of_shaped hs)]
  exact ⟨.bl false, H, I, rfl, q⟩
end
/-! ### range(a, b, c), c above nought -/
def Itr3 (lo c : Int) (n : Nat) : It := ⟨fun i _ => i < n, fun i H x H' => H' = H ∧ x = .int (lo + i * c), fun i _ => n ≤ i⟩
theorem turn_range3 {P : Program} {w : World} {K : PySem.W.Frag} {tg : Expr} (it : Addr) (lo c : Int) (n : Nat) : Turn P w K tg (Itr3 lo c n) [it] it (fun i h => IsRangeIter h it (lo + (i : Nat) * c) ((n : Int) - (i : Nat)) c) where
  mem := by simp
  obj := fun i h st b hb => by
    have e : b = it := by simpa using hb
    subst e
    exact ⟨_, st, fun v z => by
      have z' : Data.fields _ = Data.cell v := z
      cases z'⟩
  keep := fun i h h' st k => k it (by simp) _ st
  item := by
    intro X hP hw hK hc i pins s σ H E I hf st hg
    subst hP hw hK
    obtain ⟨f0, f1, f2, f3, f4, f5⟩ := hf it (by simp)
    have W := Walks.range (prog := X.prog) (w := X.w) (I.ok.hd hc) it lo c n
    refine W.item i s _ _ hg st fun v h' tk hv st' kk => ?_
    obtain ⟨t, rfl⟩ := hv
    have I1 : Inv X pins σ H { s with heap := h', toks := tk } := I.turned (fun b o hb e => kk b o (by simpa using hb) e) f0 f1 f3 f4 f5
    exact ⟨_, rfl, go_of (s := { s with heap := h', toks := tk }) (n := "range_iterator") st' rfl rfl (by decide) ⟨.int (lo + i * c), H, I1, ⟨t, rfl⟩, ⟨rfl, rfl⟩, st', fun b hb => (hf b hb).1⟩⟩
  done := by
    intro X hP hw hK hc i pins s σ H E I hf st hg
    subst hP hw hK
    obtain ⟨f0, f1, f2, f3, f4, f5⟩ := hf it (by simp)
    exact wpAny_pyNext_range_end (I.ok.hd hc) st (by have : n ≤ i := hg; omega) fun h' eb => ⟨rfl, I.turned (t' := s.toks) (fun b o hb e => eb b o hb e) f0 f1 f3 f4 f5⟩
  self := fun _ _ _ _ _ st h => wpAny_pyIter_rangeiter st h
section
variable {X : Cx} {tg : Expr}
end
end L2

namespace L2
open PySem PySem.Spec PyProof.Rows
/-! ## exceptions of own classes: raised, passed on, caught -/
section
variable {P : Program} {w : World} {H : Hp} {h : Heap} {a : Addr} {o : HO}
theorem ObjOk.get (x : ObjOk P w H h a o) : ∃ ob, h.get? a = some ob := by
  cases o with
  | lst xs => obtain ⟨_, _, _, _, e⟩ := x; exact ⟨_, e⟩
  | tup xs => obtain ⟨_, _, _, ob, e, _⟩ := x; exact ⟨_, e⟩
  | dK kvs => obtain ⟨_, _, _, _, o, _, _, e, _⟩ := x; exact ⟨_, e⟩
  | dT kvs => obtain ⟨_, _, _, _, o, _, _, e, _⟩ := x; exact ⟨_, e⟩
  | set S n => obtain ⟨o, _, _, _, e, _⟩ := x; exact ⟨_, e⟩
  | ins C dx fs => obtain ⟨_, _, _, e, _⟩ := x; exact ⟨_, e⟩
  | own y => exact x
  | xd fs => obtain ⟨_, ⟨_, _, _, e, _⟩, _⟩ := x; exact ⟨_, e⟩
  | rng lo hi => obtain ⟨_, _, _, e⟩ := x; exact ⟨_, e⟩
  | frz ob u => exact ⟨_, x.1⟩
  | tbl ps => exact ⟨_, (show h.get? a = some _ from x)⟩
  | met f y => exact ⟨_, (show h.get? a = some _ from x)⟩
  | ext φ => exact x.2.1
theorem HOk.none_of (x : HOk P w H h) (e : h.get? a = none) : H a = none := by
  cases q : H a with
  | none => rfl
  | some u =>
    obtain ⟨ob, z⟩ := (x a u q).get
    rw [e] at z
    cases z
end

/-- an object of nobody: not there at the entry, not tracked, no frame, no cell, no pin -/
structure XOk (X : Cx) (pins : List (Addr × Obj)) (H : Hp) (b : Addr) : Prop where
  old : X.s₀.heap.get? b = none
  trk : H b = none
  nl : b ≠ X.env.locals
  nc : ∀ x c, X.env.cells.lookup x = some c → c ≠ b
  np : ∀ p ∈ X.pn ++ pins, p.1 ≠ b
section
variable {X : Cx} {pins : List (Addr × Obj)} {σ : St} {H H' : Hp} {s s' : Shared} {b : Addr}
/-- what is not there is nobody's -/
theorem Inv.xok (I : Inv X pins σ H s) (hx : X.ex = []) (e : s.heap.get? b = none) (n : H' b = none) : XOk X pins H' b := by
  refine ⟨?_, n, fun z => ?_, fun x c q z => ?_, fun p hp z => ?_⟩
  · cases q : X.s₀.heap.get? b with
    | none => rfl
    | some o =>
      obtain ⟨o', e'⟩ := I.base.there b o q (by rw [hx]; simp)
      rw [e] at e'
      cases e'
  · obtain ⟨m, ⟨o, _, _, ho, _⟩, _⟩ := I.loc
    rw [z, ho] at e
    cases e
  · obtain ⟨v, o, ho, _⟩ := I.cell x c q
    rw [z, e] at ho
    cases ho
  · have := (I.pin p hp).1
    rw [z, e] at this
    cases this
/-- a step of an exception: nobody's objects at ch may change, of the running frames the slots -/
theorem Inv.xstep {h' : Heap} {ch : List Addr} (I : Inv X pins σ H s) (hch : ∀ b ∈ ch, XOk X pins H b)
    (keep : ∀ b o, s.heap.get? b = some o → b ∉ ch → b ∉ frs X.stack → h'.get? b = some o)
    (slot : ∀ b o, s.heap.get? b = some o → b ∉ ch → b ∈ frs X.stack → ∃ sl, h'.get? b = some { o with slots := sl }) : Inv X pins σ H { s with heap := h' } := by
  have any : ∀ b o, s.heap.get? b = some o → b ∉ ch → ∃ sl, h'.get? b = some { o with slots := sl } := fun b o e hc => by
    by_cases hb : b ∈ frs X.stack
    · exact slot b o e hc hb
    · exact ⟨o.slots, keep b o e hc hb⟩
  have fsub : ∀ b, b ∈ frs X.stack → b ≠ X.env.locals → b ∈ X.fs := fun b hb n => (List.mem_cons.mp (I.stkSub b hb)).elim (fun z => absurd z n) fun z => z
  have neL : ∀ b o, X.s₀.heap.get? b = some o → b ≠ X.env.locals := fun b o e => Nat.ne_of_lt (Nat.lt_of_lt_of_le (Heap.lt_size e) I.ok.above)
  have neC : ∀ b o, X.s₀.heap.get? b = some o → b ∉ ch := fun b o e hb => by
    have := (hch b hb).old
    rw [e] at this
    cases this
  have cellK : ∀ x c, X.env.cells.lookup x = some c → ∀ v, s.heap.IsCell c v → h'.IsCell c v := fun x c e v ⟨o, ho, hd⟩ => by
    obtain ⟨sl, q⟩ := any c o ho fun z => (hch c z).nc x c e rfl
    exact ⟨_, q, hd⟩
  refine ⟨I.ok, I.os, I.bare, ⟨fun b o e n hb hx => ?_, fun b o e n hb hx => ?_, I.base.free, fun b o e hx => ?_, I.base.tups, I.base.frzs, I.base.tbls⟩, ?_, fun x c e => ?_, I.free, I.freeC, fun p hp => ?_, fun b u e => ?_, I.len⟩
  · exact keep b o (I.base.keep b o e n hb hx) (neC b o e) fun z => hb (fsub b z (neL b o e))
  · obtain ⟨sl, e1⟩ := I.base.slot b o e n hb hx
    obtain ⟨sl', e2⟩ := any b _ e1 (neC b o e)
    exact ⟨sl', e2⟩
  · obtain ⟨o', e1⟩ := I.base.there b o e hx
    obtain ⟨sl, e2⟩ := any b _ e1 (neC b o e)
    exact ⟨_, e2⟩
  · obtain ⟨m, ⟨o, es, ep, ho, r⟩, hl⟩ := I.loc
    obtain ⟨sl, e2⟩ := any _ o ho fun z => (hch _ z).nl rfl
    refine ⟨m, ⟨_, es, ep, e2, r⟩, fun i x v e1 e2 e3 => ?_⟩
    obtain ⟨u, r, l⟩ := hl i x v e1 e2 e3
    refine ⟨u, r, ?_⟩
    rcases l with l | ⟨k, c, e, z⟩
    · exact .inl l
    · exact .inr ⟨k, c, e, cellK x c e _ z⟩
  · obtain ⟨v, z⟩ := I.cell x c e
    exact ⟨v, cellK x c e v z⟩
  · obtain ⟨e, n, ne, nf, d⟩ := I.pin p hp
    exact ⟨keep p.1 p.2 e (fun z => (hch p.1 z).np p hp rfl) fun z => nf (fsub p.1 z ne), n, ne, nf, d⟩
  · have nof : ∀ c u', H c = some u' → c ∉ ch ∧ c ∉ frs X.stack := fun c u' q => ⟨fun z => (by rw [(hch c z).trk] at q; exact nomatch q), fun z => (by rw [I.stkFree c z] at q; exact nomatch q)⟩
    refine (I.hok b u e).stay (fun c v hc q => ?_) (fun _ q => q) fun _ _ q => q
    rcases hc with z | z
    · rw [z] at q ⊢
      exact keep b v q (nof b u e).1 (nof b u e).2
    · exact keep c v q (nof c _ z).1 (nof c _ z).2
/-- an object of nobody is tracked -/
theorem Inv.xtrack {a : Addr} {o : HO} (I : Inv X pins σ H s) (f : XOk X pins H a) (new : ObjOk X.prog X.w (upd H a o) s.heap a o) : Inv X pins σ (upd H a o) s := by
  have ne : ∀ b u, H b = some u → b ≠ a := fun b u e => ne_of_none e f.trk
  have nb : ∀ b u, s.heap.get? b = some u → b ≠ a → H b = none → upd H a o b = none := fun b u _ n q => by rw [upd_ne n]; exact q
  refine ⟨I.ok, I.os, I.bare, ⟨I.base.keep, I.base.slot, fun b ob e n hx => ?_, I.base.there, fun b xs e => ?_, fun b ob xs e => ?_, fun b ps e => ?_⟩, I.loc, I.cell, ?_, fun x c e => ?_, fun p hp => ?_, fun b u e => ?_, I.len⟩
  · rw [upd_ne (fun z => by rw [z, f.old] at e; cases e)]
    exact I.base.free b ob e n hx
  · have := I.base.tups b xs e
    rw [upd_ne (ne _ _ this)]
    exact this
  · have := I.base.frzs b ob xs e
    rw [upd_ne (ne _ _ this)]
    exact this
  · obtain ⟨m, q⟩ := I.base.tbls b ps e
    exact ⟨m, by rw [upd_ne (ne _ _ q)]; exact q⟩
  · rw [upd_ne (Ne.symm f.nl)]
    exact I.free
  · rw [upd_ne (f.nc x c e)]
    exact I.freeC x c e
  · obtain ⟨e, n, r⟩ := I.pin p hp
    exact ⟨e, by rw [upd_ne (f.np p hp)]; exact n, r⟩
  · by_cases hb : b = a
    · rw [hb, upd_same] at e
      cases e
      rw [hb]
      exact new
    · rw [upd_ne hb] at e
      exact (I.hok b u e).stay (fun c v _ q => q) (fun c q => by rw [upd_ne (ne c _ q)]; exact q) fun c xs q => by rw [upd_ne (ne c _ q)]; exact q
end

/-- an exception that has left a frame, or was looked at: at x, of the class C, its trace begins at T -/
def Trc (h : Heap) (x : Addr) (C : Value) (T : Addr) : Prop :=
  ∃ oe vs a0 oT ts, h.get? x = some oe ∧ oe.cls = C ∧ vs[0]? = some a0 ∧ oe.data = .fields vs ∧ vs[1]? = some (.ref T) ∧ T ≠ x ∧ h.get? T = some oT ∧ oT.data = .fields ts ∧ ts[3]? = some .none
/-- just made -/
def Xnw (h : Heap) (x : Addr) (C : Value) : Prop := ∃ oe vs a0, h.get? x = some oe ∧ oe.cls = C ∧ oe.data = .fields vs ∧ vs[0]? = some a0 ∧ vs[1]? = some .none
/-- an exception in flight -/
def XA (X : Cx) (pins : List (Addr × Obj)) (H : Hp) (s : Shared) (x : Addr) (C : Value) : Prop := XOk X pins H x ∧ (Xnw s.heap x C ∨ ∃ T, XOk X pins H T ∧ Trc s.heap x C T)
/-- how it lies behind a call -/
def CXr (P : Program) (w : World) : CXT := fun outer H s E e s' => ∃ (x : Addr) (C : Value) (T : Addr) (H' : Hp), e = .ref x ∧ s'.os = s.os ∧ AllBare s'.gens ∧ Un (frs outer) [] H H' s.heap s'.heap ∧ HOk P w H' s'.heap ∧
  s.heap.get? x = none ∧ s.heap.get? T = none ∧ H' x = none ∧ H' T = none ∧ Trc s'.heap x C T ∧ E C none H'
section
variable {X : Cx} {pins : List (Addr × Obj)} {σ : St} {H : Hp} {s : Shared} {x : Addr} {C : Value} {E : Value → Shared → Prop}
abbrev hidX (X : Cx) (h : Heap) (ch : List Addr) : Heap := PySem.W.hideAll h (ch ++ frs X.stack)
theorem Inv.hidF (I : Inv X pins σ H s) (ch : List Addr) : s.heap.FunFrames (hidX X s.heap ch) X.stack :=
  PySem.W.funFrames_hide I.stack fun env he a hf => List.mem_append_right _ (List.mem_filterMap.mpr ⟨env, he, hf⟩)
theorem hid_in (ch : List Addr) (h : Heap) : (hidX X h ch).StaysIn h := fun _ _ e => PySem.W.of_hideAll _ e
theorem hid_none {ch : List Addr} {h : Heap} {b : Addr} (hb : b ∈ ch) : (hidX X h ch).get? b = none := PySem.W.hideAll_none _ (List.mem_append_left _ hb)
/-- behind a note of a frame -/
theorem Inv.left {h' : Heap} {ch : List Addr} {a0 : Value} (I : Inv X pins σ H s) (hx : X.ex = []) (hch : ∀ b ∈ ch, XOk X pins H b) (k : (hidX X s.heap ch).StaysIn h') (t : h'.TracedW (hidX X s.heap ch) x C a0) (u : s.heap.UpToSlots h') :
    Inv X pins σ H { s with heap := h' } ∧ ∃ T, XOk X pins H T ∧ Trc h' x C T := by
  have fr : ∀ b o, s.heap.get? b = some o → b ∈ frs X.stack → ∃ sl, h'.get? b = some { o with slots := sl } := fun b o e hb => by
    obtain ⟨_, o', ho, hd⟩ := I.stack.mem hb
    rw [e] at ho
    cases ho
    exact u b o e hd
  refine ⟨I.xstep hch (fun b o e n1 n2 => k b o (PySem.W.hideAll_get _ e fun z => (List.mem_append.mp z).elim n1 n2)) fun b o e _ hb => fr b o e hb, ?_⟩
  obtain ⟨oe, vs, T, oT, ts, he, ⟨hcls, h0⟩, hd, h1, hnT, hTe, hT, hdT, h3⟩ := t
  refine ⟨T, ?_, oe, vs, a0, oT, ts, he, hcls, h0, hd, h1, hTe, hT, hdT, h3⟩
  cases q : s.heap.get? T with
  | none => exact I.xok hx q (I.hok.none_of q)
  | some o =>
    by_cases z : T ∈ ch
    · exact hch T z
    · by_cases z2 : T ∈ frs X.stack
      · obtain ⟨_, o', ho, hd'⟩ := I.stack.mem z2
        obtain ⟨sl, e⟩ := fr T o q z2
        rw [hT] at e
        cases e
        rw [q] at ho
        cases ho
        exact absurd hdT (hd' ts)
      · have := PySem.W.hideAll_get (ch ++ frs X.stack) q fun z3 => (List.mem_append.mp z3).elim z z2
        rw [hnT] at this
        cases this
/-- the exception leaves the frame -/
theorem Inv.leave {Q : Unit → Shared → Prop} (I : Inv X pins σ H s) (hx : X.ex = []) (hst : X.stack = X.env :: X.outer) (hfr : X.env.frame = some X.env.locals) (xa : XA X pins H s x C)
    (h : ∀ h' T, Inv X pins σ H { s with heap := h' } → XOk X pins H x → XOk X pins H T → Trc h' x C T → Q () { s with heap := h' }) : wpAny (model X.prog X.w) X.A (leaving X.env (.ref x)) Q E s := by
  obtain ⟨x1, x2⟩ := xa
  have frm : X.A.frames = some (X.env :: X.outer) := by rw [← hst]; exact I.ok.frames
  rcases x2 with ⟨oe, vs, a0, he, hc, hd, h0, h1⟩ | ⟨T, xT, oe, vs, a0, oT, ts, he, hc, h0, hd, h1, hTe, hT, hdT, h3⟩
  · have hch : ∀ b ∈ [x], XOk X pins H b := fun b hb => by
      have e : b = x := by simpa using hb
      rw [e]
      exact x1
    refine wpAny_leaving_firstW (base := hidX X s.heap [x]) frm (hst ▸ I.hidF [x]) hfr he (hid_in _ _) (hid_none (by simp)) hd h1 h0 fun h' L => ?_
    obtain ⟨k1, _, k3, k4⟩ := L
    obtain ⟨I', T, xT, tr⟩ := I.left hx hch k1 k3 k4
    rw [hc] at tr
    exact h h' T I' x1 xT tr
  · have hch : ∀ b ∈ [x, T], XOk X pins H b := fun b hb => by
      rcases List.mem_cons.mp hb with e | hb
      · rw [e]
        exact x1
      · have e : b = T := by simpa using hb
        rw [e]
        exact xT
    refine wpAny_leaving_nextW (base := hidX X s.heap [x, T]) frm (hst ▸ I.hidF [x, T]) hfr ⟨oe, vs, T, oT, ts, he, ⟨hc, h0⟩, hd, h1, hid_none (by simp), hTe, hT, hdT, h3⟩ (hid_in _ _) (hid_none (by simp)) fun h' L => ?_
    obtain ⟨k1, _, k3, k4⟩ := L
    obtain ⟨I', T', xT', tr⟩ := I.left hx hch k1 k3 k4
    exact h h' T' I' x1 xT' tr
end

/-- what is wanted of exceptions: W of the class, the names' values and the heap -/
abbrev WK := Value → St → Hp → Prop
def Wsh (X : Cx) (W : WK) : Prop := ∀ (pins : List (Addr × Obj)) (σ : St) (H : Hp) (s : Shared) (x : Addr) (C : Value), Inv X pins σ H s → XA X pins H s x C → W C σ H → X.xe (.ref x) s
/-- of a def's body: its own wish -/
theorem wsh_cx {P : Program} {w : World} {K : PySem.W.Frag} {mg : Str → Option Value} {base : Heap} {N : List Str} {qual : Str} {scope : Scope} {f : Addr} {cd : Value} {A : Around} {outer : List Env} {s₀ : Shared} {H₀ : Hp} {E : XK} :
    Wsh (cxOf (CXr P w) P w K mg base N qual scope f cd A outer s₀ H₀ E) (fun C _ H => E C none H) := fun pins σ H s x C I xa hE => by
  show wpAny (model P w) (A.deeper (envOfC qual scope s₀.heap.objs.size f cd)) (leaving (envOfC qual scope s₀.heap.objs.size f cd) (.ref x)) _ _ s
  refine Inv.leave I rfl rfl rfl xa fun h' T I' x1 xT tr => ?_
  exact ⟨x, C, T, H, rfl, I'.os, I'.bare, I'.base, I'.hok, x1.old, xT.old, x1.trk, xT.trk, tr, hE⟩
theorem pass0r {P : Program} {w : World} {X : Cx} : Passes (CXr P w) X E0 := fun _ _ _ _ _ _ _ ⟨_, _, _, _, _, _, _, _, _, _, _, _, _, _, z⟩ => z.elim

section
variable {X : Cx} {k : Nat} {f C : Addr} {fd : FuncData} {ps : List Str} {sp : Sp} {dvs : List V} {ds : List Value} {W : WK} {x m : Str} {p pos apos : Pos} {e o : Expr} {es : List Expr} {ta : TE} {t : TA}
/-- a callee's exception, from here -/
theorem Wsh.of {pins : List (Addr × Obj)} {σ : St} {H : Hp} {s s' : Shared} {v : Value} (ws : Wsh X W) (hx : X.ex = []) (I : Inv X pins σ H s) (h : CXr X.prog X.w X.stack H s (fun C _ H' => W C σ H') v s') : X.xe v s' := by
  obtain ⟨x, C, T, H', rfl, os, bare, un, hok, nx, nT, tx, tT, tr, q⟩ := h
  have I' : Inv X pins σ H' s' := I.call' os un hok bare fun b z => absurd z (by simp)
  exact ws pins σ H' s' x C I' ⟨I.xok hx nx tx, .inr ⟨T, I.xok hx nT tT, tr⟩⟩ q
theorem run_fnX {pins : List (Addr × Obj)} {σ : St} {H : Hp} {s : Shared} {Q : VK} {us : List Value} {vs : List V} (F : FnOk X.prog X.w X.K X.mg X.base (CXr X.prog X.w) k f fd ps sp) (hr : Room k X.A) (hb : Binds X.K fd ps ds) (hd : Vals dvs ds) (ws : Wsh X W) (hx : X.ex = [])
    (I : Inv X pins σ H s) (r : Vals vs us) (h : sp (vs ++ dvs) H Q (fun C _ H' => W C σ H')) : wpAny (model X.prog X.w) X.A (call (.ref f) us) (EP X pins σ Q) X.xe s := by
  have r2 : Vals (vs ++ dvs) (us ++ ds) := r.append hd
  have hl : (us ++ ds).length = ps.length := by rw [← r2.length]; exact F.len _ _ _ _ h
  refine wpAny_call (codeAny_mono (F.run X.A X.stack s H ⟨us, []⟩ (us ++ ds) (vs ++ dvs) Q _ hr I.env0 (hb s us I.kIn hl) r2 h) fun r s' hq => ?_)
  cases r with
  | error e => exact ws.of hx I hq
  | ok fl =>
    cases fl with
    | ret u => exact I.after hq
    | next => exact False.elim hq
    | brk => exact False.elim hq
    | cont => exact False.elim hq
def tCallX (sp : Sp) (dvs : List V) (W : WK) (t : TA) : TE := fun σ H Q => t σ H fun vs H1 => sp (vs ++ dvs) H1 Q fun C _ H' => W C σ H'
theorem pe_callX (F : FnOk X.prog X.w X.K X.mg X.base (CXr X.prog X.w) k f fd ps sp) (hr : Room k X.A) (hg : Gl X x) (hm : X.mg x = some (.ref f)) (hk : PySem.W.keepIn X.K (.ref f) = true) (hb : Binds X.K fd ps ds) (hd : Vals dvs ds) (ws : Wsh X W) (hx : X.ex = [])
    (ha : PA X (e :: es) t) (hdb : (x == ("__debug__" : Str)) = false := by decide) (he : starEach (e :: es) X.env = (false, eval e X.env) :: starEach es X.env := by rfl) (hpl : (backTo pos (starEach es X.env)).any (·.1) = false := by rfl) :
    PE X (.Call (.Name x p) (e :: es) [] pos) (tCallX sp dvs W t) := by
  intro pins s σ H Q I h
  refine wpAny_Call_Name_kw (ld_glob I hg hm ?_ hdb)
  refine PySem.W.callWith_K (h₀ := X.base) I.ok.mod.kin hk (thn (ha pos pins s σ H _ I h) fun us s1 ⟨vs, H1, I1, r, q⟩ => ⟨I1.kIn, ?_⟩) he hpl
  exact run_fnX F hr hb hd ws hx I1 r q
end
end L2

namespace L2
open PySem PySem.Spec PyProof.Rows
/-! ## exceptions, second part: raise, try, what was caught -/
structure CalX (P : Program) (w : World) (K : PySem.W.Frag) (mg : Str → Option Value) (base : Heap) (k : Nat) (x : Str) (ps : List Str) (sp : Sp) (f : Addr) (fd : FuncData) : Prop where
  ok : FnOk P w K mg base (CXr P w) k f fd ps sp
  bn : Binds K fd ps []
  mg : mg x = some (.ref f)
  kp : PySem.W.keepIn K (.ref f) = true
theorem Fun.okX {P : Program} {w : World} {K : PySem.W.Frag} {mg : Str → Option Value} {base : Heap} {x qual : Str} {st : Stmt} {f : Addr} {fd : FuncData} {N ps : List Str} {k : Nat} {sp : Sp} (F : Fun K x qual st f fd) (S : FnScope N ps (defScope st)) (len : ∀ vs H Q E, sp vs H Q E → vs.length = ps.length)
    (hbody : ∀ (cdv : Value) (A : Around) (outer : List Env) (s : Shared) (H : Hp) (vs : List V) (Q : VK) (E : XK), Room k (A.deeper (envOfC qual (defScope st) s.heap.objs.size f cdv)) → sp vs H Q E →
      ∃ t, PSs (cxOf (CXr P w) P w K mg base N qual (defScope st) f cdv A outer s H E) (defBody st) t ∧ t { nx := fun _ H' => Q .non H', rt := Q } (start N vs) H) : FnOk P w K mg base (CXr P w) (k + 1) f fd ps sp := by
  obtain ⟨oc, od, kV, doc, pm, an, cdv, ct, osl, rfl, lk, hcd⟩ := F.ex
  exact fn_of lk hcd S len fun A outer s H vs Q E hr hsp => hbody cdv A outer s H vs Q E hr hsp
/-- what an own error class under ValueError shows -/
abbrev veM : List Value := [.type "ValueError", .type "Exception", .type "BaseException", .type "object"]
abbrev ExC (K : PySem.W.Frag) (C : Addr) : Prop := PySem.W.excIn K C veM "ValueError.__new__" = true
theorem exc_obj {K : PySem.W.Frag} {C : Addr} {h : Heap} (e : ExC K C) (X : K.In h) : ∃ bm N nm qn bs hdct sn sub ab col dd k0 k1 k2 k3 k5 mN, h.get? C = some (excClassObj nm qn C N bs bm hdct sn sub ab col dd k0 k1 k2 k3 k5 "ValueError.__new__") ∧ h.Ns N mN ∧ mN "__init__" = none ∧ OwnTail h veM bm ∧ ∀ B b, PySem.W.mroIn K C B = some b → (Value.ref C :: bm).contains B = b := by
  have z := e
  unfold ExC PySem.W.excIn at z
  split at z
  · rename_i ddx cdx slx hobj
    split at z
    · rename_i Cx bmx y0 y1 y2 y3 nx y5 hmro hslots
      have zz := z
      simp only [Bool.and_eq_true, beq_iff_eq, Bool.not_eq_true'] at zz
      obtain ⟨⟨⟨⟨⟨eC, eN⟩, edel⟩, etail⟩, ens⟩, einit⟩ := zz
      subst eC
      subst eN
      obtain ⟨l⟩ := slx
      have hl : l = [y0, y1, y2, y3, some (.builtin "ValueError.__new__"), y5] := hslots
      subst hl
      obtain ⟨nm, bs, mro, ns, qn, hd, sn, sub, ab, col, del⟩ := cdx
      have hmro' : mro = .ref Cx :: bmx := hmro
      have hdel' : del = false := edel
      subst hmro' hdel'
      refine ⟨bmx, ns, nm, qn, bs, hd, sn, sub, ab, col, ddx, y0, y1, y2, y3, y5, _, X _ _ hobj, .of_isNs (PySem.W.isNs_of_in X ens), PySem.W.nsMap_none_of_in X ens einit, PySem.W.tail_of_in X etail, fun B b hB => ?_⟩
      unfold PySem.W.mroIn PySem.W.clsIn at hB
      rw [hobj] at hB
      simpa using hB
    · cases z
  · cases z
/-- raise C(..) -/
def tRaise (C : Addr) (W : WK) (t : TA) : TS := fun _ σ H => t σ H fun vs H1 => vs.length ≤ sizeLine ∧ W (.ref C) σ H1
theorem ps_raiseX {X : Cx} {x : Str} {C : Addr} {e : Expr} {es : List Expr} {t : TA} {W : WK} {np cpos pos : Pos} (ec : ExC X.K C) (hm : X.mg x = some (.ref C)) (hg : Gl X x) (ws : Wsh X W) (hx : X.ex = []) (hc : X.calm = true) (ha : PA X (e :: es) t)
    (he : starEach (e :: es) X.env = (false, eval e X.env) :: starEach es X.env := by rfl) (hpl : (backTo cpos (starEach es X.env)).any (·.1) = false := by rfl) (hdb : (x == ("__debug__" : Str)) = false := by decide) :
    PS X (.Raise (some (.Call (.Name x np) (e :: es) [] cpos)) none pos) (tRaise C W t) := by
  intro pins s σ H D I h
  obtain ⟨tl, N, nm, qn, bs, hdct, sn, sub, ab, col, dd, k0, k1, k2, k3, k5, mN, hC, hN, hni, T, _⟩ := exc_obj ec I.ok.mod.kin
  have hpl2 : (backTo cpos (starEach (e :: es) X.env)).any (·.1) = false := by
    rw [he]
    show (false || (backTo cpos (starEach es X.env)).any (·.1)) = false
    rw [hpl]; rfl
  refine wpAny_Raise_call_subT (C := C) (nm := nm) (q := qn) (N := N) (bs := bs) (bm := tl) (hdct := hdct) (sn := sn) (sub := sub) (ab := ab) (col := col) (dd := dd) (k0 := k0) (k1 := k1) (k2 := k2) (k3 := k3) (k5 := k5) PySem.F.excBase_ValueError (mN := mN) (T.hasType PySem.F.excBase_ValueError.hasBase) (I.ok.hd hc) hpl2 hni (ld_glob I hg hm ⟨rfl, ?_⟩ hdb)
  have z := ha cpos pins s σ H _ I h
  rw [he] at z ⊢
  refine Calls.evalArgs_plain (wpAny_mono z (fun us s2 zz => ?_) fun _ _ y => y)
  obtain ⟨vs, H1, I2, r, hz, q⟩ := zz
  refine ⟨rfl, by rw [← r.length]; exact hz, I2.bk _ _ hC, hN.keeps I2.bk, T.keeps I2.bk, fun h' e' hme => ?_⟩
  obtain ⟨t0, ht0, _, _⟩ := hme.there
  have I3 : Inv X pins σ H1 { s2 with heap := h' } := I2.kept (t' := s2.toks) hme.keeps
  exact ws pins σ H1 _ e' (.ref C) I3 ⟨I2.xok hx hme.new (I2.hok.none_of hme.new), .inl ⟨_, _, _, ht0, rfl, rfl, rfl, rfl⟩⟩ q
/-- an error that was caught -/
def excO (x C : Addr) : HO := .ext fun h => ∃ o, h.get? x = some o ∧ o.cls = .ref C
section
variable {X : Cx} {pins : List (Addr × Obj)} {σ : St} {H : Hp} {s : Shared} {x : Addr} {C : Value}
/-- the context in an except suite -/
def Cx.marked (X : Cx) (v : Value) : Cx := { X with A := X.A.mark (some v), calm := false, xe := fun _ _ => False }
theorem Inv.marked (I : Inv X pins σ H s) (v : Value) : Inv (X.marked v) pins σ H s :=
  ⟨⟨I.ok.mod, I.ok.kind, I.ok.glob, I.ok.blt, I.ok.above, I.ok.inj, I.ok.has, I.ok.cab, fun z => (by cases z), I.ok.frames, I.ok.stk, I.ok.exf, I.ok.bs, I.ok.bsz, I.ok.noex, I.ok.exfs, I.ok.funs, I.ok.frf⟩, I.os, I.bare, I.base, I.loc, I.cell, I.free, I.freeC, I.pin, I.hok, I.len⟩
theorem Inv.unmarked {hd : X.calm = true → X.A.handled = none} {fr : X.A.frames = some X.stack} {v : Value} (I : Inv (X.marked v) pins σ H s) : Inv X pins σ H s :=
  ⟨⟨I.ok.mod, I.ok.kind, I.ok.glob, I.ok.blt, I.ok.above, I.ok.inj, I.ok.has, I.ok.cab, hd, fr, I.ok.stk, I.ok.exf, I.ok.bs, I.ok.bsz, I.ok.noex, I.ok.exfs, I.ok.funs, I.ok.frf⟩, I.os, I.bare, I.base, I.loc, I.cell, I.free, I.freeC, I.pin, I.hok, I.len⟩
/-- a name of the frame is gone -/
theorem Inv.gone {i : Nat} {n : Str} {h' : Heap} {tk : Nat} {m : Str → Option Value} {v : Option Value} (I : Inv X pins σ H s) (hN : X.N.Nodup) (hi : X.N[i]? = some n) (hm : s.heap.Ns X.env.locals m ∧ ∀ (i : Nat) (x : Str) (v : V), X.N[i]? = some x → σ[i]? = some (some v) → Vis X.env.scope x → ∃ u, RelV v u ∧ Look X.env s.heap m x u)
    (hn : h'.Ns X.env.locals (fun y => if y = n then v else m y)) (hs : Heap.SameBut X.env.locals s.heap h') : Inv X pins (σ.set i none) H { s with heap := h', toks := tk } := by
  have lo : ∀ b o, X.s₀.heap.get? b = some o → b ≠ X.env.locals := fun b o e => Nat.ne_of_lt (Nat.lt_of_lt_of_le (Heap.lt_size e) I.ok.above)
  obtain ⟨oL, _, _, hoL, _⟩ := id hm.1
  refine ⟨I.ok, I.os, I.bare, ⟨fun b o e n1 hb hx => (hs.2 b (lo b o e)).trans (I.base.keep b o e n1 hb hx), fun b o e n1 hb hx => ?_, I.base.free, fun b o e hx => ?_, I.base.tups, I.base.frzs, I.base.tbls⟩, ⟨_, hn, fun j y w' e1 e2 e3 => ?_⟩, fun y c e => ?_, I.free, I.freeC, fun p hp => ?_, fun b u e => ?_, by simpa using I.len⟩
  · obtain ⟨sl, q⟩ := I.base.slot b o e n1 hb hx
    exact ⟨sl, (hs.2 b (lo b o e)).trans q⟩
  · obtain ⟨o', q⟩ := I.base.there b o e hx
    exact ⟨o', (hs.2 b (lo b o e)).trans q⟩
  · by_cases hj : j = i
    · subst hj
      rw [List.getElem?_set] at e2
      split at e2
      · split at e2 <;> cases e2
      · rename_i z; exact absurd rfl z
    · rw [List.getElem?_set_ne (Ne.symm hj)] at e2
      obtain ⟨u', r', l'⟩ := hm.2 j y w' e1 e2 e3
      refine ⟨u', r', ?_⟩
      rcases l' with ⟨kk, e⟩ | ⟨kk, c, e, z⟩
      · refine .inl ⟨kk, ?_⟩
        have ny : y ≠ n := fun q => hj (nodup_ix hN e1 (q ▸ hi))
        show (if y = n then v else m y) = some u'
        rw [if_neg ny]; exact e
      · exact .inr ⟨kk, c, e, z.sameBut hs (I.cne y c e)⟩
  · obtain ⟨w2, z⟩ := I.cell y c e
    exact ⟨w2, z.sameBut hs (I.cne y c e)⟩
  · obtain ⟨e, n1, ne, nf, d⟩ := I.pin p hp
    exact ⟨(hs.2 p.1 ne).trans e, n1, ne, nf, d⟩
  · refine (I.hok b u e).stay (fun c v2 hc q => (hs.2 c fun z => ?_).trans q) (fun _ q => q) fun _ _ q => q
    have fr := I.free
    rcases hc with y | y
    · rw [← y, z, fr] at e; cases e
    · rw [z, fr] at y; cases y
end
section
variable {M : Model} {A : Around} {E : Value → Shared → Prop} {h : Heap} {g : Array GenState} {d : Drawn} {t : Nat} {os : OsState}
theorem exc_up {C D : Addr} {nm qn nm2 qn2 : Str} {N N2 : Addr} {bs bm bs2 bm2 : List Value} {hdct hdct2 : Bool} {sn sn2 : List Str} {sub sub2 : List Value} {ab ab2 : Bool} {col col2 : Option Bool} {dd dd2 : Option Addr} {k0 k1 k2 k3 k5 j0 j1 j2 j3 j5 : Option Value} {id1 id2 : String} {x : Addr} {ob : Obj} {Q : Bool → Shared → Prop}
    (hC : h.get? C = some (excClassObj nm qn C N bs bm hdct sn sub ab col dd k0 k1 k2 k3 k5 id1)) (hD : h.get? D = some (excClassObj nm2 qn2 D N2 bs2 bm2 hdct2 sn2 sub2 ab2 col2 dd2 j0 j1 j2 j3 j5 id2)) (hob : h.get? x = some ob) (hcl : ob.cls = .ref C)
    (hDB : (Value.ref D :: bm2).contains (.type "BaseException") = true) (hCD : (Value.ref C :: bm).contains (.ref D) = true) (hq : Q true ⟨h, g, d, t, os⟩) : wpAny M A (excMatches (.ref x) (.ref D)) Q E ⟨h, g, d, t, os⟩ := by
  have ntup := tc_notTuple
  unfold excMatches
  repeat (first | (with_reducible refine wpAny_loadPart_at hob ?_; rw [hcl]) | with_reducible refine wpAny_loadPart_at hD ?_ | (with_reducible refine wpAny_isSubtype_exc hD ?_; rw [hDB]) | (with_reducible refine wpAny_isSubtype_exc hC ?_; rw [hCD]) | wp_step)
  exact hq
end
/-- the context in the body of a try -/
def Cx.tried (X : Cx) (pins : List (Addr × Obj)) (E : Value → Shared → Prop) : Cx := { X with pn := X.pn ++ pins, xe := E }
section
variable {X : Cx} {pins pins' : List (Addr × Obj)} {σ : St} {H : Hp} {s : Shared} {E : Value → Shared → Prop} {b : Addr}
theorem Inv.tried (I : Inv X pins σ H s) : Inv (X.tried pins E) [] σ H s :=
  ⟨⟨I.ok.mod, I.ok.kind, I.ok.glob, I.ok.blt, I.ok.above, I.ok.inj, I.ok.has, I.ok.cab, I.ok.hd, I.ok.frames, I.ok.stk, I.ok.exf, I.ok.bs, I.ok.bsz, I.ok.noex, I.ok.exfs, I.ok.funs, I.ok.frf⟩, I.os, I.bare, I.base, I.loc, I.cell, I.free, I.freeC, fun p hp => I.pin p (by rw [List.append_nil] at hp; exact hp), I.hok, I.len⟩
theorem Inv.untried (I : Inv (X.tried pins E) pins' σ H s) : Inv X pins σ H s :=
  ⟨⟨I.ok.mod, I.ok.kind, I.ok.glob, I.ok.blt, I.ok.above, I.ok.inj, I.ok.has, I.ok.cab, I.ok.hd, I.ok.frames, I.ok.stk, I.ok.exf, I.ok.bs, I.ok.bsz, I.ok.noex, I.ok.exfs, I.ok.funs, I.ok.frf⟩, I.os, I.bare, I.base, I.loc, I.cell, I.free, I.freeC, fun p hp => I.pin p (List.mem_append_left _ hp), I.hok, I.len⟩
theorem XOk.untried (x : XOk (X.tried pins E) pins' H b) : XOk X pins H b := ⟨x.old, x.trk, x.nl, x.nc, fun p hp => x.np p (List.mem_append_left _ hp)⟩
theorem SP.untried {D : Ends} {f : Flow} (h : SP (X.tried pins E) [] D f s) : SP X pins D f s := by
  cases f with
  | next => obtain ⟨σ', H', I, q⟩ := h; exact ⟨σ', H', I.untried, q⟩
  | brk => obtain ⟨σ', H', I, q⟩ := h; exact ⟨σ', H', I.untried, q⟩
  | cont => obtain ⟨σ', H', I, q⟩ := h; exact ⟨σ', H', I.untried, q⟩
  | ret u => obtain ⟨v, σ', H', I, r, q⟩ := h; exact ⟨v, σ', H', I.untried, r, q⟩
end
/-- what is wanted of the exceptions of callees -/
def WshT (X : Cx) (W : WK) : Prop := ∀ (pins : List (Addr × Obj)) (σ : St) (H : Hp) (s : Shared) (x T : Addr) (C : Value), Inv X pins σ H s → XOk X pins H x → XOk X pins H T → Trc s.heap x C T → W C σ H → X.xe (.ref x) s
section
variable {X : Cx} {k : Nat} {f : Addr} {fd : FuncData} {ps : List Str} {sp : Sp} {dvs : List V} {ds : List Value} {W : WK} {x : Str} {p pos : Pos} {e : Expr} {es : List Expr} {t : TA}
theorem pe_callT (F : FnOk X.prog X.w X.K X.mg X.base (CXr X.prog X.w) k f fd ps sp) (hr : Room k X.A) (hg : Gl X x) (hm : X.mg x = some (.ref f)) (hk : PySem.W.keepIn X.K (.ref f) = true) (hb : Binds X.K fd ps ds) (hd : Vals dvs ds) (ws : WshT X W) (hx : X.ex = [])
    (ha : PA X (e :: es) t) (hdb : (x == ("__debug__" : Str)) = false := by decide) (he : starEach (e :: es) X.env = (false, eval e X.env) :: starEach es X.env := by rfl) (hpl : (backTo pos (starEach es X.env)).any (·.1) = false := by rfl) :
    PE X (.Call (.Name x p) (e :: es) [] pos) (tCallX sp dvs W t) := by
  intro pins s σ H Q I h
  refine wpAny_Call_Name_kw (ld_glob I hg hm ?_ hdb)
  refine PySem.W.callWith_K (h₀ := X.base) I.ok.mod.kin hk (thn (ha pos pins s σ H _ I h) fun us s1 ⟨vs, H1, I1, r, q⟩ => ⟨I1.kIn, ?_⟩) he hpl
  have r2 : Vals (vs ++ dvs) (us ++ ds) := r.append hd
  have hl : (us ++ ds).length = ps.length := by rw [← r2.length]; exact F.len _ _ _ _ q
  refine wpAny_call (codeAny_mono (F.run X.A X.stack s1 H1 ⟨us, []⟩ (us ++ ds) (vs ++ dvs) Q _ hr I1.env0 (hb s1 us I1.kIn hl) r2 q) fun r s' hq => ?_)
  cases r with
  | error e =>
    obtain ⟨x, C, T, H', rfl, os, bare, un, hok, nx, nT, tx, tT, tr, q'⟩ := hq
    have I' : Inv X pins σ H' s' := I1.call' os un hok bare fun b z => absurd z (by simp)
    exact ws pins σ H' s' x T C I' (I1.xok hx nx tx) (I1.xok hx nT tT) tr q'
  | ok fl =>
    cases fl with
    | ret u => exact I1.after hq
    | next => exact False.elim hq
    | brk => exact False.elim hq
    | cont => exact False.elim hq
end
/-- a try whose body may raise, with one clause «except D as e» -/
def tTryAs (ie : Nat) (Cs : Addr → Prop) (tb : WK → TS) (ts : TS) : TS := fun Ds σ H => tb (fun C σ1 H1 => ∃ c, C = .ref c ∧ Cs c ∧ ∀ x, H1 x = none → ts { nx := fun σ2 H2 => Ds.nx (σ2.set ie none) H2, rt := fun _ _ => False } (σ1.set ie (some (.ref x))) (upd H1 x (excO x c))) Ds σ H
theorem ps_tryAs {X : Cx} {body : List Stmt} {b0 : Stmt} {suite : List Stmt} {dn en : Str} {np hpos pos : Pos} {D : Addr} {ie : Nat} {Cs : Addr → Prop} {tb : WK → TS} {ts : TS} (hx : X.ex = []) (hst : X.stack = X.env :: X.outer) (hfr : X.env.frame = some X.env.locals) (hN : X.N.Nodup) (hi : X.N[ie]? = some en) (hl : X.env.kindOf en = some .local)
    (hgD : Gl X dn) (hmD : X.mg dn = some (.ref D)) (eD : ExC X.K D) (hCs : ∀ c, Cs c → ExC X.K c ∧ PySem.W.mroIn X.K c (.ref D) = some true)
    (hb : ∀ pins XE W, WshT (X.tried pins XE) W → PSs (X.tried pins XE) body (tb W)) (hs : ∀ v, PSs (X.marked v) (b0 :: suite) ts) (hdb : (dn == ("__debug__" : Str)) = false := by decide) :
    PS X (.Try body [.ExceptHandler (some (.Name dn np)) (some en) (b0 :: suite) hpos] [] [] pos) (tTryAs ie Cs tb ts) := by
  intro pins s σ H Ds I h
  refine wpAny_Try_except ?_
  refine wpAny_mono (hb pins (fun e s₁ => wpAny (model X.prog X.w) X.A (noteFrame e X.env) (fun _ s₂ => wpAny (model X.prog X.w) X.A (setFlight e none) (fun _ s₃ => wpAny (model X.prog X.w) X.A (handleBy e X.env [.ExceptHandler (some (.Name dn np)) (some en) (b0 :: suite) hpos]) (SP X pins Ds) X.xe s₃) X.xe s₂) X.xe s₁) _ ?_ [] s σ H Ds I.tried h) (fun f s1 q => ?_) fun _ _ z => z
  · intro pins' σ1 H1 s1 x T C I1 xx xT tr hw
    obtain ⟨c, rfl, hc, hts⟩ := hw
    have I2 : Inv X pins σ1 H1 s1 := I1.untried
    have x2 : XOk X pins H1 x := xx.untried
    have T2 : XOk X pins H1 T := xT.untried
    have frm : X.A.frames = some (X.env :: X.outer) := by rw [← hst]; exact I2.ok.frames
    have fly : ∀ {h : Heap} {T : Addr}, Inv X pins σ1 H1 { s1 with heap := h } → Trc h x (.ref c) T → ∃ a0, Heap.FlyingW (hidX X h [x, T]) (X.env :: X.outer) x (.ref c) a0 h := fun {h T} J tr => by
      obtain ⟨oe, vs, a0, oT, ts, he, hcl, h0, hd, h1, hTe, hT, hdT, h3⟩ := tr
      exact ⟨a0, hid_in _ _, hid_none (by simp), hst ▸ J.hidF [x, T], ⟨oe, vs, T, oT, ts, he, ⟨hcl, h0⟩, hd, h1, hid_none (by simp), hTe, hT, hdT, h3⟩⟩
    have two : ∀ {T : Addr}, XOk X pins H1 T → ∀ b ∈ [x, T], XOk X pins H1 b := fun {T} hT b hb => by
      rcases List.mem_cons.mp hb with e | hb
      · rw [e]; exact x2
      · have e : b = T := by simpa using hb
        rw [e]; exact hT
    obtain ⟨a0, fl⟩ := fly (h := s1.heap) I2 tr
    refine wpAny_looks_onW frm hfr fl fun h4 held4 up4 => ?_
    refine wpAny_landsW held4 fun h5 fl5 up5 => ?_
    obtain ⟨I5, T5, xT5, tr5⟩ := I2.left hx (two T2) fl5.1 fl5.2.2.2 (up4.trans up5)
    refine wpAny_handleBy_cons (codeAny_handlers_test (Calls.Name_function_global I5.ok.kind hgD (Calls.loadGlobal_global (by rw [I5.ok.glob]; exact I5.mod.glob.keeps I5.bk) hmD ?_) hdb)) (by intro q; cases q)
    obtain ⟨e1, e2⟩ := hCs c hc
    obtain ⟨_, _, _, _, _, _, _, _, _, _, _, _, _, _, _, _, _, hC, _, _, _, mC⟩ := exc_obj e1 I5.kIn
    obtain ⟨_, _, _, _, _, _, _, _, _, _, _, _, _, _, _, _, _, hD, _, _, TD, _⟩ := exc_obj eD I5.kIn
    have hDB := TD.hasType (X := "BaseException") (b := true) rfl
    obtain ⟨ob, _, _, _, _, hob, hcl, _⟩ := id tr5
    refine exc_up hC hD hob hcl (by rw [List.contains_cons, hDB, Bool.or_true]) (mC _ _ e2) ?_
    refine codeAny_handlers_suite_as ?_
    obtain ⟨a5, fl5'⟩ := fly I5 tr5
    refine lands_againW (s := { s1 with heap := h5 }) fl5' fun h6 fl6 up6 => ?_
    obtain ⟨I6, T6, xT6, tr6⟩ := I5.left hx (two xT5) fl6.1 fl6.2.2.2 up6
    obtain ⟨oe, _, _, _, _, he, hcl6, _⟩ := id tr6
    have I7 := I6.xtrack (o := excO x c) x2 ⟨⟨oe, he, hcl6⟩, ⟨oe, he⟩, fun h1 h2 ⟨o, z1, z2⟩ kk => ⟨o, kk o z1, z2⟩⟩
    refine store_ok I7 hN hi (.inl hl) (v := .ref x) rfl (fun s8 I8 => ?_) (.inr hl)
    refine wpAny_mono (hs (.ref x) pins s8 _ _ _ (I8.marked _) (hts x x2.trk)) (fun f s9 q9 => ?_) fun _ _ z => z.elim
    cases f with
    | next =>
      obtain ⟨σ9, H9, I9, q9⟩ := q9
      have I9' : Inv X pins σ9 H9 s9 := Inv.unmarked (hd := I2.ok.hd) (fr := I2.ok.frames) I9
      obtain ⟨m, hm⟩ := I9'.loc
      refine wpAny_nameGoes_keeps hl hm.1 (by rw [I9'.ok.kind]; rfl) fun h' v hn hss => ?_
      exact ⟨_, _, I9'.gone hN hi hm hn hss, q9⟩
    | brk => obtain ⟨_, _, _, z⟩ := q9; exact z.elim
    | cont => obtain ⟨_, _, _, z⟩ := q9; exact z.elim
    | ret u => obtain ⟨_, _, _, _, _, z⟩ := q9; exact z.elim
  · have q' := SP.untried q
    cases f with
    | next => exact wpAny_execs_nil q'
    | brk => exact q'
    | cont => exact q'
    | ret u => exact q'
/-! ### isinstance of what was caught, of its very class -/
theorem isi_exact {K : PySem.W.Frag} {x c : Value} {Hh : Heap → Prop} (ty : ∀ (M : Model) (h : Heap), Hh h → PySem.W.Looks M h (typeOf x) c) : Answers (fun s => Hh s.heap) x c true := by
  intro dep tk prog w A R s hs
  obtain ⟨h0, g, d, tt, os⟩ := s
  obtain ⟨p, hq⟩ := hs
  have LT := ty (model prog w) h0 p
  unfold Builtin.«isinstance.nested»
  refine wpAny_bind (LT.at ?_)
  rw [if_pos (by simp)]
  first
    | exact wpAny_bind (wpAny_rule (hq tt))
    | exact wpAny_bind (wpAny_rule (wpAny_pure (hq tt)))
    | ((repeat lk); exact hq tt)
end L2
namespace L2
open PySem PySem.Spec PyProof.Rows
theorem call_isiX {X : Cx} : CallR X (.builtin "isinstance") (fun xs H Q => ∃ x c, xs = [.ref x, .ref c] ∧ H x = some (excO x c) ∧ Q (.bl true) H) := by
  intro pins s σ H xs us Q I r h
  obtain ⟨x, c, rfl, hx, q⟩ := h
  obtain ⟨v1, v2, rfl, r1, r2⟩ := vals2 r
  cases r1
  cases r2
  obtain ⟨⟨o, e, hc⟩, _, _⟩ := (show ObjOk X.prog X.w H s.heap x (excO x c) from I.hok x _ hx)
  have an := isi_exact (K := X.K) (x := .ref x) (c := .ref c) (Hh := fun h => ∃ o, h.get? x = some o ∧ o.cls = .ref c) fun M h ⟨o, z1, z2⟩ => z2 ▸ (PySem.W.Looks.ld z1).andThen .now
  exact call_isinstance (S := fun _ R s => (∃ o, s.heap.get? x = some o ∧ o.cls = .ref c) ∧ ∀ tk, R (.ok (.ret (.bool true))) { s with toks := tk }) (fun prog w A R s hs => isinstance_outer (an 0 _ prog w A R s hs) (by intro z; cases z)) ⟨⟨o, e, hc⟩, fun tk => ⟨.bl true, H, I.tok tk, rfl, q⟩⟩
end L2

namespace L2
open PySem PySem.Spec PyProof.Rows
section
variable {prog : Program} {w : World} {A : Around} {E : Value → Shared → Prop} {s : Shared}
end
end L2

namespace L2
open PySem PySem.Spec PyProof.Rows
section
variable {prog : Program} {w : World} {A : Around} {E : Value → Shared → Prop} {s : Shared}
end
section
variable {X : Cx}
/-- an object of ours that lies there untracked is tracked from here on -/
theorem Inv.track {pins : List (Addr × Obj)} {σ : St} {H : Hp} {s : Shared} {a : Addr} {o : HO} (I : Inv X pins σ H s) (f : FpOk X pins H a) (new : ObjOk X.prog X.w (upd H a o) s.heap a o) : Inv X pins σ (upd H a o) s := by
  obtain ⟨f0, f1, f2, f3, f4, f5⟩ := f
  have ne : ∀ b u, H b = some u → b ≠ a := fun b u e => ne_of_none e f0
  refine I.step (g' := s.gens) (t' := s.toks) (d' := s.drawn) (h' := s.heap) (ch := [a]) (fun b hb => ?_) (fun b o _ _ _ e _ => e) (fun b o _ _ _ e _ => ⟨o.slots, e⟩) (fun b o hc e n => ?_) (fun b o _ e => ⟨o, e⟩) (fun b xs e => by rw [upd_ne (ne b _ e)]; exact e) (fun b o u e => by rw [upd_ne (ne b _ e)]; exact e)
    (fun b ps e => ⟨#[], by rw [upd_ne (ne b _ e), e]; simp⟩) (fun m hm => hm) (fun b u e => ?_) I.bare
  · have eb : b = a := by simpa using hb
    rw [eb]
    exact ⟨f3, f1, f4, f5⟩
  · rw [upd_ne (fun z => hc (by simp [z]))]
    exact n
  · by_cases hb : b = a
    · rw [hb, upd_same] at e
      cases e
      rw [hb]
      exact new
    · rw [upd_ne hb] at e
      exact (I.hok b u e).stay (fun c v _ q => q) (fun c q => by rw [upd_ne (ne c _ q)]; exact q) fun c xs q => by rw [upd_ne (ne c _ q)]; exact q
end
end L2

namespace L2
open PySem PySem.Spec PyProof.Rows
section
variable {X : Cx}
end
end L2

namespace L2
open PySem PySem.Spec PyProof.Rows
/-! ### several records of ours turned -/
theorem Inv.turnedL {X : Cx} {pins : List (Addr × Obj)} {σ : St} {H : Hp} {s : Shared} {h' : Heap} {t' : Nat} {fp : List Addr} (I : Inv X pins σ H s) (k : ∀ b o, b ∉ fp → s.heap.get? b = some o → h'.get? b = some o) (hf : ∀ b ∈ fp, FpOk X pins H b) : Inv X pins σ H { s with heap := h', toks := t' } := by
  have nit : ∀ b u, H b = some u → b ∉ fp := fun b u e z => by rw [(hf b z).1] at e; cases e
  refine I.step (g' := s.gens) (d' := s.drawn) (ch := fp) (fun b hb => ?_) (fun b o _ _ hc e _ => k b o hc e) (fun b o _ _ hc e _ => ⟨o.slots, k b o hc e⟩) (fun _ _ _ _ n => n)
    (fun b o hc e => ⟨o, k b o hc e⟩) (fun _ _ e => e) (fun _ _ _ e => e) (fun b ps e => ⟨#[], by rw [e]; simp⟩) (fun m hm => ?_) (fun b u e => ?_) I.bare
  · obtain ⟨f0, f1, f2, f3, f4, f5⟩ := hf b hb
    exact ⟨f3, f1, f4, f5⟩
  · obtain ⟨o, es, ep, ho, r⟩ := hm
    exact ⟨o, es, ep, k _ o (fun z => (hf _ z).2.1 rfl) ho, r⟩
  · refine (I.hok b u e).stay (fun c v hc q => k c v ?_ q) (fun _ q => q) fun _ _ q => q
    rcases hc with z | z
    · rw [z]; exact nit b u e
    · exact nit c _ z
/-! ### enumerate(list), walked by a pair of names -/
def Ite (K : PySem.W.Frag) (a : Addr) : It :=
  ⟨fun i H => ∃ xs x, SqL K H a xs ∧ xs[i]? = some x, fun i H v H' => ∃ T x, H T = none ∧ v = .ref T ∧ H' = upd H T (.tup [.int (i : Int), x]) ∧ ∀ xs, SqL K H a xs → xs[i]? = some x, fun i H => ∃ xs, SqL K H a xs ∧ xs.length ≤ i⟩
theorem turn_enum {P : Program} {w : World} {K : PySem.W.Frag} {es : List Expr} {k : Nat} {pos : Pos} (a e it : Addr) (hei : e ≠ it) : Turn P w K (.Tuple es k pos) (Ite K a) [e, it] e (fun i h => (∃ old, IsEnum h e it ((i : Nat) : Int) old) ∧ h.IsListIter it a i) where
  mem := by simp
  obj := fun i h st b hb => by
    obtain ⟨⟨old, he⟩, o, e2, c, d⟩ := st
    rcases List.mem_cons.mp hb with rfl | hb
    · exact ⟨_, he, fun v z => by
        have z' : Data.fields _ = Data.cell v := z
        cases z'⟩
    · have e3 : b = it := by simpa using hb
      subst e3
      exact ⟨o, e2, fun v z => by rw [d] at z; cases z⟩
  keep := fun i h h' st kk => by
    obtain ⟨⟨old, he⟩, hit⟩ := st
    exact ⟨⟨old, kk e (by simp) _ he⟩, hit.at fun o q => kk it (by simp) o q⟩
  item := by
    intro X hP hw hK hc i pins s σ H E I hf st hg
    subst hP hw hK
    obtain ⟨xs, x, hq, hx⟩ := hg
    obtain ⟨its, rv, p, hz⟩ := I.list hq
    obtain ⟨u, hu, ru⟩ := rv.get hx
    obtain ⟨⟨old, he⟩, hit⟩ := st
    refine wpAny_pyNext_enum_item he hit p.isList (x := u) (by simpa using hu) hei fun h' ho hit' hT hsz hk => ?_
    refine ⟨_, rfl, ?_⟩
    refine wpAny_letOwnedTupleGo_enum ho fun h2 he2 hs2 => ?_
    have hs2' : Heap.SameBut e h' h2 := hs2
    have hel : e < s.heap.objs.size := Heap.lt_size he
    have hil : it < s.heap.objs.size := by obtain ⟨_, q, _⟩ := hit; exact Heap.lt_size q
    have hfr : H s.heap.objs.size = none := I.hok.fresh (Nat.le_refl _)
    have I0 : Inv X pins σ (upd H s.heap.objs.size (.tup [.int (i : Int), x])) { s with heap := s.heap.push { cls := .type "tuple", data := .seq #[.int (i : Int) s.toks, u] }, toks := s.toks + 1 } :=
      I.laid (t' := s.toks + 1) (fun b u e => Heap.get?_push_of_some _ e) (Nat.le_refl _) ⟨by show 2 ≤ sizeLine; decide, [.int (i : Int) s.toks, u], .cons ⟨_, rfl⟩ (.cons ru .nil), ⟨_, Heap.get?_push_size _ rfl, rfl, _, rfl⟩⟩
    have hfb : ∀ b ∈ [e, it], b < s.heap.objs.size := fun b hb => by
      rcases List.mem_cons.mp hb with rfl | hb
      · exact hel
      · have e3 : b = it := by simpa using hb
        rw [e3]; exact hil
    have hn : ∀ b ∈ [e, it], upd H s.heap.objs.size (.tup [.int (i : Int), x]) b = none := fun b hb => by
      rw [upd_ne (Nat.ne_of_lt (hfb b hb))]
      exact (hf b hb).1
    have I2 : Inv X pins σ (upd H s.heap.objs.size (.tup [.int (i : Int), x])) { s with heap := h2, toks := s.toks + 1 } := Inv.turnedL (s := { s with heap := s.heap.push { cls := .type "tuple", data := .seq #[.int (i : Int) s.toks, u] }, toks := s.toks + 1 }) (h' := h2) I0 (t' := s.toks + 1) (fp := [e, it]) (fun b o hb q => by
      have nb : b ≠ e := fun z => hb (by simp [z])
      have nb2 : b ≠ it := fun z => hb (by simp [z])
      refine (hs2'.2 b nb).trans ?_
      rcases Heap.get?_push_cases q with ⟨z1, z2⟩ | q
      · rw [z1, z2]; exact hT
      · exact hk b o nb nb2 q) fun b hb => ⟨hn b hb, (hf b hb).2⟩
    refine ⟨.ref s.heap.objs.size, _, I2, rfl, ⟨s.heap.objs.size, x, hfr, rfl, rfl, fun ys hy => by rw [I.list_inj hy hq]; exact hx⟩, ?_, hn⟩
    refine ⟨⟨u, ?_⟩, hit'.at fun o q => (hs2'.2 it (Ne.symm hei)).trans q⟩
    have e4 : (((i + 1 : Nat) : Nat) : Int) = (i : Int) + 1 := by omega
    rw [e4]
    exact he2
  done := by
    intro X hP hw hK hc i pins s σ H E I hf st hg
    subst hP hw hK
    obtain ⟨xs, hq, hx⟩ := hg
    obtain ⟨its, rv, p, hz⟩ := I.list hq
    obtain ⟨⟨old, he⟩, hit⟩ := st
    have hl := rv.length
    obtain ⟨f0, f1, f2, f3, f4, f5⟩ := hf it (by simp)
    exact wpAny_pyNext_enum_end (I.ok.hd hc) he hit p.isList (by simp; omega) fun h' eb => ⟨rfl, I.turned (t' := s.toks) (fun b o hb e => eb b o hb e) f0 f1 f3 f4 f5⟩
  self := fun _ _ _ _ _ st h => by
    obtain ⟨⟨old, he⟩, _⟩ := st
    exact wpAny_pyIter_enum he h
section
variable {X : Cx}
def iEnum (K : PySem.W.Frag) (ta : TA) : TI := fun σ H R => ta σ H fun vs H1 => ∃ a, vs = [.ref a] ∧ (∃ xs, SqL K H1 a xs) ∧ R (Ite K a) H1
theorem pi_enum {l : Expr} {ta : TA} {es : List Expr} {k : Nat} {tp p pos : Pos} (hg : Gl X "enumerate") (hm : X.mg "enumerate" = none) (ha : PA X [l] ta) (hs : starEach [l] X.env = [(false, eval l X.env)] := by rfl) :
    PI X (.Tuple es k tp) (.Call (.Name "enumerate" p) [l] [] pos) (iEnum X.K ta) := by
  intro pins s σ H R I h
  refine Call_ (ld_blt I hg hm bt_enumerate (PyProof.Rows.callWith_type1 (thn (ha pos pins s σ H _ I h) fun us s1 ⟨vs, H1, I1, r1, q1⟩ => ?_) hs rfl))
  obtain ⟨a, e, ⟨xs, hq⟩, q⟩ := q1
  subst e
  obtain ⟨u, rfl, ru⟩ := vals1 r1
  cases ru
  obtain ⟨its, rv, p, hz⟩ := I1.list hq
  refine call_enumerate_list p.isList fun h' he hit hsz hk => ?_
  refine wpAny_pyIter_enum he ?_
  refine ⟨s1.heap.objs.size + 1, [s1.heap.objs.size + 1, s1.heap.objs.size], _, _, H1, rfl, I1.kept (t' := s1.toks) hk, turn_enum a _ _ (Nat.succ_ne_self _), ⟨⟨_, he⟩, hit⟩, fun b hb => ?_, q⟩
  have hb' : s1.heap.objs.size ≤ b := by
    rcases List.mem_cons.mp hb with rfl | hb
    · exact Nat.le_succ _
    · have e3 : b = s1.heap.objs.size := by simpa using hb
      rw [e3]; exact Nat.le_refl _
  exact I1.fpOk hb' (I1.hok.fresh hb')
end
theorem for_enum {K : PySem.W.Frag} {a : Addr} {xs : List V} {g : TG} {tb : TS} {D : Ends} {σ : St} {H : Hp} (Pv : Nat → St → Hp → Prop) (h0 : Pv 0 σ H) (hl : ∀ i σ H, i ≤ xs.length → Pv i σ H → SqL K H a xs)
    (hs : ∀ i x σ H T, xs[i]? = some x → Pv i σ H → H T = none → g (.ref T) σ (upd H T (.tup [.int (i : Int), x])) fun σ2 H2 => tb { D with nx := Pv (i + 1), ct := Pv (i + 1), bk := D.nx } σ2 H2) (hd : ∀ σ H, Pv xs.length σ H → D.nx σ H) :
    ∃ W : Nat → Nat → St → Hp → Prop, (∃ m, W 0 m σ H) ∧ ∀ i m σ H, W i m σ H →
      ((Ite K a).stop i H ∧ D.nx σ H) ∨ ((Ite K a).go i H ∧ ∃ N : St → Hp → Prop, (∀ σ' H', N σ' H' → ∃ m', m' < m ∧ W (i + 1) m' σ' H') ∧ ∀ x H', (Ite K a).yld i H x H' → g x σ H' fun σ2 H2 => tb { D with nx := N, ct := N, bk := D.nx } σ2 H2) := by
  refine ⟨fun i m σ H => m = xs.length - i ∧ i ≤ xs.length ∧ Pv i σ H, ⟨xs.length, by simp, Nat.zero_le _, h0⟩, ?_⟩
  rintro i m σ H ⟨rfl, hi, p⟩
  have q := hl i σ H hi p
  by_cases hlt : i < xs.length
  · refine .inr ⟨⟨xs, xs[i], q, by simp [hlt]⟩, Pv (i + 1), fun σ' H' p' => ⟨xs.length - (i + 1), by omega, rfl, hlt, p'⟩, fun v H' y => ?_⟩
    obtain ⟨T, x, hT, rfl, rfl, y⟩ := y
    exact hs i x σ _ T (y xs q) p hT
  · have e : i = xs.length := by omega
    subst e
    exact .inl ⟨⟨xs, q, Nat.le_refl _⟩, hd σ H p⟩
end L2
namespace L2
open PySem PySem.Spec PyProof.Rows
section
variable {X : Cx}
end
theorem ixN_nat {n j : Nat} (h : j < n) : ixN n (j : Int) = some j := by
  unfold ixN
  rw [if_pos (by omega), if_pos (by omega)]
  rfl
end L2
namespace L2
open PySem PySem.Spec PyProof.Rows
theorem canLayAll_of : ∀ {ds : List PyData}, (∀ d ∈ ds, d.canLay0 = true) → PyData.canLayAll0 ds = true
  | [], _ => by simp [PyData.canLayAll0]
  | d :: ds, h => by
    rw [PyData.canLayAll0, h d (by simp), canLayAll_of fun x hx => h x (by simp [hx])]
    rfl
theorem depthAll_of {n : Nat} : ∀ {ds : List PyData}, (∀ d ∈ ds, d.depth ≤ n) → PyData.depthAll ds ≤ n
  | [], _ => by simp [PyData.depthAll]
  | d :: ds, h => by
    have h1 := h d (by simp)
    have h2 := depthAll_of (ds := ds) fun x hx => h x (List.mem_cons_of_mem _ hx)
    rw [PyData.depthAll]
    omega
theorem shaped_flat {ds : List PyData} (h : ∀ d ∈ ds, d.canLay0 = true ∧ d.depth ≤ 10) : SeqAt.shaped (.list ds) = true := by
  have h1 := canLayAll_of fun d hd => (h d hd).1
  have h2 := depthAll_of fun d hd => (h d hd).2
  have h3 : PyData.depth (.list ds) ≤ 64 := by simp only [PyData.depth]; omega
  show (PyData.canLay0 (.list ds) && decide (PyData.depth (.list ds) ≤ 64)) = true
  rw [Bool.and_eq_true]
  exact ⟨by simp only [PyData.canLay0]; exact h1, decide_eq_true h3⟩
end L2

namespace L2
open PySem PySem.Spec PyProof.Rows
/-! ### a list comprehension of one clause, by names or a tuple of names, with or without a test -/
section
variable {X : Cx} {pins : List (Addr × Obj)} {σ : St} {H : Hp} {s : Shared} {scope : Scope} {fr : List (Str × Nat)} {xs : List Str}
end
section
variable {prog : Program} {w : World} {A : Around} {s : Shared}
end
section
variable {X : Cx} {scope : Scope} {fr : List (Str × Nat)} {xs : List Str} {elt iter tg : Expr} {ifs : List Expr} {pos : Pos} {te : TE} {tt : TT} {tgt : TG} {wi : TI}
end
/-! ### the forms one uses -/
end L2
namespace L2
open PySem PySem.Spec PyProof.Rows
/-! ### rules whose reading names the part K itself (for the blocks of comprehensions) -/
section
variable {X : Cx} {K : PySem.W.Frag} {pos : Pos}
theorem ixK_list (h : X.K = K) : IxR X (rIxL K) := h ▸ ix_list
theorem callK_list (h : X.K = K) : CallR X (.type "list") (fun xs H Q => ∃ p ys, xs = [.ref p] ∧ (SqL K H p ys ∨ SqT K H p ys) ∧ ∀ l, H l = none → Q (.ref l) (upd H l (.lst ys))) := h ▸ call_list_of
theorem pe_fldK {e : Expr} {f : Str} {ta : TE} (h : X.K = K) (he : PE X e ta) (hb : attributeBase e f X.env (eval e X.env) = eval e X.env) : PE X (.Attribute e f pos) (tFld K ta f) := h ▸ pe_fld he hb
end
end L2

namespace L2
open PySem PySem.Spec PyProof.Rows
section
variable {X : Cx}
/-- xs.insert(k, y), k within the list -/
def rInsert : V → List V → Hp → VK → Prop := fun x vs H Q => ∃ l xs k y, x = .ref l ∧ vs = [.int k, y] ∧ H l = some (.lst xs) ∧ 0 ≤ k ∧ k ≤ xs.length ∧ xs.length < sizeLine ∧ Q .non (upd H l (.lst (xs.take k.toNat ++ y :: xs.drop k.toNat)))
theorem mt_insert : MtM X "list.insert" rInsert := by
  intro pins s σ H x vs v us Q I rx rv h
  obtain ⟨l, xs, k, y, rfl, rfl, hH, h0, hk, hz, q⟩ := h
  cases rx
  obtain ⟨u1, u2, rfl, r1, r2⟩ := rv.two
  obtain ⟨t, rfl⟩ := r1
  obtain ⟨z, its, n, r, hl, e⟩ := I.lstM hH
  have hn := line63
  have hfit : ¬ (!Builtin.List.listFitsIndex k) = true := by
    rw [fitsIndex_both (by omega) (by omega)]
    exact Bool.false_ne_true
  refine call_meets F.slot_list_insert ⟨_, e, rfl⟩ F.entry_list_insert (F.args_list_insert_3 _ _ _) (AutoListH.list_insert_list_int_val_1 l its.toArray n k t u2 hfit (by rw [List.size_toArray]; omega)) ⟨e, ?_⟩
  refine ⟨.non, _, I.lset (its' := its.take k.toNat ++ u2 :: its.drop k.toNat) hH e ?_ ((r.take _).append (.cons r2 (r.drop _))) ?_, rfl, q⟩
  · dsimp only
    rw [if_neg (by omega), List.size_toArray, Nat.min_eq_left (by omega)]
    simp
    exact List.take_of_length_le (by rw [List.length_drop]; omega)
  · rw [List.length_append, List.length_cons, List.length_take, List.length_drop]
    omega
/-- sum of a list of ints -/
theorem ints_are : ∀ {ns : List Int} {us : List Value}, Vals (ns.map V.int) us → IntsAre us ns
  | [], _, .nil => .nil
  | n :: ns, _, .cons r rr => by
    obtain ⟨t, rfl⟩ := r
    exact .cons n t (ints_are rr)
theorem call_sum (hc : X.calm = true) : CallR X (.builtin "sum") (fun xs H Q => ∃ (p : Addr) (ns : List Int), xs = [.ref p] ∧ SqL X.K H p (ns.map V.int) ∧ Q (.int ns.sum) H) := by
  intro pins s σ H xs us Q I r h
  obtain ⟨p, ns, rfl, hq, q⟩ := h
  obtain ⟨u, rfl, ru⟩ := vals1 r
  cases ru
  obtain ⟨its, rv, pl, hz⟩ := I.list hq
  have hi := ints_are rv
  obtain ⟨zs, e⟩ := hi.allInts.items
  have hns : (numsOf its) = ns := hi.numsOf
  have hl : s.heap.IsList p (intItems zs) := by rw [← e]; exact pl.isList
  refine sum_intListG (I.ok.hd hc) hl fun h' tk t' hk => ⟨.int ns.sum, H, I.kept (t' := tk) hk, ⟨t', ?_⟩, q⟩
  have h2 : numsOf (intItems zs).toList = ns := by rw [← e]; exact hns
  rw [nums_intItems] at h2
  rw [preSum_eq, List.take_of_length_le (by simp), ← h2]
end
end L2
namespace L2
open PySem PySem.Spec PyProof.Rows
theorem weight_nats : ∀ {ps : List Nat}, (∀ p ∈ ps, p < 1000) → PyData.weightAll ((ps.map fun (p : Nat) => ((p : Nat) : Int)).map PyData.int) ≤ 12 * ps.length
  | [], _ => by simp [PyData.weightAll]
  | p :: ps, h => by
    have ih := weight_nats (ps := ps) fun x hx => h x (List.mem_cons_of_mem _ hx)
    have hp := h p (by simp)
    have hw : PyData.weight (.int (p : Int)) ≤ 11 := by
      rw [PyData.weight]
      split
      · exact Nat.zero_le _
      · rename_i z
        have z' : p ≠ 0 := fun e => z (by rw [e]; rfl)
        have e : ((p : Int)).natAbs = p := rfl
        rw [e]
        have := (Nat.log2_lt z').mpr (show p < 2 ^ 10 by omega)
        omega
    rw [List.map_cons, List.map_cons, PyData.weightAll, List.length_cons]
    omega
theorem lay_nats {ps : List Nat} (h : ∀ p ∈ ps, p < 1000) (hl : ps.length ≤ 1000) : PyData.layable0 (.list ((ps.map fun (p : Nat) => ((p : Nat) : Int)).map PyData.int)) = true := by
  have h1 := PySem.W.shaped_ints (ps.map fun (p : Nat) => ((p : Nat) : Int))
  have h2 := weight_nats h
  have h3 : PyData.weight (.list ((ps.map fun (p : Nat) => ((p : Nat) : Int)).map PyData.int)) ≤ 2 ^ 20 := by
    rw [PyData.weight]; omega
  unfold PyData.layable0
  unfold SeqAt.shaped at h1
  rw [h1, decide_eq_true h3]
  rfl
section
variable {X : Cx}
/-- xs.index(k) of small whole numbers -/
def rIndex (K : PySem.W.Frag) : V → List V → Hp → VK → Prop := fun x vs H Q => ∃ (l : Addr) (ps : List Nat) (k : Nat), x = .ref l ∧ vs = [.int (k : Int)] ∧ SqL K H l (ps.map fun (p : Nat) => V.int (p : Int)) ∧ (∀ p ∈ ps, p < 1000) ∧ ps.length ≤ 1000 ∧ k ∈ ps ∧ Q (.int ((ps.idxOf k : Nat) : Int)) H
theorem idx_cast {ps : List Nat} {k : Nat} : (ps.map fun (p : Nat) => ((p : Nat) : Int)).idxOf (k : Int) = ps.idxOf k := by
  induction ps with
  | nil => rfl
  | cons p ps ih =>
    rw [List.map_cons, List.idxOf_cons, List.idxOf_cons, ih]
    have e : (((p : Nat) : Int) == (k : Int)) = (p == k) := by
      by_cases h : p = k
      · subst h; simp
      · have h2 : ¬ (p : Int) = (k : Int) := fun z => h (by omega)
        rw [beq_eq_false_iff_ne.mpr h, beq_eq_false_iff_ne.mpr h2]
    rw [e]
theorem mt_index : MtM X "list.index" (rIndex X.K) := by
  intro pins s σ H x vs v us Q I rx rv h
  obtain ⟨l, ps, k, rfl, rfl, hq, hs, hl, hk, q⟩ := h
  cases rx
  obtain ⟨u, rfl, ru⟩ := rv.one
  obtain ⟨t, rfl⟩ := ru
  have e : (ps.map fun (p : Nat) => V.int (p : Int)) = (ps.map fun (p : Nat) => ((p : Nat) : Int)).map V.int := by rw [List.map_map]; rfl
  rw [e] at hq
  obtain ⟨its, r, pl, hz⟩ := I.list hq
  refine index_list_ints pl.isList (ints_are r) (lay_nats hs hl) (List.mem_map.mpr ⟨k, hk, rfl⟩) ?_
  rw [idx_cast]
  exact ⟨.int _, H, I.tok _, ⟨_, rfl⟩, q⟩
end
end L2

namespace L2
open PySem PySem.Spec PyProof.Rows
theorem vals_of : ∀ {us : List Value} {ns : List Int}, IntsAre us ns → Vals (ns.map V.int) us
  | _, _, .nil => .nil
  | _, _, .cons _ t r => .cons ⟨t, rfl⟩ (vals_of r)
section
variable {X : Cx}
def rSorted (K : PySem.W.Frag) : List V → Hp → VK → Prop := fun xs H Q => ∃ (p : Addr) (ns : List Int), xs = [.ref p] ∧ SqL K H p (ns.map V.int) ∧ ns.length < 64 ∧ ∀ (l : Addr) (out : List Int), H l = none → out.Perm ns → out.Pairwise (· ≤ ·) → Q (.ref l) (upd H l (.lst (out.map V.int)))
theorem call_sorted : CallR X (.builtin "sorted") (rSorted X.K) := by
  intro pins s σ H xs us Q I r h
  obtain ⟨p, ns, rfl, hq, h64, q⟩ := h
  obtain ⟨u, rfl, ru⟩ := vals1 r
  cases ru
  obtain ⟨its, rv, pl, hz⟩ := I.list hq
  have hi := ints_are rv
  have hl := rv.length
  rw [List.length_map] at hl
  refine sorted_ints pl.isList hi (by omega) fun out ns' a1 a2 a3 => ?_
  obtain ⟨e, he⟩ := sortedAll_at s.heap its out
  refine ⟨.ref (s.heap.objs.size + 1), _, I.laid (t' := s.toks) (fun _ _ => sortedAll_old) (Nat.le_succ _) (show ObjOk X.prog X.w _ _ _ (.lst (ns'.map V.int)) from ⟨?_, out.toList, e, vals_of a1, ?_⟩), rfl, q _ ns' (I.hok.fresh (Nat.le_succ _)) a2 a3⟩
  · rw [List.length_map, a2.length_eq]
    exact Nat.le_of_lt (small1000 (by omega))
  · exact he
theorem callK_sorted {K : PySem.W.Frag} (h : X.K = K) : CallR X (.builtin "sorted") (rSorted K) := h ▸ call_sorted
end
theorem comp_range3 {lo c : Int} {n : Nat} {te : TE} {fv : St} {H1 : Hp} {QQ : List V → Hp → Prop} (Pv : Nat → List V → Hp → Prop) (hz : n ≤ sizeLine) (h0 : Pv 0 [] H1)
    (hs : ∀ i ys H, i < n → Pv i ys H → te (some (.int (lo + i * c)) :: fv) H fun y H2 => Pv (i + 1) (ys ++ [y]) H2) (hd : ∀ ys H, ys.length = n → Pv n ys H → QQ ys H)
    : tCompR te fv (Itr3 lo c n) H1 QQ := by
  refine ⟨fun i m ys H => m = n - i ∧ i ≤ n ∧ ys.length = i ∧ Pv i ys H, ⟨n, by simp, Nat.zero_le _, rfl, h0⟩, ?_⟩
  rintro i m ys H ⟨rfl, hi, hy, p⟩
  refine ⟨by omega, ?_⟩
  by_cases hlt : i < n
  · refine .inr ⟨hlt, fun y H2 => Pv (i + 1) (ys ++ [y]) H2, fun y H2 p2 => ⟨n - (i + 1), by omega, rfl, hlt, by rw [List.length_append, hy]; rfl, p2⟩, fun x H' y => ?_⟩
    obtain ⟨e, y⟩ := y
    subst e y
    exact hs i ys _ hlt p
  · have e : i = n := by omega
    subst e
    exact .inl ⟨Nat.le_refl _, hd ys H hy p⟩
end L2
namespace L2
open PySem PySem.Spec PyProof.Rows
section
variable {X : Cx} {tg : Expr}
/-- range(a, b, c), a not below nought, c above it -/
def iRngL (ta : TA) : TI := fun σ H R => ta σ H fun vs H1 => ∃ (lo m c : Int) (n : Nat), vs = [.int lo, .int m, .int c] ∧ 0 ≤ lo ∧ lo < 1000 ∧ -1000 < m ∧ m < 2 ^ 61 ∧ (0 < c ∧ c < 1000) ∧ Builtin.Range.rangeSize lo m c = (n : Int) ∧ R (Itr3 lo c n) H1
theorem small_lo {lo m c : Int} (h0 : 0 ≤ lo) (h00 : lo < 1000) (h1 : -1000 < m) (h2 : m < 2 ^ 61) (h3 : 0 < c ∧ c < 1000) : Builtin.Range.small lo m c = true := by
  obtain ⟨h3, h4⟩ := h3
  have hs : 0 ≤ Builtin.Range.rangeSize lo m c ∧ Builtin.Range.rangeSize lo m c ≤ 2 ^ 61 := by
    unfold Builtin.Range.rangeSize
    rw [if_pos h3]
    by_cases h : lo < m
    · rw [if_pos h]
      have q1 : 0 ≤ (m - lo - 1) / c := Int.ediv_nonneg (by omega) (by omega)
      have q2 : (m - lo - 1) / c ≤ (m - lo - 1) := Int.ediv_le_self _ (by omega)
      omega
    · rw [if_neg h]; omega
  unfold Builtin.Range.small Builtin.Range.rangeFitsLong
  simp only [gt_iff_lt, h3, if_true]
  simp
  omega
theorem pi_rangeL {a b c : Expr} {ta : TA} {p pos : Pos} (hg : Gl X "range") (hm : X.mg "range" = none) (ha : PA X [a, b, c] ta) (hs : starEach [a, b, c] X.env = (false, eval a X.env) :: starEach [b, c] X.env := by rfl) (hs2 : (backTo pos (starEach [b, c] X.env)).any (·.1) = false := by rfl) :
    PI X tg (.Call (.Name "range" p) [a, b, c] [] pos) (iRngL ta) := by
  intro pins s σ H R I h
  refine Call_ (ld_blt I hg hm bt_range (PyProof.Rows.callWith_type1 (thn (ha pos pins s σ H _ I h) fun us s1 ⟨vs, H1, I1, r1, q1⟩ => ?_) hs hs2))
  obtain ⟨lo, m, c, n, e, h0, h00, h1, h2, h3, hn, q⟩ := q1
  subst e
  cases r1 with
  | cons r rr =>
    cases rr with
    | cons r' rr =>
      cases rr with
      | cons r'' rr =>
        cases rr
        obtain ⟨t, rfl⟩ := r
        obtain ⟨t', rfl⟩ := r'
        obtain ⟨t'', rfl⟩ := r''
        refine call_range_3 (by have := h3.1; omega) ?_ (Or.inl (PyProof.noPylong_small (by have := h3.1; have := h3.2; omega)))
        refine wpAny_pyIter_range (IsRange.new ..) (small_lo h0 h00 h1 h2 h3) ?_
        have I2 : Inv X pins σ H1 { s1 with heap := s1.heap.push { cls := .type "range", data := .fields #[.int lo t, .int m t', .int c t''] }, toks := s1.toks } := I1.kept fun b o e => Heap.get?_push_of_some _ e
        refine ⟨(s1.heap.push { cls := .type "range", data := .fields #[.int lo t, .int m t', .int c t''] }).objs.size, [(s1.heap.push { cls := .type "range", data := .fields #[.int lo t, .int m t', .int c t''] }).objs.size], _, _, H1, rfl,
          I2.kept (t' := s1.toks) fun b o e => Heap.get?_push_of_some _ e, turn_range3 _ lo c n, ?_, fun b hb => ?_, q⟩
        · have e1 : lo + ((0 : Nat) : Int) * c = lo := by simp
          have e2 : ((n : Nat) : Int) - ((0 : Nat) : Int) = Builtin.Range.rangeSize lo m c := by rw [hn]; simp
          show IsRangeIter _ _ (lo + ((0 : Nat) : Int) * c) ((n : Int) - ((0 : Nat) : Int)) c
          rw [e1, e2]
          exact Heap.get?_push_size _ rfl
        · have e : b = (s1.heap.push { cls := .type "range", data := .fields #[.int lo t, .int m t', .int c t''] }).objs.size := by simpa using hb
          subst e
          exact I2.fpOk (Nat.le_refl _) (I2.hok.fresh (Nat.le_refl _))
end
end L2

namespace L2
open PySem PySem.Spec PyProof.Rows
theorem bt_max : bootBuiltins "max" = some (.builtin "max") := by decide +kernel
section
variable {X : Cx}
end
end L2
namespace L2
open PySem PySem.Spec PyProof.Rows
theorem bt_sum : bootBuiltins "sum" = some (.builtin "sum") := by decide +kernel
/-! ### zip(list, list), walked by a pair of names -/
section
variable {X : Cx}
end
section
variable {X : Cx}
end
end L2
/-! ### lists of things of one kind -/
namespace L2
open PySem PySem.Spec PyProof.Rows
end L2

namespace L2
open PySem PySem.Spec PyProof.Rows
theorem vals_by : ∀ {ys : List V} {us : List Value}, ys.length = us.length → (∀ (i : Nat) (y : V) (u : Value), ys[i]? = some y → us[i]? = some u → RelV y u) → Vals ys us
  | [], [], _, _ => .nil
  | [], _ :: _, e, _ => by cases e
  | _ :: _, [], e, _ => by cases e
  | y :: ys, u :: us, e, h => .cons (h 0 y u rfl rfl) (vals_by (Nat.succ.inj e) fun i y u a b => h (i + 1) y u a b)
section
variable {X : Cx}
/-- list(range(e)) -/
theorem pe_listrange {e : Expr} {te : TE} {p p2 pos pos2 : Pos} (hc : X.calm = true) (hg : Gl X "list") (hm : X.mg "list" = none) (hg2 : Gl X "range") (hm2 : X.mg "range" = none) (he : PE X e te)
    (h1 : starEach [.Call (.Name "range" p2) [e] [] pos2] X.env = [(false, eval (.Call (.Name "range" p2) [e] [] pos2) X.env)] := by rfl) (h2 : starEach [e] X.env = (false, eval e X.env) :: starEach [] X.env := by rfl) :
    PE X (.Call (.Name "list" p) [.Call (.Name "range" p2) [e] [] pos2] [] pos) (fun σ H Q => te σ H fun x H1 => ∃ n : Nat, x = .int (n : Int) ∧ n ≤ 1000 ∧ ∀ q, H1 q = none → Q (.ref q) (upd H1 q (.lst ((List.range n).map fun (i : Nat) => V.int ((i : Nat) : Int))))) := by
  intro pins s σ H Q I h
  refine wpAny_Call_Name_kw (ld_blt I hg hm bt_list ?_)
  refine PyProof.Rows.callWith_type1 ?_ h1 rfl
  rw [h1]
  refine Calls.spliced_cons ?_
  refine wpAny_Call_Name_kw (ld_blt I hg2 hm2 boot_range ?_)
  refine PyProof.Rows.callWith_type1 ?_ h2 rfl
  rw [h2]
  refine Calls.spliced_cons (thn (he pins s σ H _ I h) fun u s1 ⟨x, H1, I1, r1, q1⟩ => ?_)
  obtain ⟨n, rfl, hn, q⟩ := q1
  obtain ⟨t, rfl⟩ := r1
  refine Calls.spliced_nil ?_
  refine call_range_1 ?_
  refine Calls.spliced_nil ?_
  have I2 : Inv X pins σ H1 { s1 with heap := s1.heap.push { cls := .type "range", data := .fields #[.int 0 s1.toks, .int (n : Int) t, .int 1 (s1.toks + 1)] }, toks := s1.toks + 1 + 1 } := I1.kept fun b o e => Heap.get?_push_of_some _ e
  refine call_list_range (n := n) (I.ok.hd hc) (IsRange.new ..) (small_one (by omega) (by omega) (by omega) (by omega)) (by rw [rangeSize_one]; split <;> omega) (by omega) fun h' tk acc' c' hk hS hacc => ?_
  have I3 : Inv X pins σ H1 { s1 with heap := h', toks := tk } := I2.kept (t' := tk) fun b o e => hk b o e
  have fS := I2.fpOk (H' := H1) (Nat.le_refl _) (I2.hok.fresh (Nat.le_refl _))
  have hz : ((List.range n).map fun (i : Nat) => V.int ((i : Nat) : Int)).length ≤ sizeLine := by
    rw [List.length_map, List.length_range]
    exact Nat.le_trans hn (by decide)
  have hv : Vals ((List.range n).map fun (i : Nat) => V.int ((i : Nat) : Int)) acc'.toList := by
    refine vals_by (by rw [List.length_map, List.length_range, Array.length_toList, hacc.1]) fun i y u a b => ?_
    rw [Array.getElem?_toList] at b
    obtain ⟨tk', e⟩ := hacc.2 i u b
    rw [List.getElem?_map] at a
    obtain ⟨j, a1, a2⟩ := Option.map_eq_some_iff.mp a
    have hi : i < n := by
      have := (List.getElem?_eq_some_iff.mp a1).1
      rwa [List.length_range] at this
    rw [List.getElem?_range hi] at a1
    cases a1
    subst a2
    subst e
    exact ⟨tk', by rw [Int.zero_add, Int.mul_one]⟩
  have I4 := I3.track (o := .lst ((List.range n).map fun (i : Nat) => V.int ((i : Nat) : Int))) fS ⟨hz, acc'.toList, c', hv, by rw [Array.toArray_toList]; exact hS⟩
  exact ⟨.ref _, _, I4, rfl, q _ fS.1⟩
/-- != of two things by their data -/
theorem op_neG (hu : X.A.units + 64 < cLine) : OpR X (compareOp .NotEq) (fun x y H Q => ∃ d1 d2, RdD X.K H x d1 ∧ RdD X.K H y d2 ∧ SeqAt.shaped d1 = true ∧ SeqAt.shaped d2 = true ∧ Q (.bl (!PyData.eqv d1 d2)) H) := by
  intro pins s σ H x y v u Q I rx ry h
  obtain ⟨d1, d2, r1, r2, h1, h2, q⟩ := h
  obtain ⟨as, q1⟩ := r1.reads I v rx
  obtain ⟨bs, q2⟩ := r2.reads I u ry
  exact ne_dataH q1 q2 h1 h2 hu ⟨.bl _, H, I, rfl, q⟩
theorem eqvAll_ints : ∀ (a b : List Int), PyData.eqvAll (a.map PyData.int) (b.map PyData.int) = decide (a = b)
  | [], [] => by simp [PyData.eqvAll]
  | [], y :: b => by simp [PyData.eqvAll]
  | x :: a, [] => by simp [PyData.eqvAll]
  | x :: a, y :: b => by
    rw [List.map_cons, List.map_cons]
    simp only [PyData.eqvAll, PyData.eqv, eqvAll_ints a b]
    by_cases h : x = y
    · by_cases h2 : a = b
      · simp [h, h2]
      · simp [h, h2]
    · simp [h]
theorem eqv_ints (a b : List Int) : PyData.eqv (.list (a.map PyData.int)) (.list (b.map PyData.int)) = decide (a = b) := by
  rw [← eqvAll_ints]
  simp only [PyData.eqv]
end
/-! ### a for whose iterable may raise, and whose body does not -/
theorem wpAny_no {α : Type} {M : Model} {A : Around} {s : Shared} {t : Sem α} {Q : α → Shared → Prop} {E : Value → Shared → Prop} (h : wpAny M A t Q (fun _ _ => False) s) : wpAny M A t Q E s := wpAny_mono h (fun _ _ q => q) fun _ _ z => False.elim z
section
variable {X : Cx} {tg : Expr}
theorem ps_forX {iter : Expr} {body : List Stmt} {wi : TI} {g : TG} {tb : TS} {pos : Pos} (hc : X.calm = true) (hi : PI X tg iter wi) (hg : PG X.nox tg g) (hb : PSs X.nox body tb)
    (hs : ∀ x, foldedSetIterable iter X.env x = pure x := by intro _; rfl) : PS X (.For tg iter body [] pos) (tFor wi g tb) := by
  intro pins s σ H D I h
  refine wpAny_For (thn (hi pins s σ H _ I h) fun v s1 h1 => thn h1 fun itv s2 h2 => ?_) hs
  obtain ⟨it, fp, tn, J, H2, e, I2, T, st2, f2, W, ⟨m0, w0⟩, turn⟩ := h2
  subst e
  -- what stays true of the iterator's objects through the loop
  have stat : ∀ {H' : Hp}, (∀ b ∈ fp, H' b = none) → ∀ b ∈ fp, FpOk X pins H' b := fun hn b hb => ⟨hn b hb, (f2 b hb).2⟩
  refine codeAny_forLoop_any (fun n s' => ∃ i σ' H', Inv X pins σ' H' s' ∧ tn i s'.heap ∧ (∀ b ∈ fp, H' b = none) ∧ W i n σ' H') ?_ m0 ⟨0, σ, H2, I2, st2, fun b hb => (f2 b hb).1, w0⟩
  rintro n s3 ⟨i, σ3, H3, I3, st3, fr3, w3⟩
  rcases turn i n σ3 H3 w3 with ⟨stop, qn⟩ | ⟨go, N, hN, step⟩
  · refine wpAny_no (thn (T.done X rfl rfl rfl hc i pins s3 σ3 H3 (fun _ _ => False) I3 (stat fr3) st3 stop) fun r s4 ⟨hr, I4⟩ => ?_)
    subst hr
    exact wpAny_execs_nil ⟨σ3, H3, I4, qn⟩
  · refine wpAny_no (thn (T.item X rfl rfl rfl hc i pins s3 σ3 H3 (fun _ _ => False) I3 (stat fr3) st3 go) fun r s4 ⟨u, hr, h4⟩ => ?_)
    subst hr
    refine wpAny_no (thn h4 fun _ s5 ⟨x, H5, I5, r5, y5, st5, fr5⟩ => ?_)
    have I5' := I5.pinned (stat fr5) (T.obj _ _ st5)
    refine wpAny_no (thn (hg _ s5 σ3 H5 x u _ (I5'.wish _) r5 (step x H5 y5)) fun _ s6 ⟨σ6, H6, I6, q6⟩ => ?_)
    refine wpAny_no (thn (hb _ s6 σ6 H6 _ I6 q6) fun f s7 q7 => ?_)
    replace q7 := SP.unwish q7
    have again : ∀ {σ7 : St} {H7 : Hp}, Inv X (pins ++ pinsAt fp s5.heap) σ7 H7 s7 → N σ7 H7 → ∃ m, m < n ∧ ∃ i σ' H', Inv X pins σ' H' s7 ∧ tn i s7.heap ∧ (∀ b ∈ fp, H' b = none) ∧ W i m σ' H' := fun {σ7 H7} I7 n7 => by
      obtain ⟨m', hm, w7⟩ := hN σ7 H7 n7
      refine ⟨m', hm, i + 1, σ7, H7, I7.unpinned, T.keep _ _ _ st5 fun b hb o e => (I7.pin (b, o) (List.mem_append_right _ (List.mem_append_right _ (mem_pinsAt hb e)))).1, fun b hb => ?_, w7⟩
      obtain ⟨o, e, d⟩ := T.obj _ _ st5 b hb
      exact (I7.pin (b, o) (List.mem_append_right _ (List.mem_append_right _ (mem_pinsAt hb e)))).2.1
    cases f with
    | next => obtain ⟨σ7, H7, I7, n7⟩ := q7; exact again I7 n7
    | cont => obtain ⟨σ7, H7, I7, n7⟩ := q7; exact again I7 n7
    | brk => obtain ⟨σ7, H7, I7, q7⟩ := q7; exact ⟨σ7, H7, I7.unpinned, q7⟩
    | ret v => obtain ⟨x7, σ7, H7, I7, r7, q7⟩ := q7; exact ⟨x7, σ7, H7, I7.unpinned, r7, q7⟩
end
/-! ### a def with defaults -/
structure FunD (K : PySem.W.Frag) (x qual : Str) (st : Stmt) (f : Addr) (fd : FuncData) (items : Array Value) : Prop where
  ex : ∃ (oc : Value) (od : Option Addr) (d : Addr) (kV doc pm : Value) (an : Option Addr) (cdv ct : Value) (osl : Array (Option Value)),
    fd = PySem.W.fnOf x qual (defArgs st) (defBody st) (defScope st) (.ref d) kV doc pm an cdv ct ∧ K.lookup f = some ⟨oc, od, .func fd, osl⟩ ∧ PySem.W.codeIn K cdv qual = true ∧ ∃ o n, K.lookup d = some o ∧ o.data = .seq items n
  kp : PySem.W.keepIn K (.ref f) = true
section
variable {P : Program} {w : World} {K : PySem.W.Frag} {mg : Str → Option Value} {base : Heap}
theorem FunD.okX {x qual : Str} {st : Stmt} {f : Addr} {fd : FuncData} {items : Array Value} {N ps : List Str} {k : Nat} {sp : Sp} (F : FunD K x qual st f fd items) (S : FnScope N ps (defScope st)) (len : ∀ vs H Q E, sp vs H Q E → vs.length = ps.length)
    (hbody : ∀ (cdv : Value) (A : Around) (outer : List Env) (s : Shared) (H : Hp) (vs : List V) (Q : VK) (E : XK), Room k (A.deeper (envOfC qual (defScope st) s.heap.objs.size f cdv)) → sp vs H Q E →
      ∃ t, PSs (cxOf (CXr P w) P w K mg base N qual (defScope st) f cdv A outer s H E) (defBody st) t ∧ t { nx := fun _ H' => Q .non H', rt := Q } (start N vs) H) : FnOk P w K mg base (CXr P w) (k + 1) f fd ps sp := by
  obtain ⟨oc, od, d, kV, doc, pm, an, cdv, ct, osl, rfl, lk, hcd, _⟩ := F.ex
  exact fn_of lk hcd S len fun A outer s H vs Q E hr hsp => hbody cdv A outer s H vs Q E hr hsp
/-- how its arguments bind, the last ones by default -/
theorem FunD.binds {x qual : Str} {st : Stmt} {f : Addr} {fd : FuncData} {items : Array Value} {ps : List Str} {ds : List Value} (F : FunD K x qual st f fd items)
    (h : ∀ (dV kV doc pm : Value) (an : Option Addr) (cdv ct : Value) (us : List Value), (us ++ ds).length = ps.length → ∃ k, bindArgs (PySem.W.fnOf x qual (defArgs st) (defBody st) (defScope st) dV kV doc pm an cdv ct) ⟨us, []⟩ = seqItems? dV >>= k ∧ k (some items) = pure (ps.zip (us ++ ds))) : Binds K fd ps ds := by
  obtain ⟨oc, od, d, kV, doc, pm, an, cdv, ct, osl, rfl, lk, hcd, o, n, ho, hs⟩ := F.ex
  intro s us X hl
  obtain ⟨k, h1, h2⟩ := h (.ref d) kV doc pm an cdv ct us hl
  exact BindsTo.of_defaults rfl (X _ _ ho) hs h1 h2
theorem funD_mk {x qual : Str} {st : Stmt} {f d : Addr} {oc : Value} {od an : Option Addr} {osl : Array (Option Value)} {kV doc pm cdv ct : Value} {items : Array Value} {o : Obj} {n : Nat} (l : K.lookup f = some ⟨oc, od, .func (PySem.W.fnOf x qual (defArgs st) (defBody st) (defScope st) (.ref d) kV doc pm an cdv ct), osl⟩)
    (c : PySem.W.codeIn K cdv qual = true) (k : PySem.W.keepIn K (.ref f) = true) (ld : K.lookup d = some o) (hs : o.data = .seq items n) : FunD K x qual st f (PySem.W.fnOf x qual (defArgs st) (defBody st) (defScope st) (.ref d) kV doc pm an cdv ct) items := ⟨⟨oc, od, d, kV, doc, pm, an, cdv, ct, osl, rfl, l, c, o, n, ld, hs⟩, k⟩
end
end L2


namespace L2
theorem len_0 {α : Type} {l : List α} (h : l.length = 0) : l = [] := List.length_eq_zero_iff.mp h
theorem len_s {α : Type} {l : List α} {n : Nat} (h : l.length = n + 1) : ∃ x r, l = x :: r ∧ r.length = n := by
  cases l with
  | nil => cases h
  | cons x r => exact ⟨x, r, rfl, Nat.succ.inj h⟩
theorem len_1 {α : Type} {l : List α} (h : l.length = 1) : ∃ a, l = [a] := by
  obtain ⟨a, r, rfl, e⟩ := len_s h
  exact ⟨a, by rw [len_0 e]⟩
theorem len_2 {α : Type} {l : List α} (h : l.length = 2) : ∃ a b, l = [a, b] := by
  obtain ⟨a, r, rfl, e⟩ := len_s h
  obtain ⟨b, rfl⟩ := len_1 e
  exact ⟨a, b, rfl⟩
theorem len_3 {α : Type} {l : List α} (h : l.length = 3) : ∃ a b c, l = [a, b, c] := by
  obtain ⟨a, r, rfl, e⟩ := len_s h
  obtain ⟨b, c, rfl⟩ := len_2 e
  exact ⟨a, b, c, rfl⟩
theorem len_4 {α : Type} {l : List α} (h : l.length = 4) : ∃ a b c d, l = [a, b, c, d] := by
  obtain ⟨a, r, rfl, e⟩ := len_s h
  obtain ⟨b, c, d, rfl⟩ := len_3 e
  exact ⟨a, b, c, d, rfl⟩
theorem len_5 {α : Type} {l : List α} (h : l.length = 5) : ∃ a b c d e, l = [a, b, c, d, e] := by
  obtain ⟨a, r, rfl, z⟩ := len_s h
  obtain ⟨b, c, d, e, rfl⟩ := len_4 z
  exact ⟨a, b, c, d, e, rfl⟩
end L2
namespace K8
theorem sub_le : ∀ {a b : List Nat}, a.Nodup → (∀ x ∈ a, x ∈ b) → a.length ≤ b.length
  | [], _, _, _ => Nat.zero_le _
  | x :: a, b, nd, h => by
    obtain ⟨n1, n2⟩ := List.nodup_cons.mp nd
    have hx := h x (by simp)
    have ih := sub_le (a := a) (b := b.erase x) n2 fun y hy => (List.mem_erase_of_ne (fun e : y = x => n1 (e ▸ hy))).mpr (h y (List.mem_cons_of_mem _ hy))
    rw [List.length_erase_of_mem hx] at ih
    have : 0 < b.length := List.length_pos_of_mem hx
    rw [List.length_cons]
    omega
theorem len_le {a : List Nat} {N : Nat} (nd : a.Nodup) (h : ∀ x ∈ a, x < N) : a.length ≤ N := by
  have := sub_le (b := List.range N) nd fun x hx => List.mem_range.mpr (h x hx)
  rwa [List.length_range] at this
theorem nd_inj {l : List Nat} (nd : l.Nodup) {i j x : Nat} (hi : l[i]? = some x) (hj : l[j]? = some x) : i = j := by
  have p := List.pairwise_iff_getElem.mp nd
  obtain ⟨h1, e1⟩ := List.getElem?_eq_some_iff.mp hi
  obtain ⟨h2, e2⟩ := List.getElem?_eq_some_iff.mp hj
  rcases Nat.lt_trichotomy i j with z | z | z
  · exact absurd (e1.trans e2.symm) (p i j h1 h2 z)
  · exact z
  · exact absurd (e2.trans e1.symm) (p j i h2 h1 z)
/-! the turns -/
abbrev En := List (Nat × Nat)
structure Turn0 (m : Nat) (es : En) (ts : List (List Nat)) : Prop where
  len : ts.length = m
  ends : ∀ e ∈ es, e.1 < m ∧ e.2 < m ∧ e.1 ≠ e.2
  nd : ∀ (p : Nat) (l : List Nat), ts[p]? = some l → l.Nodup
  mem : ∀ (p : Nat) (l : List Nat), ts[p]? = some l → ∀ t, t ∈ l ↔ ∃ e, es[t]? = some e ∧ (e.1 = p ∨ e.2 = p)
theorem turn_nil (m : Nat) : Turn0 m [] (List.replicate m []) where
  len := by simp
  ends := fun e h => by cases h
  nd := fun p l h => by
    rw [List.getElem?_replicate] at h
    split at h
    · cases h; exact List.nodup_nil
    · cases h
  mem := fun p l h t => by
    rw [List.getElem?_replicate] at h
    split at h
    · cases h; simp
    · cases h
def ins (l : List Nat) (k x : Nat) : List Nat := l.take k ++ x :: l.drop k
theorem ins_mem {l : List Nat} {k x y : Nat} : y ∈ ins l k x ↔ y = x ∨ y ∈ l := by
  unfold ins
  rw [List.mem_append, List.mem_cons]
  have := List.take_append_drop k l
  constructor
  · rintro (h | h | h)
    · exact .inr (List.mem_of_mem_take h)
    · exact .inl h
    · exact .inr (List.mem_of_mem_drop h)
  · rintro (h | h)
    · exact .inr (.inl h)
    · rw [← this] at h
      rcases List.mem_append.mp h with z | z
      · exact .inl z
      · exact .inr (.inr z)
theorem ins_nd {l : List Nat} {k x : Nat} (nd : l.Nodup) (h : x ∉ l) : (ins l k x).Nodup := by
  unfold ins
  have e := List.take_append_drop k l
  rw [← e] at nd
  obtain ⟨a, b, c⟩ := List.nodup_append.mp nd
  refine List.nodup_append.mpr ⟨a, List.nodup_cons.mpr ⟨fun z => h (List.mem_of_mem_drop z), b⟩, fun y hy z hz => ?_⟩
  rcases List.mem_cons.mp hz with q | q
  · intro w
    exact h (by rw [← q, ← w]; exact List.mem_of_mem_take hy)
  · exact c y hy z q
/-- the number of a new tie goes into both its places' lists -/
theorem Turn0.put {m : Nat} {es : En} {ts : List (List Nat)} {one two k j : Nat} {l l' : List Nat} (w : Turn0 m es ts) (h1 : one < m) (h2 : two < m) (hn : one ≠ two) (e1 : ts[one]? = some l) (e2 : ts[two]? = some l') :
    Turn0 m (es ++ [(one, two)]) ((ts.set one (ins l k es.length)).set two (ins l' j es.length)) := by
  have old : ∀ {p l}, ts[p]? = some l → es.length ∉ l := fun {p l} e z => by
    obtain ⟨x, hx, _⟩ := (w.mem p l e es.length).mp z
    have := (List.getElem?_eq_some_iff.mp hx).1
    omega
  have get : ∀ p q, ((ts.set one (ins l k es.length)).set two (ins l' j es.length))[p]? = some q → (p = two ∧ q = ins l' j es.length) ∨ (p = one ∧ p ≠ two ∧ q = ins l k es.length) ∨ (p ≠ one ∧ p ≠ two ∧ ts[p]? = some q) := fun p q e => by
    have L : two < (ts.set one (ins l k es.length)).length := by rw [List.length_set, w.len]; exact h2
    have L1 : one < ts.length := by rw [w.len]; exact h1
    rw [List.getElem?_set] at e
    by_cases z : two = p
    · rw [if_pos z, if_pos L] at e
      exact .inl ⟨z.symm, (Option.some.inj e).symm⟩
    · rw [if_neg z, List.getElem?_set] at e
      by_cases y : one = p
      · rw [if_pos y, if_pos L1] at e
        exact .inr (.inl ⟨y.symm, Ne.symm z, (Option.some.inj e).symm⟩)
      · rw [if_neg y] at e
        exact .inr (.inr ⟨Ne.symm y, Ne.symm z, e⟩)
  have esg : ∀ t x, (es ++ [(one, two)])[t]? = some x ↔ (es[t]? = some x) ∨ (t = es.length ∧ x = (one, two)) := fun t x => by
    by_cases z : t < es.length
    · rw [List.getElem?_append_left z]
      constructor
      · exact .inl
      · rintro (y | y)
        · exact y
        · omega
    · rw [List.getElem?_append_right (by omega)]
      constructor
      · intro y
        have hl := (List.getElem?_eq_some_iff.mp y).1
        rw [List.length_singleton] at hl
        have ht : t = es.length := by omega
        subst ht
        rw [Nat.sub_self] at y
        cases y
        exact .inr ⟨rfl, rfl⟩
      · rintro (y | ⟨y, rfl⟩)
        · have := (List.getElem?_eq_some_iff.mp y).1; omega
        · rw [y, Nat.sub_self]; rfl
  refine ⟨by rw [List.length_set, List.length_set]; exact w.len, fun e he => ?_, fun p q e => ?_, fun p q e t => ?_⟩
  · rcases List.mem_append.mp he with z | z
    · exact w.ends e z
    · have : e = (one, two) := by simpa using z
      subst this
      exact ⟨h1, h2, hn⟩
  · rcases get p q e with ⟨_, rfl⟩ | ⟨_, _, rfl⟩ | ⟨_, _, y⟩
    · exact ins_nd (w.nd two l' e2) (old e2)
    · exact ins_nd (w.nd one l e1) (old e1)
    · exact w.nd p q y
  · rcases get p q e with ⟨rfl, rfl⟩ | ⟨rfl, np, rfl⟩ | ⟨n1, n2, y⟩
    · rw [ins_mem, w.mem p l' e2 t]
      constructor
      · rintro (z | ⟨x, hx, hp⟩)
        · exact ⟨(one, p), (esg _ _).mpr (.inr ⟨z, rfl⟩), .inr rfl⟩
        · exact ⟨x, (esg _ _).mpr (.inl hx), hp⟩
      · rintro ⟨x, hx, hp⟩
        rcases (esg _ _).mp hx with z | ⟨z, _⟩
        · exact .inr ⟨x, z, hp⟩
        · exact .inl z
    · rw [ins_mem, w.mem p l e1 t]
      constructor
      · rintro (z | ⟨x, hx, hp⟩)
        · exact ⟨(p, two), (esg _ _).mpr (.inr ⟨z, rfl⟩), .inl rfl⟩
        · exact ⟨x, (esg _ _).mpr (.inl hx), hp⟩
      · rintro ⟨x, hx, hp⟩
        rcases (esg _ _).mp hx with z | ⟨z, _⟩
        · exact .inr ⟨x, z, hp⟩
        · exact .inl z
    · rw [w.mem p q y t]
      constructor
      · rintro ⟨x, hx, hp⟩
        exact ⟨x, (esg _ _).mpr (.inl hx), hp⟩
      · rintro ⟨x, hx, hp⟩
        rcases (esg _ _).mp hx with z | ⟨z, rfl⟩
        · exact ⟨x, z, hp⟩
        · rcases hp with hp | hp
          · exact absurd hp.symm n1
          · exact absurd hp.symm n2
/-! what follows a dart -/
def hd (es : En) (d : Nat) : Nat := match es[d / 2]? with | some e => if d % 2 = 0 then e.2 else e.1 | none => 0
def tl (es : En) (d : Nat) : Nat := match es[d / 2]? with | some e => if d % 2 = 0 then e.1 else e.2 | none => 0
def leave (es : En) (t p : Nat) : Nat := match es[t]? with | some e => if e.1 = p then 2 * t else 2 * t + 1 | none => 0
def nxt (l : List Nat) (t : Nat) : Nat := (l[(l.idxOf t + 1) % l.length]?).getD 0
def fol (es : En) (ts : List (List Nat)) (d : Nat) : Nat := leave es (nxt ((ts[hd es d]?).getD []) (d / 2)) (hd es d)
section
variable {m : Nat} {es : En} {ts : List (List Nat)}
theorem idx_get {l : List Nat} {t : Nat} (h : t ∈ l) : l[l.idxOf t]? = some t := by
  have hl := List.idxOf_lt_length_iff.mpr h
  rw [List.getElem?_eq_getElem hl, List.getElem_idxOf]
theorem nxt_get {l : List Nat} {t : Nat} (h : t ∈ l) : l[(l.idxOf t + 1) % l.length]? = some (nxt l t) := by
  have hl : 0 < l.length := List.length_pos_of_mem h
  have := Nat.mod_lt (l.idxOf t + 1) hl
  unfold nxt
  rw [List.getElem?_eq_getElem this]
  rfl
theorem Turn0.at (w : Turn0 m es ts) {d : Nat} (h : d < 2 * es.length) : ∃ e l, es[d / 2]? = some e ∧ hd es d = (if d % 2 = 0 then e.2 else e.1) ∧ tl es d = (if d % 2 = 0 then e.1 else e.2) ∧ hd es d < m ∧ ts[hd es d]? = some l ∧ d / 2 ∈ l := by
  have hl : d / 2 < es.length := by omega
  have e1 : es[d / 2]? = some es[d / 2] := List.getElem?_eq_getElem hl
  have q := w.ends _ (List.mem_of_getElem? e1)
  generalize es[d / 2] = e at e1 q
  have h1 : hd es d = (if d % 2 = 0 then e.2 else e.1) := by unfold hd; rw [e1]
  have h2 : tl es d = (if d % 2 = 0 then e.1 else e.2) := by unfold tl; rw [e1]
  have h3 : hd es d < m := by rw [h1]; split <;> omega
  have h4 : ts[hd es d]? = some (ts[hd es d]'(by rw [w.len]; exact h3)) := List.getElem?_eq_getElem _
  refine ⟨e, _, e1, h1, h2, h3, h4, (w.mem _ _ h4 _).mpr ⟨e, e1, ?_⟩⟩
  rw [h1]
  split
  · exact .inr rfl
  · exact .inl rfl
/-- all of what follows d -/
theorem Turn0.foll (w : Turn0 m es ts) {d : Nat} (h : d < 2 * es.length) : ∃ l e, ts[hd es d]? = some l ∧ d / 2 ∈ l ∧ es[nxt l (d / 2)]? = some e ∧ (e.1 = hd es d ∨ e.2 = hd es d) ∧ e.1 ≠ e.2 ∧ fol es ts d = (if e.1 = hd es d then 2 * nxt l (d / 2) else 2 * nxt l (d / 2) + 1) ∧ fol es ts d < 2 * es.length ∧ fol es ts d / 2 = nxt l (d / 2) ∧ tl es (fol es ts d) = hd es d := by
  obtain ⟨e0, l, h1, h2, h3, h4, h5, h6⟩ := w.at h
  have hn := nxt_get h6
  obtain ⟨e, he, hp⟩ := (w.mem _ _ h5 _).mp (List.mem_of_getElem? hn)
  have hlt := (List.getElem?_eq_some_iff.mp he).1
  have hne := (w.ends e (List.mem_of_getElem? he)).2.2
  have hf : fol es ts d = (if e.1 = hd es d then 2 * nxt l (d / 2) else 2 * nxt l (d / 2) + 1) := by
    unfold fol
    rw [h5]
    show leave es (nxt l (d / 2)) (hd es d) = _
    unfold leave
    rw [he]
  refine ⟨l, e, h5, h6, he, hp, hne, hf, ?_, ?_, ?_⟩
  · rw [hf]; split <;> omega
  · rw [hf]; split <;> omega
  · rw [hf]
    by_cases z : e.1 = hd es d
    · have a1 : 2 * nxt l (d / 2) / 2 = nxt l (d / 2) := by omega
      have a2 : 2 * nxt l (d / 2) % 2 = 0 := by omega
      rw [if_pos z]
      unfold tl
      rw [a1, he]
      show (if 2 * nxt l (d / 2) % 2 = 0 then e.1 else e.2) = _
      rw [if_pos a2, z]
    · have a1 : (2 * nxt l (d / 2) + 1) / 2 = nxt l (d / 2) := by omega
      have a2 : ¬ (2 * nxt l (d / 2) + 1) % 2 = 0 := by omega
      rw [if_neg z]
      unfold tl
      rw [a1, he]
      show (if (2 * nxt l (d / 2) + 1) % 2 = 0 then e.1 else e.2) = _
      rw [if_neg a2]
      exact hp.elim (fun y => absurd y z) id
theorem Turn0.inj (w : Turn0 m es ts) {a b : Nat} (ha : a < 2 * es.length) (hb : b < 2 * es.length) (h : fol es ts a = fol es ts b) : a = b := by
  obtain ⟨l, e, p1, p2, _, _, _, _, _, p3, p4⟩ := w.foll ha
  obtain ⟨l', e', q1, q2, _, _, _, _, _, q3, q4⟩ := w.foll hb
  have hh : hd es a = hd es b := by rw [← p4, ← q4, h]
  rw [hh, q1] at p1
  cases p1
  have hx : nxt l (a / 2) = nxt l (b / 2) := by rw [← p3, ← q3, h]
  have g1 := nxt_get p2
  have g2 := nxt_get q2
  rw [hx] at g1
  have ii := nd_inj (w.nd _ _ q1) g1 g2
  have i1 := List.idxOf_lt_length_iff.mpr p2
  have i2 := List.idxOf_lt_length_iff.mpr q2
  have ix : l.idxOf (a / 2) = l.idxOf (b / 2) := by
    generalize l.idxOf (a / 2) = x at *
    generalize l.idxOf (b / 2) = y at *
    by_cases z1 : x + 1 = l.length
    · by_cases z2 : y + 1 = l.length
      · omega
      · rw [z1, Nat.mod_self, Nat.mod_eq_of_lt (by omega)] at ii; omega
    · by_cases z2 : y + 1 = l.length
      · rw [z2, Nat.mod_self, Nat.mod_eq_of_lt (by omega)] at ii; omega
      · rw [Nat.mod_eq_of_lt (by omega), Nat.mod_eq_of_lt (by omega)] at ii; omega
  have ht : a / 2 = b / 2 := by
    have g3 := idx_get p2
    have g4 := idx_get q2
    rw [ix, g4] at g3
    exact (Option.some.inj g3).symm
  obtain ⟨e1, _, r1, r2, _, _, _, _⟩ := w.at ha
  obtain ⟨e2, _, s1, s2, _, _, _, _⟩ := w.at hb
  rw [ht, s1] at r1
  have ee : e2 = e1 := Option.some.inj r1
  rw [ee] at s1 s2
  have hne := (w.ends e1 (List.mem_of_getElem? s1)).2.2
  rw [r2, s2] at hh
  have : a % 2 = b % 2 := by
    by_cases z1 : a % 2 = 0 <;> by_cases z2 : b % 2 = 0
    · omega
    · rw [if_pos z1, if_neg z2] at hh; exact absurd hh.symm hne
    · rw [if_neg z1, if_pos z2] at hh; exact absurd hh hne
    · omega
  omega
end
/-! rounds of a one-to-one map -/
structure Perm1 (f : Nat → Nat) (N : Nat) : Prop where
  lt : ∀ d, d < N → f d < N
  inj : ∀ a b, a < N → b < N → f a = f b → a = b
structure Path (f : Nat → Nat) (N first : Nat) (r : List Nat) : Prop where
  hd : r[0]? = some first
  lt : ∀ d ∈ r, d < N
  nd : r.Nodup
  nx : ∀ i x y, r[i]? = some x → r[i + 1]? = some y → y = f x
theorem path_one {f : Nat → Nat} {N d : Nat} (h : d < N) : Path f N d [d] where
  hd := rfl
  lt := fun x hx => by have : x = d := by simpa using hx
                       rw [this]; exact h
  nd := by simp
  nx := fun i x y h1 h2 => by
    have := (List.getElem?_eq_some_iff.mp h2).1
    rw [List.length_singleton] at this
    omega
theorem Path.snoc {f : Nat → Nat} {N d x : Nat} {r : List Nat} (p : Perm1 f N) (h : Path f N d (r ++ [x])) (hn : f x ≠ d) : Path f N d (r ++ [x] ++ [f x]) where
  hd := by rw [List.getElem?_append_left (by rw [List.length_append, List.length_singleton]; omega)]; exact h.hd
  lt := fun y hy => by
    rcases List.mem_append.mp hy with z | z
    · exact h.lt y z
    · have : y = f x := by simpa using z
      rw [this]; exact p.lt x (h.lt x (by simp))
  nd := by
    refine List.nodup_append.mpr ⟨h.nd, by simp, fun a ha b hb e => ?_⟩
    have eb : b = f x := by simpa using hb
    subst eb
    obtain ⟨i, hi⟩ := List.mem_iff_getElem?.mp ha
    rw [e] at hi
    have hil := (List.getElem?_eq_some_iff.mp hi).1
    rw [List.length_append, List.length_singleton] at hil
    cases i with
    | zero =>
      rw [h.hd] at hi
      exact hn (Option.some.inj hi).symm
    | succ i =>
      have gi : (r ++ [x])[i]? = some ((r ++ [x])[i]'(by rw [List.length_append, List.length_singleton]; omega)) := List.getElem?_eq_getElem _
      have := h.nx i _ _ gi hi
      have mi := h.lt _ (List.mem_of_getElem? gi)
      have mx := h.lt x (by simp)
      have e2 := p.inj _ _ mx mi this
      rw [← e2] at gi
      have gx : (r ++ [x])[r.length]? = some x := by rw [List.getElem?_append_right (Nat.le_refl _), Nat.sub_self]; rfl
      have := nd_inj h.nd gi gx
      omega
  nx := fun i a b h1 h2 => by
    have h2l := (List.getElem?_eq_some_iff.mp h2).1
    rw [List.length_append, List.length_append, List.length_singleton, List.length_singleton] at h2l
    rw [List.getElem?_append_left (by rw [List.length_append, List.length_singleton]; omega)] at h1
    by_cases z : i + 1 < (r ++ [x]).length
    · rw [List.getElem?_append_left z] at h2
      exact h.nx i a b h1 h2
    · rw [List.length_append, List.length_singleton] at z
      have ei : i = r.length := by omega
      subst ei
      rw [List.getElem?_append_right (by rw [List.length_append, List.length_singleton]; omega)] at h2
      have : r.length + 1 - (r ++ [x]).length = 0 := by rw [List.length_append, List.length_singleton]; omega
      rw [this] at h2
      rw [List.getElem?_append_right (Nat.le_refl _), Nat.sub_self] at h1
      have e1 : x = a := Option.some.inj h1
      have e2 : f x = b := Option.some.inj h2
      rw [← e2, e1]
/-- a round -/
structure Ring (f : Nat → Nat) (N : Nat) (r : List Nat) : Prop where
  lt : ∀ d ∈ r, d < N
  nd : r.Nodup
  ne : 0 < r.length
  nx : ∀ i x, r[i]? = some x → r[(i + 1) % r.length]? = some (f x)
theorem Path.ring {f : Nat → Nat} {N d x : Nat} {r : List Nat} (p : Perm1 f N) (h : Path f N d (r ++ [x])) (he : f x = d) : Ring f N (r ++ [x]) where
  lt := h.lt
  nd := h.nd
  ne := by rw [List.length_append, List.length_singleton]; omega
  nx := fun i y hy => by
    have hl := (List.getElem?_eq_some_iff.mp hy).1
    by_cases z : i + 1 = (r ++ [x]).length
    · rw [z, Nat.mod_self]
      have : i = r.length := by rw [List.length_append, List.length_singleton] at z; omega
      subst this
      rw [List.getElem?_append_right (Nat.le_refl _), Nat.sub_self] at hy
      have : x = y := Option.some.inj hy
      subst this
      rw [he]; exact h.hd
    · have l2 : i + 1 < (r ++ [x]).length := by omega
      rw [Nat.mod_eq_of_lt l2]
      have g := List.getElem?_eq_getElem l2
      rw [g, h.nx i _ _ hy g]
/-- what leads into a round lies in it -/
theorem Ring.back {f : Nat → Nat} {N a : Nat} {r : List Nat} (p : Perm1 f N) (h : Ring f N r) (ha : a < N) (hf : f a ∈ r) : a ∈ r := by
  obtain ⟨i, hi⟩ := List.mem_iff_getElem?.mp hf
  have hl := (List.getElem?_eq_some_iff.mp hi).1
  -- the one ahead of place i
  have key : ∃ j, j < r.length ∧ (j + 1) % r.length = i := by
    cases i with
    | zero => exact ⟨r.length - 1, by have := h.ne; omega, by have := h.ne; rw [show r.length - 1 + 1 = r.length by omega, Nat.mod_self]⟩
    | succ i => exact ⟨i, by omega, Nat.mod_eq_of_lt hl⟩
  obtain ⟨j, hj, ej⟩ := key
  have g := List.getElem?_eq_getElem hj
  have q := h.nx j _ g
  rw [ej, hi] at q
  have mj := h.lt _ (List.mem_of_getElem? g)
  have := p.inj _ _ ha mj (Option.some.inj q)
  rw [this]
  exact List.mem_of_getElem? g
structure Rounds (f : Nat → Nat) (N i : Nat) (rs : List (List Nat)) : Prop where
  ring : ∀ r ∈ rs, Ring f N r
  hdl : ∀ r ∈ rs, ∀ h, r[0]? = some h → h < i ∧ ∀ d ∈ r, h ≤ d
  asc : ∀ (a b : Nat) (r r' : List Nat) (h h' : Nat), a < b → rs[a]? = some r → rs[b]? = some r' → r[0]? = some h → r'[0]? = some h' → h < h'
  nd : rs.flatten.Nodup
  all : ∀ d, d < i → d ∈ rs.flatten
theorem rounds_nil (f : Nat → Nat) (N : Nat) : Rounds f N 0 [] where
  ring := fun r h => by cases h
  hdl := fun r h => by cases h
  asc := fun a b r r' h h' _ e => by cases e
  nd := by simp
  all := fun d h => by omega
theorem Rounds.skip {f : Nat → Nat} {N i : Nat} {rs : List (List Nat)} (w : Rounds f N i rs) (h : i ∈ rs.flatten) : Rounds f N (i + 1) rs where
  ring := w.ring
  hdl := fun r hr x hx => ⟨by have := (w.hdl r hr x hx).1; omega, (w.hdl r hr x hx).2⟩
  asc := w.asc
  nd := w.nd
  all := fun d hd => by
    by_cases z : d = i
    · rw [z]; exact h
    · exact w.all d (by omega)
theorem Rounds.put {f : Nat → Nat} {N i : Nat} {rs : List (List Nat)} {r : List Nat} (p : Perm1 f N) (w : Rounds f N i rs) (h : i ∉ rs.flatten) (hi : i < N) (hr : Ring f N r) (pa : Path f N i r) : Rounds f N (i + 1) (rs ++ [r]) := by
  have apart : ∀ (k x : Nat), r[k]? = some x → x ∉ rs.flatten := fun k => by
    induction k with
    | zero =>
      intro x hx
      rw [pa.hd] at hx
      cases hx
      exact h
    | succ k ih =>
      intro x hx z
      have hl := (List.getElem?_eq_some_iff.mp hx).1
      have g := List.getElem?_eq_getElem (show k < r.length by omega)
      have e := pa.nx k _ _ g hx
      obtain ⟨q, hq, zq⟩ := List.mem_flatten.mp z
      rw [e] at zq
      exact ih _ g (List.mem_flatten.mpr ⟨q, hq, (w.ring q hq).back p (hr.lt _ (List.mem_of_getElem? g)) zq⟩)
  have least : ∀ d ∈ r, i ≤ d := fun d hd => by
    obtain ⟨k, hk⟩ := List.mem_iff_getElem?.mp hd
    by_cases z : i ≤ d
    · exact z
    · exact absurd (w.all d (by omega)) (apart k d hk)
  refine ⟨fun q hq => ?_, fun q hq x hx => ?_, fun a b q q' x x' hab ha hb hx hx' => ?_, ?_, fun d hd => ?_⟩
  · rcases List.mem_append.mp hq with z | z
    · exact w.ring q z
    · have : q = r := by simpa using z
      rw [this]; exact hr
  · rcases List.mem_append.mp hq with z | z
    · have := w.hdl q z x hx
      exact ⟨by omega, this.2⟩
    · have e : q = r := by simpa using z
      subst e
      rw [pa.hd] at hx
      cases hx
      exact ⟨by omega, least⟩
  · have bl := (List.getElem?_eq_some_iff.mp hb).1
    rw [List.length_append, List.length_singleton] at bl
    rw [List.getElem?_append_left (by omega)] at ha
    by_cases z : b < rs.length
    · rw [List.getElem?_append_left z] at hb
      exact w.asc a b q q' x x' hab ha hb hx hx'
    · have eb : b = rs.length := by omega
      subst eb
      rw [List.getElem?_append_right (Nat.le_refl _), Nat.sub_self] at hb
      have e : r = q' := Option.some.inj hb
      subst e
      rw [pa.hd] at hx'
      cases hx'
      exact (w.hdl q (List.mem_of_getElem? ha) x hx).1
  · rw [List.flatten_append]
    have e : [r].flatten = r := by simp
    rw [e]
    refine List.nodup_append.mpr ⟨w.nd, hr.nd, fun a ha b hb e => ?_⟩
    obtain ⟨k, hk⟩ := List.mem_iff_getElem?.mp hb
    exact apart k b hk (e ▸ ha)
  · rw [List.flatten_append, List.mem_append]
    by_cases z : d = i
    · right
      rw [z]
      simp
      exact List.mem_of_getElem? pa.hd
    · exact .inl (w.all d (by omega))
theorem flat_nd {rs : List (List Nat)} (nd : rs.flatten.Nodup) {a b : Nat} {r r' : List Nat} {d : Nat} (ha : rs[a]? = some r) (hb : rs[b]? = some r') (h1 : d ∈ r) (h2 : d ∈ r') : a = b := by
  induction rs generalizing a b with
  | nil => cases ha
  | cons q rs ih =>
    rw [List.flatten_cons] at nd
    obtain ⟨_, n2, n3⟩ := List.nodup_append.mp nd
    cases a with
    | zero =>
      cases b with
      | zero => rfl
      | succ b =>
        have e : q = r := Option.some.inj ha
        subst e
        exact absurd rfl (n3 d h1 d (List.mem_flatten.mpr ⟨r', List.mem_of_getElem? hb, h2⟩))
    | succ a =>
      cases b with
      | zero =>
        have e : q = r' := Option.some.inj hb
        subst e
        exact absurd rfl (n3 d h2 d (List.mem_flatten.mpr ⟨r, List.mem_of_getElem? ha, h1⟩))
      | succ b => exact congrArg Nat.succ (ih n2 ha hb)
end K8

namespace K8
/-! rings as chains -/
def chain (f : Nat → Nat) : Nat → List Nat → Nat → Prop
  | x, [], z => f x = z
  | x, y :: l, z => f x = y ∧ chain f y l z
theorem chain_split {f : Nat → Nat} : ∀ {x : Nat} {l : List Nat} {y : Nat} {k : List Nat} {z : Nat}, chain f x (l ++ y :: k) z ↔ chain f x l y ∧ chain f y k z
  | x, [], y, k, z => Iff.rfl
  | x, a :: l, y, k, z => by
    show (f x = a ∧ chain f a (l ++ y :: k) z) ↔ (f x = a ∧ chain f a l y) ∧ chain f y k z
    rw [chain_split, and_assoc]
theorem chain_to {f g : Nat → Nat} : ∀ {x y : Nat} {l : List Nat} {z : Nat}, chain f x l z → g y = f x → (∀ t ∈ l, g t = f t) → chain g y l z
  | x, y, [], z, h, e, _ => e.trans h
  | x, y, a :: l, z, h, e, k => ⟨e.trans h.1, chain_to h.2 (k a (List.mem_cons_self ..)) fun t ht => k t (List.mem_cons_of_mem _ ht)⟩
theorem chain_map {f g F : Nat → Nat} : ∀ {x : Nat} {l : List Nat} {z : Nat}, chain f x l z → (∀ t ∈ x :: l, g (F t) = F (f t)) → chain g (F x) (l.map F) (F z)
  | x, [], z, h, k => by
    show g (F x) = F z
    rw [k x (List.mem_cons_self ..), show f x = z from h]
  | x, a :: l, z, h, k => ⟨by rw [k x (List.mem_cons_self ..), h.1], chain_map h.2 fun t ht => k t (List.mem_cons_of_mem _ ht)⟩
/-- a set that f keeps to holds all of a chain, and its end -/
theorem chain_all {f : Nat → Nat} {S : Nat → Prop} : ∀ {x : Nat} {l : List Nat} {z : Nat}, chain f x l z → (∀ t ∈ x :: l, S t → S (f t)) → S x → S z ∧ ∀ t ∈ l, S t
  | x, [], z, h, k, s => ⟨by have := k x (List.mem_cons_self ..) s; rwa [show f x = z from h] at this, fun t ht => nomatch ht⟩
  | x, a :: l, z, h, k, s => by
    have s1 : S a := by have := k x (List.mem_cons_self ..) s; rwa [h.1] at this
    obtain ⟨h1, h2⟩ := chain_all h.2 (fun t ht => k t (List.mem_cons_of_mem _ ht)) s1
    refine ⟨h1, fun t ht => ?_⟩
    rcases List.mem_cons.mp ht with y | y
    · rw [y]; exact s1
    · exact h2 t y
structure CR (f : Nat → Nat) (N : Nat) (r : List Nat) : Prop where
  ch : ∃ x l, r = x :: l ∧ chain f x l x
  lt : ∀ d ∈ r, d < N
  nd : r.Nodup
theorem CR.closed {f : Nat → Nat} {N : Nat} {r : List Nat} (h : CR f N r) : ∀ d ∈ r, f d ∈ r := by
  obtain ⟨x, l, rfl, c⟩ := h.ch
  intro d hd
  rcases List.mem_cons.mp hd with y | y
  · subst y
    cases l with
    | nil => rw [show f d = d from c]; exact List.mem_cons_self ..
    | cons a l => rw [c.1]; simp
  · obtain ⟨A, B, rfl⟩ := List.append_of_mem y
    have c2 := (chain_split.mp c).2
    cases B with
    | nil => rw [show f d = x from c2]; exact List.mem_cons_self ..
    | cons a B => rw [c2.1]; simp
theorem CR.sub {f : Nat → Nat} {N : Nat} {r : List Nat} {S : Nat → Prop} (h : CR f N r) (k : ∀ t ∈ r, S t → S (f t)) {d : Nat} (hd : d ∈ r) (s : S d) : ∀ t ∈ r, S t := by
  obtain ⟨x, l, rfl, c⟩ := h.ch
  have fromx : S x → ∀ t ∈ x :: l, S t := fun sx t ht => by
    rcases List.mem_cons.mp ht with y | y
    · rw [y]; exact sx
    · exact (chain_all c k sx).2 t y
  rcases List.mem_cons.mp hd with y | y
  · exact fromx (y ▸ s)
  · obtain ⟨A, B, rfl⟩ := List.append_of_mem y
    have c2 := (chain_split.mp c).2
    exact fromx (chain_all c2 (fun t ht => k t (by simp only [List.mem_cons, List.mem_append] at ht ⊢; rcases ht with z | z <;> simp [z])) s).1
theorem CR.same {f : Nat → Nat} {N : Nat} {r r' : List Nat} (h : CR f N r) (h' : CR f N r') {d : Nat} (h1 : d ∈ r) (h2 : d ∈ r') : ∀ t ∈ r, t ∈ r' := h.sub (S := fun t => t ∈ r') (fun t _ => h'.closed t) h1 h2
theorem CR.ne {f : Nat → Nat} {N : Nat} {r : List Nat} (h : CR f N r) : ∃ d, d ∈ r := by
  obtain ⟨x, l, rfl, _⟩ := h.ch
  exact ⟨x, List.mem_cons_self ..⟩
structure Part (f : Nat → Nat) (N : Nat) (rs : List (List Nat)) : Prop where
  cr : ∀ r ∈ rs, CR f N r
  nd : rs.flatten.Nodup
  all : ∀ d, d < N → d ∈ rs.flatten
theorem Part.pick {f : Nat → Nat} {N : Nat} {rs : List (List Nat)} (p : Part f N rs) {r : List Nat} (h : CR f N r) : ∃ rest, Part f N (r :: rest) ∧ rest.length + 1 = rs.length := by
  obtain ⟨d, hd⟩ := h.ne
  obtain ⟨r0, m1, m2⟩ := List.mem_flatten.mp (p.all d (h.lt d hd))
  have c0 := p.cr r0 m1
  have s1 := h.same c0 hd m2
  have s2 := c0.same h m2 hd
  obtain ⟨A, B, rfl⟩ := List.append_of_mem m1
  have nd := p.nd
  rw [List.flatten_append, List.flatten_cons] at nd
  obtain ⟨n1, n2, n3⟩ := List.nodup_append.mp nd
  obtain ⟨n4, n5, n6⟩ := List.nodup_append.mp n2
  refine ⟨A ++ B, ⟨fun q hq => ?_, ?_, fun y hy => ?_⟩, by simp; omega⟩
  · rcases List.mem_cons.mp hq with z | z
    · rw [z]; exact h
    · refine p.cr q ?_
      rcases List.mem_append.mp z with z | z
      · simp [z]
      · simp [z]
  · rw [List.flatten_cons, List.flatten_append]
    refine List.nodup_append.mpr ⟨h.nd, List.nodup_append.mpr ⟨n1, n5, fun a ha b hb => n3 a ha b (by simp [hb])⟩, fun a ha b hb => ?_⟩
    rcases List.mem_append.mp hb with z | z
    · exact fun e => n3 b z a (List.mem_append_left _ (s1 a ha)) e.symm
    · exact n6 a (s1 a ha) b z
  · have := p.all y hy
    rw [List.flatten_append, List.flatten_cons] at this
    rw [List.flatten_cons, List.flatten_append]
    simp only [List.mem_append] at this ⊢
    rcases this with z | z | z
    · exact .inr (.inl z)
    · exact .inl (s2 y z)
    · exact .inr (.inr z)
theorem Part.same : ∀ {rs qs : List (List Nat)} {f : Nat → Nat} {N : Nat}, Part f N rs → Part f N qs → rs.length = qs.length := by
  have le : ∀ (k : Nat) {rs qs : List (List Nat)} {f : Nat → Nat} {N : Nat}, Part f N rs → Part f N qs → rs.length ≤ qs.length := by
    intro _ rs qs f N p q
    -- each ring of rs is a ring of qs, by its first dart
    have g : ∀ r ∈ rs, ∃ i, i < qs.length ∧ ∃ r', qs[i]? = some r' ∧ ∀ t ∈ r', t ∈ r := fun r hr => by
      have c := p.cr r hr
      obtain ⟨d, hd⟩ := c.ne
      obtain ⟨r', m1, m2⟩ := List.mem_flatten.mp (q.all d (c.lt d hd))
      obtain ⟨i, hi⟩ := List.mem_iff_getElem?.mp m1
      exact ⟨i, (List.getElem?_eq_some_iff.mp hi).1, r', hi, (q.cr r' m1).same c m2 hd⟩
    have : ∀ (l : List (List Nat)), (∀ r ∈ l, r ∈ rs) → l.flatten.Nodup → ∃ is : List Nat, is.length = l.length ∧ is.Nodup ∧ ∀ i ∈ is, i < qs.length ∧ ∃ r ∈ l, ∃ r', qs[i]? = some r' ∧ ∀ t ∈ r', t ∈ r := fun l => by
      induction l with
      | nil => intro _ _; exact ⟨[], rfl, List.nodup_nil, fun i hi => nomatch hi⟩
      | cons r l ih =>
        intro h nd
        rw [List.flatten_cons] at nd
        obtain ⟨n1, n2, n3⟩ := List.nodup_append.mp nd
        obtain ⟨is, e1, e2, e3⟩ := ih (fun r hr => h r (List.mem_cons_of_mem _ hr)) n2
        obtain ⟨i, h1, r', h2, h3⟩ := g r (h r (List.mem_cons_self ..))
        refine ⟨i :: is, by simp [e1], List.nodup_cons.mpr ⟨fun z => ?_, e2⟩, fun j hj => ?_⟩
        · obtain ⟨_, r2, m2, r3, m3, m4⟩ := e3 i z
          rw [h2] at m3
          cases m3
          obtain ⟨d, hd⟩ := (q.cr r' (List.mem_of_getElem? h2)).ne
          exact n3 d (h3 d hd) d (List.mem_flatten.mpr ⟨r2, m2, m4 d hd⟩) rfl
        · rcases List.mem_cons.mp hj with z | z
          · subst z; exact ⟨h1, r, List.mem_cons_self .., r', h2, h3⟩
          · obtain ⟨k1, r2, k2, k3⟩ := e3 j z
            exact ⟨k1, r2, List.mem_cons_of_mem _ k2, k3⟩
    obtain ⟨is, e1, e2, e3⟩ := this rs (fun _ h => h) p.nd
    rw [← e1]
    exact len_le e2 fun i hi => (e3 i hi).1
  intro rs qs f N p q
  exact Nat.le_antisymm (le 0 p q) (le 0 q p)
/-- a ring by its numbers is a ring by its chain -/
theorem Ring.cr {f : Nat → Nat} {N : Nat} {r : List Nat} (h : Ring f N r) : CR f N r := by
  refine ⟨?_, h.lt, h.nd⟩
  have ne := h.ne
  match r, h, ne with
  | x :: l, h, _ =>
    refine ⟨x, l, rfl, ?_⟩
    have key : ∀ (k i : Nat) (y : Nat), i + k + 1 = (x :: l).length → (x :: l)[i]? = some y → chain f y ((x :: l).drop (i + 1)) x := fun k => by
      induction k with
      | zero =>
        intro i y hi hy
        have e := h.nx i y hy
        rw [show (i + 1) % (x :: l).length = 0 by rw [← hi]; simp] at e
        rw [List.drop_of_length_le (by omega)]
        exact (Option.some.inj e).symm
      | succ k ih =>
        intro i y hi hy
        have e := h.nx i y hy
        rw [Nat.mod_eq_of_lt (by omega)] at e
        obtain ⟨hl, e2⟩ := List.getElem?_eq_some_iff.mp e
        rw [List.drop_eq_getElem_cons hl, e2]
        exact ⟨rfl, ih (i + 1) (f y) (by omega) e⟩
    exact key l.length 0 x (by simp) rfl
theorem Rounds.part {f : Nat → Nat} {N : Nat} {rs : List (List Nat)} (w : Rounds f N N rs) : Part f N rs := ⟨fun r hr => (w.ring r hr).cr, w.nd, w.all⟩
end K8
namespace K8
theorem idx_split {A B : List Nat} {t : Nat} (h : t ∉ A) : (A ++ t :: B).idxOf t = A.length := by
  rw [List.idxOf_append, if_neg h, List.idxOf_cons_self, Nat.zero_add]
theorem nxt_split {A B : List Nat} {t : Nat} (h : t ∉ A) : nxt (A ++ t :: B) t = ((B ++ (A ++ t :: B)).head?).getD 0 := by
  unfold nxt
  rw [idx_split h]
  cases B with
  | nil =>
    have e : (A.length + 1) % (A ++ [t]).length = 0 := by rw [List.length_append, List.length_singleton, Nat.mod_self]
    rw [e, List.nil_append, List.head?_eq_getElem?]
  | cons b B =>
    have e : (A.length + 1) % (A ++ t :: b :: B).length = A.length + 1 := Nat.mod_eq_of_lt (by simp)
    rw [e, List.getElem?_append_right (by omega)]
    rw [show A.length + 1 - A.length = 1 by omega]
    rfl
theorem ins_split {A B : List Nat} {u n : Nat} (h : u ∉ A) : ins (A ++ u :: B) ((A ++ u :: B).idxOf u + 1) n = A ++ u :: n :: B := by
  rw [idx_split h]
  unfold ins
  have e1 : (A ++ u :: B).take (A.length + 1) = A ++ [u] := by
    rw [List.take_append, List.take_of_length_le (by omega), show A.length + 1 - A.length = 1 by omega]
    rfl
  have e2 : (A ++ u :: B).drop (A.length + 1) = B := by simp
  rw [e1, e2]
  simp
theorem split_at {l : List Nat} {u : Nat} (h : u ∈ l) : ∃ A B, l = A ++ u :: B ∧ u ∉ A := by
  induction l with
  | nil => exact nomatch h
  | cons a l ih =>
    by_cases z : a = u
    · subst z; exact ⟨[], l, rfl, List.not_mem_nil⟩
    · rcases List.mem_cons.mp h with y | y
      · exact absurd y.symm z
      · obtain ⟨A, B, rfl, k⟩ := ih y
        exact ⟨a :: A, B, rfl, fun w => by rcases List.mem_cons.mp w with w | w; exact z w.symm; exact k w⟩
theorem nxt_ins {l : List Nat} {u n : Nat} (hu : u ∈ l) (hn : n ∉ l) :
    nxt (ins l (l.idxOf u + 1) n) u = n ∧ nxt (ins l (l.idxOf u + 1) n) n = nxt l u ∧ ∀ t ∈ l, t ≠ u → nxt (ins l (l.idxOf u + 1) n) t = nxt l t := by
  obtain ⟨A, B, rfl, k⟩ := split_at hu
  rw [ins_split k]
  have hnA : n ∉ A := fun z => hn (by simp [z])
  have hnu : n ≠ u := fun z => hn (by simp [z])
  refine ⟨?_, ?_, fun t ht htu => ?_⟩
  · rw [nxt_split k]; rfl
  · have e : A ++ u :: n :: B = (A ++ [u]) ++ n :: B := by simp
    rw [e, nxt_split (fun z => by rcases List.mem_append.mp z with z | z; exact hnA z; exact hnu (by simpa using z)), nxt_split k]
    cases B <;> cases A <;> rfl
  · rcases List.mem_append.mp ht with z | z
    · obtain ⟨A1, A2, rfl, k2⟩ := split_at z
      have e1 : (A1 ++ t :: A2) ++ u :: n :: B = A1 ++ t :: (A2 ++ u :: n :: B) := by simp
      have e2 : (A1 ++ t :: A2) ++ u :: B = A1 ++ t :: (A2 ++ u :: B) := by simp
      rw [e1, e2, nxt_split k2, nxt_split k2]
      cases A2 <;> rfl
    · have z' : t ∈ B := by
        rcases List.mem_cons.mp z with z | z
        · exact absurd z htu
        · exact z
      by_cases tA : t ∈ A
      · obtain ⟨A1, A2, rfl, k2⟩ := split_at tA
        have e1 : (A1 ++ t :: A2) ++ u :: n :: B = A1 ++ t :: (A2 ++ u :: n :: B) := by simp
        have e2 : (A1 ++ t :: A2) ++ u :: B = A1 ++ t :: (A2 ++ u :: B) := by simp
        rw [e1, e2, nxt_split k2, nxt_split k2]
        cases A2 <;> rfl
      · obtain ⟨B1, B2, rfl, k2⟩ := split_at z'
        have tn : t ≠ n := fun y => hn (by rw [← y]; simp)
        have e1 : A ++ u :: n :: (B1 ++ t :: B2) = (A ++ u :: n :: B1) ++ t :: B2 := by simp
        have e2 : A ++ u :: (B1 ++ t :: B2) = (A ++ u :: B1) ++ t :: B2 := by simp
        rw [e1, e2, nxt_split (by simp [tA, htu, tn, k2]), nxt_split (by simp [tA, htu, k2])]
        cases B2 <;> cases A <;> rfl
/-! ### growing -/
theorem leave_old {es : En} {e : Nat × Nat} {t p : Nat} (h : t < es.length) : leave (es ++ [e]) t p = leave es t p := by
  unfold leave
  rw [List.getElem?_append_left h]
theorem leave_new {es : En} {e : Nat × Nat} {p : Nat} : leave (es ++ [e]) es.length p = if e.1 = p then 2 * es.length else 2 * es.length + 1 := by
  unfold leave
  rw [List.getElem?_append_right (Nat.le_refl _), Nat.sub_self]
  rfl
theorem hd_old {es : En} {e : Nat × Nat} {d : Nat} (h : d < 2 * es.length) : hd (es ++ [e]) d = hd es d := by
  unfold hd
  rw [List.getElem?_append_left (by omega)]
theorem hd_new {es : En} {e : Nat × Nat} : hd (es ++ [e]) (2 * es.length) = e.2 ∧ hd (es ++ [e]) (2 * es.length + 1) = e.1 := by
  have e1 : 2 * es.length / 2 = es.length := by omega
  have e2 : (2 * es.length + 1) / 2 = es.length := by omega
  constructor
  · unfold hd
    rw [e1, List.getElem?_append_right (Nat.le_refl _), Nat.sub_self]
    show (if 2 * es.length % 2 = 0 then e.2 else e.1) = _
    rw [if_pos (by omega)]
  · unfold hd
    rw [e2, List.getElem?_append_right (Nat.le_refl _), Nat.sub_self]
    show (if (2 * es.length + 1) % 2 = 0 then e.2 else e.1) = _
    rw [if_neg (by omega)]
theorem hd_inj {m : Nat} {es : En} {ts : List (List Nat)} (w : Turn0 m es ts) {a b : Nat} (ha : a < 2 * es.length) (hb : b < 2 * es.length) (h : hd es a = hd es b) (h2 : a / 2 = b / 2) : a = b := by
  obtain ⟨e1, _, r1, r2, _⟩ := w.at ha
  obtain ⟨e2, _, s1, s2, _⟩ := w.at hb
  rw [h2, s1] at r1
  cases r1
  have hne := (w.ends e1 (List.mem_of_getElem? s1)).2.2
  rw [r2, s2] at h
  by_cases z1 : a % 2 = 0 <;> by_cases z2 : b % 2 = 0
  · omega
  · rw [if_pos z1, if_neg z2] at h; exact absurd h.symm hne
  · rw [if_neg z1, if_pos z2] at h; exact absurd h hne
  · omega
/-- the new dart from p, and the other one -/
def dFrom (n : Nat) (e : Nat × Nat) (p : Nat) : Nat := if e.1 = p then 2 * n else 2 * n + 1
theorem fol_row {es : En} {ts : List (List Nat)} {d : Nat} {l : List Nat} (h : ts[hd es d]? = some l) : fol es ts d = leave es (nxt l (d / 2)) (hd es d) := by
  unfold fol
  rw [h]
  rfl
end K8
namespace K8
theorem Turn0.flip {m : Nat} {es : En} {ts : List (List Nat)} {a b : Nat} (w : Turn0 m (es ++ [(a, b)]) ts) : Turn0 m (es ++ [(b, a)]) ts := by
  have key : ∀ (x y : Nat) (t p : Nat), (∃ e, (es ++ [(x, y)])[t]? = some e ∧ (e.1 = p ∨ e.2 = p)) → ∃ e, (es ++ [(y, x)])[t]? = some e ∧ (e.1 = p ∨ e.2 = p) := fun x y t p => by
    rintro ⟨e, h1, h2⟩
    by_cases z : t < es.length
    · rw [List.getElem?_append_left z] at h1
      exact ⟨e, by rw [List.getElem?_append_left z]; exact h1, h2⟩
    · have hl := (List.getElem?_eq_some_iff.mp h1).1
      rw [List.length_append, List.length_singleton] at hl
      have z' : t = es.length := by omega
      subst z'
      rw [List.getElem?_append_right (Nat.le_refl _), Nat.sub_self] at h1
      cases h1
      exact ⟨(y, x), by rw [List.getElem?_append_right (Nat.le_refl _), Nat.sub_self]; rfl, h2.symm⟩
  refine ⟨w.len, fun e he => ?_, w.nd, fun p l h t => ⟨fun z => key a b t p ((w.mem p l h t).mp z), fun z => (w.mem p l h t).mpr (key b a t p z)⟩⟩
  rcases List.mem_append.mp he with z | z
  · exact w.ends e (List.mem_append_left _ z)
  · have : e = (b, a) := by simpa using z
    subst this
    obtain ⟨h1, h2, h3⟩ := w.ends (a, b) (by simp)
    exact ⟨h2, h1, fun y => h3 y.symm⟩
theorem Turn0.room {m : Nat} {es : En} {ts : List (List Nat)} (w : Turn0 m es ts) : Turn0 (m + 1) es (ts ++ [[]]) := by
  refine ⟨by rw [List.length_append, w.len]; rfl, fun e he => ?_, fun p l h => ?_, fun p l h t => ?_⟩
  · obtain ⟨h1, h2, h3⟩ := w.ends e he
    exact ⟨by omega, by omega, h3⟩
  all_goals by_cases z : p < ts.length
  · rw [List.getElem?_append_left z] at h
    exact w.nd p l h
  · have hl := (List.getElem?_eq_some_iff.mp h).1
    rw [List.length_append, List.length_singleton] at hl
    have z' : p = ts.length := by omega
    subst z'
    rw [List.getElem?_append_right (Nat.le_refl _), Nat.sub_self] at h
    cases h
    exact List.nodup_nil
  · rw [List.getElem?_append_left z] at h
    exact w.mem p l h t
  · have hl := (List.getElem?_eq_some_iff.mp h).1
    rw [List.length_append, List.length_singleton] at hl
    have z' : p = ts.length := by omega
    subst z'
    rw [List.getElem?_append_right (Nat.le_refl _), Nat.sub_self] at h
    cases h
    refine ⟨(fun y => nomatch y), ?_⟩
    rintro ⟨e, h1, h2⟩
    obtain ⟨k1, k2, _⟩ := w.ends e (List.mem_of_getElem? h1)
    have := w.len
    omega
theorem ends_of {m : Nat} {es : En} {ts : List (List Nat)} (w : Turn0 m es ts) {p : Nat} {l : List Nat} (h : ts[p]? = some l) : es.length ∉ l := fun z => by
  obtain ⟨x, hx, _⟩ := (w.mem p l h es.length).mp z
  have := (List.getElem?_eq_some_iff.mp hx).1
  omega
/-- what the new tie does to a row that has it behind u -/
theorem fol_put {m : Nat} {es : En} {ts ts' : List (List Nat)} {e : Nat × Nat} {p u : Nat} {l : List Nat} (w : Turn0 m es ts) (hl : ts[p]? = some l) (hu : u < 2 * es.length) (hp : hd es u = p) (hl' : ts'[p]? = some (ins l (l.idxOf (u / 2) + 1) es.length)) :
    fol (es ++ [e]) ts' u = dFrom es.length e p ∧ (∀ b, b / 2 = es.length → hd (es ++ [e]) b = p → fol (es ++ [e]) ts' b = fol es ts u) ∧ ∀ d, d < 2 * es.length → d ≠ u → hd es d = p → fol (es ++ [e]) ts' d = fol es ts d := by
  obtain ⟨_, l0, _, _, _, _, g5, g6⟩ := w.at hu
  rw [hp, hl] at g5
  cases g5
  have nn := ends_of w hl
  obtain ⟨n1, n2, n3⟩ := nxt_ins g6 nn
  have lt : ∀ t ∈ l, nxt l t < es.length := fun t ht => by
    obtain ⟨x, hx, _⟩ := (w.mem p l hl (nxt l t)).mp (List.mem_of_getElem? (nxt_get ht))
    exact (List.getElem?_eq_some_iff.mp hx).1
  refine ⟨?_, fun b hb hpb => ?_, fun d hd' hne hpd => ?_⟩
  · rw [fol_row (l := ins l (l.idxOf (u / 2) + 1) es.length) (by rw [hd_old hu, hp]; exact hl'), n1, hd_old hu, hp, leave_new]
    rfl
  · rw [fol_row (l := ins l (l.idxOf (u / 2) + 1) es.length) (by rw [hpb]; exact hl'), hb, n2, hpb, leave_old (lt _ g6), fol_row (l := l) (by rw [hp]; exact hl), hp]
  · obtain ⟨_, l0, _, _, _, _, k5, k6⟩ := w.at hd'
    rw [hpd, hl] at k5
    cases k5
    have tne : d / 2 ≠ u / 2 := fun z => hne (hd_inj w hd' hu (hpd.trans hp.symm) z)
    rw [fol_row (l := ins l (l.idxOf (u / 2) + 1) es.length) (by rw [hd_old hd', hpd]; exact hl'), n3 _ k6 tne, hd_old hd', hpd, leave_old (lt _ k6), fol_row (l := l) (by rw [hpd]; exact hl), hpd]
theorem fol_else {m : Nat} {es : En} {ts ts' : List (List Nat)} {e : Nat × Nat} (w : Turn0 m es ts) {d : Nat} (hd' : d < 2 * es.length) (h : ts'[hd es d]? = ts[hd es d]?) : fol (es ++ [e]) ts' d = fol es ts d := by
  obtain ⟨_, l, _, _, _, _, k5, k6⟩ := w.at hd'
  have lt : nxt l (d / 2) < es.length := by
    obtain ⟨x, hx, _⟩ := (w.mem _ l k5 (nxt l (d / 2))).mp (List.mem_of_getElem? (nxt_get k6))
    exact (List.getElem?_eq_some_iff.mp hx).1
  rw [fol_row (l := l) (by rw [hd_old hd', h]; exact k5), hd_old hd', leave_old lt, fol_row k5]
theorem dFrom_half (n : Nat) (e : Nat × Nat) (p : Nat) : dFrom n e p / 2 = n := by
  unfold dFrom
  split <;> omega
theorem dFrom_hd {es : En} {one two : Nat} {e : Nat × Nat} (hne : one ≠ two) (he : e = (one, two) ∨ e = (two, one)) : hd (es ++ [e]) (dFrom es.length e one) = two ∧ hd (es ++ [e]) (dFrom es.length e two) = one ∧ dFrom es.length e one ≠ dFrom es.length e two ∧ ∀ d, d < 2 * (es.length + 1) → d < 2 * es.length ∨ d = dFrom es.length e one ∨ d = dFrom es.length e two := by
  obtain ⟨h1, h2⟩ := hd_new (es := es) (e := e)
  unfold dFrom
  rcases he with he | he
  · have c1 : e.1 = one := by rw [he]
    have c2 : ¬ e.1 = two := by rw [he]; exact hne
    have c3 : e.2 = two := by rw [he]
    rw [if_pos c1, if_neg c2, h1, h2]
    exact ⟨c3, c1, by omega, fun d hd => by omega⟩
  · have c1 : e.1 = two := by rw [he]
    have c2 : ¬ e.1 = one := by rw [he]; exact fun z => hne z.symm
    have c3 : e.2 = one := by rw [he]
    rw [if_pos c1, if_neg c2, h1, h2]
    exact ⟨c1, c3, by omega, fun d hd => by omega⟩
/-- a web that lies flat, in one piece -/
structure Gr (m : Nat) (es : En) (ts : List (List Nat)) : Prop where
  w : Turn0 m es ts
  part : ∃ rs, Part (fol es ts) (2 * es.length) rs ∧ m + rs.length = es.length + 2
  conn : ∀ S : Nat → Prop, (∀ e ∈ es, S e.1 ↔ S e.2) → ∀ p q, p < m → q < m → S p → S q
theorem CR.mono {f g : Nat → Nat} {N M : Nat} {r : List Nat} (h : CR f N r) (hN : N ≤ M) (k : ∀ t ∈ r, g t = f t) : CR g M r := by
  obtain ⟨x, l, rfl, c⟩ := h.ch
  exact ⟨⟨x, l, rfl, chain_to c (k x (List.mem_cons_self ..)) fun t ht => k t (List.mem_cons_of_mem _ ht)⟩, fun d hd => Nat.lt_of_lt_of_le (h.lt d hd) hN, h.nd⟩
theorem conn_put {m : Nat} {es : En} {e : Nat × Nat} (c : ∀ S : Nat → Prop, (∀ e ∈ es, S e.1 ↔ S e.2) → ∀ p q, p < m → q < m → S p → S q) : ∀ S : Nat → Prop, (∀ x ∈ es ++ [e], S x.1 ↔ S x.2) → ∀ p q, p < m → q < m → S p → S q :=
  fun S h => c S fun x hx => h x (List.mem_append_left _ hx)
theorem Gr.join {m : Nat} {es : En} {ts : List (List Nat)} (g : Gr m es ts) {left right one two : Nat} {e : Nat × Nat} {l l' tail : List Nat} (hl : left < 2 * es.length) (hr : CR (fol es ts) (2 * es.length) (left :: tail)) (hch : chain (fol es ts) left tail left) (hm : right ∈ left :: tail)
    (h1 : hd es left = one) (h2 : hd es right = two) (hne : one ≠ two) (he : e = (one, two) ∨ e = (two, one)) (e1 : ts[one]? = some l) (e2 : ts[two]? = some l') :
    Gr m (es ++ [e]) ((ts.set one (ins l (l.idxOf (left / 2) + 1) es.length)).set two (ins l' (l'.idxOf (right / 2) + 1) es.length)) := by
  have w := g.w
  have hrt : right < 2 * es.length := hr.lt right hm
  have hlen := w.len
  have o1 : one < m := by rw [← hlen]; exact (List.getElem?_eq_some_iff.mp e1).1
  have o2 : two < m := by rw [← hlen]; exact (List.getElem?_eq_some_iff.mp e2).1
  have W : Turn0 m (es ++ [e]) ((ts.set one (ins l (l.idxOf (left / 2) + 1) es.length)).set two (ins l' (l'.idxOf (right / 2) + 1) es.length)) := by
    rcases he with rfl | rfl
    · exact w.put o1 o2 hne e1 e2
    · exact (w.put o1 o2 hne e1 e2).flip
  have r1 : ((ts.set one (ins l (l.idxOf (left / 2) + 1) es.length)).set two (ins l' (l'.idxOf (right / 2) + 1) es.length))[one]? = some (ins l (l.idxOf (left / 2) + 1) es.length) := by
    rw [List.getElem?_set, if_neg (fun z => hne z.symm), List.getElem?_set, if_pos rfl, if_pos (by rw [hlen]; exact o1)]
  have r2 : ((ts.set one (ins l (l.idxOf (left / 2) + 1) es.length)).set two (ins l' (l'.idxOf (right / 2) + 1) es.length))[two]? = some (ins l' (l'.idxOf (right / 2) + 1) es.length) := by
    rw [List.getElem?_set, if_pos rfl, if_pos (by rw [List.length_set, hlen]; exact o2)]
  have r3 : ∀ p, p ≠ one → p ≠ two → ((ts.set one (ins l (l.idxOf (left / 2) + 1) es.length)).set two (ins l' (l'.idxOf (right / 2) + 1) es.length))[p]? = ts[p]? := fun p n1 n2 => by
    rw [List.getElem?_set, if_neg (fun z => n2 z.symm), List.getElem?_set, if_neg (fun z => n1 z.symm)]
  generalize (ts.set one (ins l (l.idxOf (left / 2) + 1) es.length)).set two (ins l' (l'.idxOf (right / 2) + 1) es.length) = ts' at W r1 r2 r3
  obtain ⟨a1, a2, a3⟩ := fol_put (e := e) w e1 hl h1 r1
  obtain ⟨b1, b2, b3⟩ := fol_put (e := e) w e2 hrt h2 r2
  obtain ⟨d1, d2, d3, d4⟩ := dFrom_hd (es := es) hne he
  have fa := b2 _ (dFrom_half _ _ _) d1
  have fb := a2 _ (dFrom_half _ _ _) d2
  have els : ∀ d, d < 2 * es.length → d ≠ left → d ≠ right → fol (es ++ [e]) ts' d = fol es ts d := fun d hd' n1 n2 => by
    by_cases z1 : hd es d = one
    · exact a3 d hd' n1 z1
    · by_cases z2 : hd es d = two
      · exact b3 d hd' n2 z2
      · exact fol_else w hd' (r3 _ z1 z2)
  generalize ha : dFrom es.length e one = α at *
  generalize hb : dFrom es.length e two = β at *
  have hα : α / 2 = es.length := by rw [← ha]; exact dFrom_half _ _ _
  have hβ : β / 2 = es.length := by rw [← hb]; exact dFrom_half _ _ _
  have hlr : right ≠ left := fun z => hne (by rw [← h1, ← h2, z])
  have hm' : right ∈ tail := by
    rcases List.mem_cons.mp hm with z | z
    · exact absurd z hlr
    · exact z
  obtain ⟨xs, ys, rfl⟩ := List.append_of_mem hm'
  obtain ⟨c1, c2⟩ := chain_split.mp hch
  have nd := hr.nd
  have ltx : ∀ t ∈ xs, t < 2 * es.length ∧ t ≠ left ∧ t ≠ right := fun t ht => by
    refine ⟨hr.lt t (by simp [ht]), fun z => ?_, fun z => ?_⟩
    · subst z; exact (List.nodup_cons.mp nd).1 (by simp [ht])
    · subst z
      have := (List.nodup_append.mp (List.nodup_cons.mp nd).2).2.2 t ht t (by simp)
      exact this rfl
  have lty : ∀ t ∈ ys, t < 2 * es.length ∧ t ≠ left ∧ t ≠ right := fun t ht => by
    refine ⟨hr.lt t (by simp [ht]), fun z => ?_, fun z => ?_⟩
    · subst z; exact (List.nodup_cons.mp nd).1 (by simp [ht])
    · subst z
      exact (List.nodup_cons.mp (List.nodup_append.mp (List.nodup_cons.mp nd).2).2.1).1 ht
  obtain ⟨rs, p, cnt⟩ := g.part
  obtain ⟨rest, pr, cnt2⟩ := p.pick hr
  have ndr := pr.nd
  rw [List.flatten_cons] at ndr
  obtain ⟨_, nd2, nd3⟩ := List.nodup_append.mp ndr
  have ltr : ∀ t ∈ rest.flatten, t < 2 * es.length ∧ t ≠ left ∧ t ≠ right := fun t ht => by
    obtain ⟨q, q1, q2⟩ := List.mem_flatten.mp ht
    exact ⟨(pr.cr q (List.mem_cons_of_mem _ q1)).lt t q2, fun z => nd3 left (by simp) t ht z.symm, fun z => nd3 right (by simp) t ht z.symm⟩
  have hlen2 : (es ++ [e]).length = es.length + 1 := by rw [List.length_append]; rfl
  refine ⟨W, ⟨(left :: α :: ys) :: (right :: β :: xs) :: rest, ⟨fun q hq => ?_, ?_, fun d hd' => ?_⟩, by rw [hlen2]; simp only [List.length_cons] at cnt2 ⊢; omega⟩, conn_put g.conn⟩
  · rcases List.mem_cons.mp hq with z | z
    · subst z
      refine ⟨⟨left, α :: ys, rfl, a1, chain_to c2 fa fun t ht => els t (lty t ht).1 (lty t ht).2.1 (lty t ht).2.2⟩, fun d hd' => ?_, ?_⟩
      · rw [hlen2]
        simp only [List.mem_cons] at hd'
        rcases hd' with y | y | y
        · omega
        · omega
        · have := (lty d y).1; omega
      · refine List.nodup_cons.mpr ⟨fun y => ?_, List.nodup_cons.mpr ⟨fun y => ?_, ?_⟩⟩
        · rcases List.mem_cons.mp y with y | y
          · omega
          · exact (lty _ y).2.1 rfl
        · have := (lty _ y).1; omega
        · exact (List.nodup_cons.mp (List.nodup_append.mp (List.nodup_cons.mp nd).2).2.1).2
    · rcases List.mem_cons.mp z with z | z
      · subst z
        refine ⟨⟨right, β :: xs, rfl, b1, chain_to c1 fb fun t ht => els t (ltx t ht).1 (ltx t ht).2.1 (ltx t ht).2.2⟩, fun d hd' => ?_, ?_⟩
        · rw [hlen2]
          simp only [List.mem_cons] at hd'
          rcases hd' with y | y | y
          · omega
          · omega
          · have := (ltx d y).1; omega
        · refine List.nodup_cons.mpr ⟨fun y => ?_, List.nodup_cons.mpr ⟨fun y => ?_, ?_⟩⟩
          · rcases List.mem_cons.mp y with y | y
            · omega
            · exact (ltx _ y).2.2 rfl
          · have := (ltx _ y).1; omega
          · exact (List.nodup_append.mp (List.nodup_cons.mp nd).2).1
      · refine (pr.cr q (List.mem_cons_of_mem _ z)).mono (by rw [hlen2]; omega) fun t ht => ?_
        obtain ⟨k1, k2, k3⟩ := ltr t (List.mem_flatten.mpr ⟨q, z, ht⟩)
        exact els t k1 k2 k3
  · have dis : ∀ x ∈ xs, ∀ y ∈ ys, x ≠ y := fun x hx y hy => (List.nodup_append.mp (List.nodup_cons.mp nd).2).2.2 x hx y (by simp [hy])
    rw [List.flatten_cons, List.flatten_cons]
    refine List.nodup_append.mpr ⟨?_, List.nodup_append.mpr ⟨?_, nd2, fun a ha b hb => ?_⟩, fun a ha b hb => ?_⟩
    · refine List.nodup_cons.mpr ⟨fun y => ?_, List.nodup_cons.mpr ⟨fun y => ?_, (List.nodup_cons.mp (List.nodup_append.mp (List.nodup_cons.mp nd).2).2.1).2⟩⟩
      · rcases List.mem_cons.mp y with y | y
        · omega
        · exact (lty _ y).2.1 rfl
      · have := (lty _ y).1; omega
    · refine List.nodup_cons.mpr ⟨fun y => ?_, List.nodup_cons.mpr ⟨fun y => ?_, (List.nodup_append.mp (List.nodup_cons.mp nd).2).1⟩⟩
      · rcases List.mem_cons.mp y with y | y
        · omega
        · exact (ltx _ y).2.2 rfl
      · have := (ltx _ y).1; omega
    · obtain ⟨k1, k2, k3⟩ := ltr b hb
      simp only [List.mem_cons] at ha
      rcases ha with y | y | y
      · exact fun z => k3 (z ▸ y)
      · omega
      · exact nd3 a (by simp [y]) b hb
    · simp only [List.mem_cons, List.mem_append] at ha hb
      rcases hb with (y | y | y) | y
      · rcases ha with z | z | z
        · exact fun u => hlr (by rw [← y, ← u, z])
        · have := hrt; omega
        · exact fun u => (lty a z).2.2 (u.trans y)
      · rcases ha with z | z | z
        · omega
        · omega
        · have := (lty a z).1; omega
      · rcases ha with z | z | z
        · exact fun u => (ltx b y).2.1 (u ▸ z)
        · have := (ltx b y).1; omega
        · exact fun u => dis b y a z u.symm
      · obtain ⟨k1, k2, k3⟩ := ltr b y
        rcases ha with z | z | z
        · exact fun u => k2 (u ▸ z)
        · omega
        · exact nd3 a (by simp [z]) b y
  · rw [hlen2] at hd'
    simp only [List.flatten_cons, List.mem_append, List.mem_cons]
    rcases d4 d hd' with y | y | y
    · have := pr.all d y
      simp only [List.flatten_cons, List.mem_append, List.mem_cons] at this
      rcases this with (z | z | z | z) | z
      · exact .inl (.inl z)
      · exact .inr (.inl (.inr (.inr z)))
      · exact .inr (.inl (.inl z))
      · exact .inl (.inr (.inr z))
      · exact .inr (.inr z)
    · exact .inl (.inr (.inl y))
    · exact .inr (.inl (.inr (.inl y)))
end K8
namespace K8
theorem Gr.leaf {m : Nat} {es : En} {ts : List (List Nat)} (g : Gr m es ts) {left one : Nat} {e : Nat × Nat} {l tail : List Nat} (hl : left < 2 * es.length) (hr : CR (fol es ts) (2 * es.length) (left :: tail)) (hch : chain (fol es ts) left tail left)
    (h1 : hd es left = one) (he : e = (one, m) ∨ e = (m, one)) (e1 : ts[one]? = some l) :
    Gr (m + 1) (es ++ [e]) (ts.set one (ins l (l.idxOf (left / 2) + 1) es.length) ++ [[es.length]]) := by
  have w := g.w
  have hlen := w.len
  have o1 : one < m := by rw [← hlen]; exact (List.getElem?_eq_some_iff.mp e1).1
  have hne : one ≠ m := by omega
  have W : Turn0 (m + 1) (es ++ [e]) (ts.set one (ins l (l.idxOf (left / 2) + 1) es.length) ++ [[es.length]]) := by
    have q := w.room.put (one := one) (two := m) (k := l.idxOf (left / 2) + 1) (j := 0) (l := l) (l' := []) (by omega) (by omega) hne (by rw [List.getElem?_append_left (by omega)]; exact e1) (by rw [List.getElem?_append_right (by omega), hlen, Nat.sub_self]; rfl)
    have q2 : ((ts ++ [[]]).set one (ins l (l.idxOf (left / 2) + 1) es.length)).set m (ins [] 0 es.length) = ts.set one (ins l (l.idxOf (left / 2) + 1) es.length) ++ [[es.length]] := by
      rw [List.set_append_left _ _ (by omega), List.set_append_right _ _ (by rw [List.length_set]; omega), List.length_set, hlen, Nat.sub_self]
      rfl
    rw [q2] at q
    rcases he with rfl | rfl
    · exact q
    · exact q.flip
  have r1 : (ts.set one (ins l (l.idxOf (left / 2) + 1) es.length) ++ [[es.length]])[one]? = some (ins l (l.idxOf (left / 2) + 1) es.length) := by
    rw [List.getElem?_append_left (by rw [List.length_set]; omega), List.getElem?_set, if_pos rfl, if_pos (by omega)]
  have r2 : (ts.set one (ins l (l.idxOf (left / 2) + 1) es.length) ++ [[es.length]])[m]? = some [es.length] := by
    rw [List.getElem?_append_right (by rw [List.length_set]; omega), List.length_set, hlen, Nat.sub_self]
    rfl
  have r3 : ∀ p, p ≠ one → p < m → (ts.set one (ins l (l.idxOf (left / 2) + 1) es.length) ++ [[es.length]])[p]? = ts[p]? := fun p n1 n2 => by
    rw [List.getElem?_append_left (by rw [List.length_set]; omega), List.getElem?_set, if_neg (fun z => n1 z.symm)]
  generalize ts.set one (ins l (l.idxOf (left / 2) + 1) es.length) ++ [[es.length]] = ts' at W r1 r2 r3
  obtain ⟨a1, a2, a3⟩ := fol_put (e := e) w e1 hl h1 r1
  obtain ⟨d1, d2, d3, d4⟩ := dFrom_hd (es := es) hne he
  have fb := a2 _ (dFrom_half _ _ _) d2
  have fa : fol (es ++ [e]) ts' (dFrom es.length e one) = dFrom es.length e m := by
    rw [fol_row (l := [es.length]) (by rw [d1]; exact r2), dFrom_half, d1]
    have : nxt [es.length] es.length = es.length := by
      unfold nxt
      rw [List.idxOf_cons_self]
      simp
    rw [this, leave_new]
    rfl
  have els : ∀ d, d < 2 * es.length → d ≠ left → fol (es ++ [e]) ts' d = fol es ts d := fun d hd' n1 => by
    by_cases z1 : hd es d = one
    · exact a3 d hd' n1 z1
    · obtain ⟨_, _, _, _, _, k4, _⟩ := w.at hd'
      exact fol_else w hd' (r3 _ z1 k4)
  generalize ha : dFrom es.length e one = α at *
  generalize hb : dFrom es.length e m = β at *
  have hα : α / 2 = es.length := by rw [← ha]; exact dFrom_half _ _ _
  have hβ : β / 2 = es.length := by rw [← hb]; exact dFrom_half _ _ _
  have nd := hr.nd
  have ltt : ∀ t ∈ tail, t < 2 * es.length ∧ t ≠ left := fun t ht => ⟨hr.lt t (by simp [ht]), fun z => (List.nodup_cons.mp nd).1 (z ▸ ht)⟩
  obtain ⟨rs, p, cnt⟩ := g.part
  obtain ⟨rest, pr, cnt2⟩ := p.pick hr
  have ndr := pr.nd
  rw [List.flatten_cons] at ndr
  obtain ⟨_, nd2, nd3⟩ := List.nodup_append.mp ndr
  have ltr : ∀ t ∈ rest.flatten, t < 2 * es.length ∧ t ≠ left := fun t ht => by
    obtain ⟨q, q1, q2⟩ := List.mem_flatten.mp ht
    exact ⟨(pr.cr q (List.mem_cons_of_mem _ q1)).lt t q2, fun z => nd3 left (by simp) t ht z.symm⟩
  have hlen2 : (es ++ [e]).length = es.length + 1 := by rw [List.length_append]; rfl
  have nd4 : (left :: α :: β :: tail).Nodup := by
    refine List.nodup_cons.mpr ⟨fun y => ?_, List.nodup_cons.mpr ⟨fun y => ?_, List.nodup_cons.mpr ⟨fun y => ?_, (List.nodup_cons.mp nd).2⟩⟩⟩
    · simp only [List.mem_cons] at y
      rcases y with y | y | y
      · omega
      · omega
      · exact (ltt _ y).2 rfl
    · simp only [List.mem_cons] at y
      rcases y with y | y
      · exact d3 y
      · have := (ltt _ y).1; omega
    · have := (ltt _ y).1; omega
  refine ⟨W, ⟨(left :: α :: β :: tail) :: rest, ⟨fun q hq => ?_, ?_, fun d hd' => ?_⟩, by rw [hlen2]; simp only [List.length_cons] at cnt2 ⊢; omega⟩, fun S hS x y hx hy sx => ?_⟩
  · rcases List.mem_cons.mp hq with z | z
    · subst z
      refine ⟨⟨left, α :: β :: tail, rfl, a1, fa, chain_to hch fb fun t ht => els t (ltt t ht).1 (ltt t ht).2⟩, fun d hd' => ?_, nd4⟩
      rw [hlen2]
      simp only [List.mem_cons] at hd'
      rcases hd' with y | y | y | y
      · omega
      · omega
      · omega
      · have := (ltt d y).1; omega
    · refine (pr.cr q (List.mem_cons_of_mem _ z)).mono (by rw [hlen2]; omega) fun t ht => ?_
      obtain ⟨k1, k2⟩ := ltr t (List.mem_flatten.mpr ⟨q, z, ht⟩)
      exact els t k1 k2
  · rw [List.flatten_cons]
    refine List.nodup_append.mpr ⟨nd4, nd2, fun a ha b hb => ?_⟩
    obtain ⟨k1, k2⟩ := ltr b hb
    simp only [List.mem_cons] at ha
    rcases ha with y | y | y | y
    · exact fun u => k2 (u ▸ y)
    · omega
    · omega
    · exact nd3 a (by simp [y]) b hb
  · rw [hlen2] at hd'
    simp only [List.flatten_cons, List.mem_append, List.mem_cons]
    rcases d4 d hd' with y | y | y
    · have := pr.all d y
      simp only [List.flatten_cons, List.mem_append, List.mem_cons] at this
      rcases this with (z | z) | z
      · exact .inl (.inl z)
      · exact .inl (.inr (.inr (.inr z)))
      · exact .inr z
    · exact .inl (.inr (.inl y))
    · exact .inl (.inr (.inr (.inl y)))
  · -- in one piece
    have hSe : S one ↔ S m := by
      have := hS e (by simp)
      rcases he with rfl | rfl
      · exact this
      · exact this.symm
    have old := g.conn S fun x hx => hS x (List.mem_append_left _ hx)
    have toOne : S one := by
      by_cases z : x < m
      · exact old x one z o1 sx
      · have : x = m := by omega
        subst this
        exact hSe.mpr sx
    by_cases z : y < m
    · exact old one y o1 z toOne
    · have : y = m := by omega
      subst this
      exact hSe.mp toOne
theorem gr_two : Gr 2 [(0, 1)] [[0], [0]] := by
  have W : Turn0 2 [(0, 1)] [[0], [0]] := by
    refine ⟨rfl, fun e he => ?_, fun p l h => ?_, fun p l h t => ?_⟩
    · have : e = (0, 1) := by simpa using he
      subst this
      exact ⟨by decide, by decide, by decide⟩
    · match p, h with
      | 0, h => cases h; decide
      | 1, h => cases h; decide
      | p + 2, h => cases h
    · have key : (∃ e, ([(0, 1)] : En)[t]? = some e ∧ (e.1 = p ∨ e.2 = p)) ↔ t = 0 ∧ (p = 0 ∨ p = 1) := by
        constructor
        · rintro ⟨e, h1, h2⟩
          match t, h1 with
          | 0, h1 => cases h1; exact ⟨rfl, h2.imp Eq.symm Eq.symm⟩
          | t + 1, h1 => cases h1
        · rintro ⟨rfl, h2⟩
          exact ⟨(0, 1), rfl, h2.imp Eq.symm Eq.symm⟩
      rw [key]
      match p, h with
      | 0, h => cases h; simp
      | 1, h => cases h; simp
      | p + 2, h => cases h
  refine ⟨W, ⟨[[0, 1]], ⟨fun r hr => ?_, by decide, fun d hd => ?_⟩, rfl⟩, fun S hS p q hp hq sp => ?_⟩
  · have : r = [0, 1] := by simpa using hr
    subst this
    exact ⟨⟨0, [1], rfl, by decide, (by show fol [(0, 1)] [[0], [0]] 1 = 0; decide)⟩, fun d hd => by simp at hd ⊢; omega, by decide⟩
  · have hd2 : d < 2 := hd
    simp
    omega
  · have := hS (0, 1) (by simp)
    have h01 : S 0 ↔ S 1 := this
    have hp' : p = 0 ∨ p = 1 := by omega
    have hq' : q = 0 ∨ q = 1 := by omega
    rcases hp' with rfl | rfl <;> rcases hq' with rfl | rfl
    · exact sp
    · exact h01.mp sp
    · exact h01.mpr sp
    · exact sp
end K8
namespace K8
/-! ### numbered anew -/
structure Bij (F : Nat → Nat) (n : Nat) : Prop where
  lt : ∀ k, k < n → F k < n
  inj : ∀ a b, a < n → b < n → F a = F b → a = b
  sur : ∀ y, y < n → ∃ k, k < n ∧ F k = y
def ofL (o : List Nat) (k : Nat) : Nat := (o[k]?).getD 0
theorem bij_list {o : List Nat} {n : Nat} (hl : o.length = n) (nd : o.Nodup) (h : ∀ x ∈ o, x < n) : Bij (ofL o) n := by
  have get : ∀ k, k < n → o[k]? = some (ofL o k) := fun k hk => by
    unfold ofL
    rw [List.getElem?_eq_getElem (by omega)]
    rfl
  refine ⟨fun k hk => h _ (List.mem_of_getElem? (get k hk)), fun a b ha hb e => nd_inj nd (get a ha) (by rw [get b hb, e]), fun y hy => ?_⟩
  have hm : y ∈ o := by
    by_cases z : y ∈ o
    · exact z
    · have := len_le (a := y :: o) (N := n) (List.nodup_cons.mpr ⟨z, nd⟩) fun x hx => by
        rcases List.mem_cons.mp hx with u | u
        · omega
        · exact h x u
      rw [List.length_cons] at this
      omega
  obtain ⟨k, hk⟩ := List.mem_iff_getElem?.mp hm
  have hkl := (List.getElem?_eq_some_iff.mp hk).1
  refine ⟨k, by omega, ?_⟩
  have := get k (by omega)
  rw [hk] at this
  exact (Option.some.inj this).symm
theorem nd_map {F : Nat → Nat} : ∀ {l : List Nat}, l.Nodup → (∀ x ∈ l, ∀ y ∈ l, F x = F y → x = y) → (l.map F).Nodup
  | [], _, _ => List.nodup_nil
  | a :: l, nd, h => by
    obtain ⟨n1, n2⟩ := List.nodup_cons.mp nd
    refine List.nodup_cons.mpr ⟨fun z => ?_, nd_map n2 fun x hx y hy => h x (List.mem_cons_of_mem _ hx) y (List.mem_cons_of_mem _ hy)⟩
    obtain ⟨x, hx, e⟩ := List.mem_map.mp z
    have := h x (List.mem_cons_of_mem _ hx) a (List.mem_cons_self ..) e
    exact n1 (this ▸ hx)
theorem nxt_map {F : Nat → Nat} {l : List Nat} {t : Nat} (ht : t ∈ l) (h : ∀ x ∈ l, F x = F t → x = t) : nxt (l.map F) (F t) = F (nxt l t) := by
  obtain ⟨A, B, rfl, k⟩ := split_at ht
  have k2 : F t ∉ A.map F := fun z => by
    obtain ⟨x, hx, e⟩ := List.mem_map.mp z
    exact k (h x (by simp [hx]) e ▸ hx)
  rw [List.map_append, List.map_cons, nxt_split k2, nxt_split k]
  cases B <;> cases A <;> rfl
theorem nxt_rot {X Y : List Nat} {t : Nat} (nd : (X ++ Y).Nodup) (ht : t ∈ X ++ Y) : nxt (Y ++ X) t = nxt (X ++ Y) t := by
  obtain ⟨n1, n2, n3⟩ := List.nodup_append.mp nd
  rcases List.mem_append.mp ht with z | z
  · have tY : t ∉ Y := fun y => n3 t z t y rfl
    obtain ⟨A, B, rfl, k⟩ := split_at z
    have e1 : Y ++ (A ++ t :: B) = (Y ++ A) ++ t :: B := by simp
    have e2 : (A ++ t :: B) ++ Y = A ++ t :: (B ++ Y) := by simp
    rw [e1, e2, nxt_split (by simp [tY, k]), nxt_split k]
    cases B <;> cases Y <;> cases A <;> rfl
  · have tX : t ∉ X := fun y => n3 t y t z rfl
    obtain ⟨A, B, rfl, k⟩ := split_at z
    have e1 : (A ++ t :: B) ++ X = A ++ t :: (B ++ X) := by simp
    have e2 : X ++ (A ++ t :: B) = (X ++ A) ++ t :: B := by simp
    rw [e1, e2, nxt_split k, nxt_split (by simp [tX, k])]
    cases B <;> cases X <;> cases A <;> rfl
/-- es2, ts2 are es, ts with other numbers, rows turned about -/
structure Ren (m : Nat) (es es2 : En) (ts ts2 : List (List Nat)) (π σ : Nat → Nat) : Prop where
  pi : Bij π m
  si : Bij σ es.length
  l1 : es2.length = es.length
  l2 : ts2.length = m
  es : ∀ (k : Nat) (e : Nat × Nat), es[k]? = some e → es2[σ k]? = some (π e.1, π e.2)
  ts : ∀ (p : Nat) (l : List Nat), ts[p]? = some l → ∃ X Y, l = X ++ Y ∧ ts2[π p]? = some ((Y ++ X).map σ)
section
variable {m : Nat} {es es2 : En} {ts ts2 : List (List Nat)} {π σ : Nat → Nat}
theorem Ren.es' (R : Ren m es es2 ts ts2 π σ) {j : Nat} {x : Nat × Nat} (h : es2[j]? = some x) : ∃ k e, σ k = j ∧ es[k]? = some e ∧ x = (π e.1, π e.2) := by
  have hj := (List.getElem?_eq_some_iff.mp h).1
  rw [R.l1] at hj
  obtain ⟨k, hk, rfl⟩ := R.si.sur j hj
  have e1 : es[k]? = some es[k] := List.getElem?_eq_getElem hk
  have := R.es k _ e1
  rw [h] at this
  exact ⟨k, _, rfl, e1, Option.some.inj this⟩
theorem Ren.ts' (R : Ren m es es2 ts ts2 π σ) (w : Turn0 m es ts) {j : Nat} {L : List Nat} (h : ts2[j]? = some L) : ∃ p l X Y, p < m ∧ π p = j ∧ ts[p]? = some l ∧ l = X ++ Y ∧ L = (Y ++ X).map σ := by
  have hj := (List.getElem?_eq_some_iff.mp h).1
  rw [R.l2] at hj
  obtain ⟨p, hp, rfl⟩ := R.pi.sur j hj
  have e1 : ts[p]? = some (ts[p]'(by rw [w.len]; exact hp)) := List.getElem?_eq_getElem _
  obtain ⟨X, Y, h1, h2⟩ := R.ts p _ e1
  rw [h] at h2
  exact ⟨p, _, X, Y, hp, rfl, e1, h1, Option.some.inj h2⟩
theorem mem_lt (w : Turn0 m es ts) {p : Nat} {l : List Nat} (h : ts[p]? = some l) {t : Nat} (ht : t ∈ l) : t < es.length := by
  obtain ⟨x, hx, _⟩ := (w.mem p l h t).mp ht
  exact (List.getElem?_eq_some_iff.mp hx).1
theorem Ren.turn (R : Ren m es es2 ts ts2 π σ) (w : Turn0 m es ts) : Turn0 m es2 ts2 := by
  refine ⟨R.l2, fun x hx => ?_, fun j L h => ?_, fun j L h t => ?_⟩
  · obtain ⟨j, hj⟩ := List.mem_iff_getElem?.mp hx
    obtain ⟨k, e, _, h1, rfl⟩ := R.es' hj
    obtain ⟨a1, a2, a3⟩ := w.ends e (List.mem_of_getElem? h1)
    exact ⟨R.pi.lt _ a1, R.pi.lt _ a2, fun z => a3 (R.pi.inj _ _ a1 a2 z)⟩
  · obtain ⟨p, l, X, Y, hp, rfl, h1, rfl, rfl⟩ := R.ts' w h
    have nd := w.nd p _ h1
    obtain ⟨n1, n2, n3⟩ := List.nodup_append.mp nd
    refine nd_map (List.nodup_append.mpr ⟨n2, n1, fun a ha b hb z => n3 b hb a ha z.symm⟩) fun x hx y hy => R.si.inj x y (mem_lt w h1 ?_) (mem_lt w h1 ?_)
    · simp only [List.mem_append] at hx ⊢; exact hx.symm
    · simp only [List.mem_append] at hy ⊢; exact hy.symm
  · obtain ⟨p, l, X, Y, hp, rfl, h1, rfl, rfl⟩ := R.ts' w h
    constructor
    · intro z
      obtain ⟨k, hk, rfl⟩ := List.mem_map.mp z
      obtain ⟨e, h2, h3⟩ := (w.mem p _ h1 k).mp (by simp only [List.mem_append] at hk ⊢; exact hk.symm)
      exact ⟨_, R.es k e h2, h3.imp (congrArg π) (congrArg π)⟩
    · rintro ⟨x, h2, h3⟩
      obtain ⟨k, e, rfl, h4, rfl⟩ := R.es' h2
      obtain ⟨a1, a2, a3⟩ := w.ends e (List.mem_of_getElem? h4)
      have hk := (w.mem p _ h1 k).mpr ⟨e, h4, h3.imp (R.pi.inj _ _ a1 hp) (R.pi.inj _ _ a2 hp)⟩
      exact List.mem_map.mpr ⟨k, by simp only [List.mem_append] at hk ⊢; exact hk.symm, rfl⟩
def Phi (σ : Nat → Nat) (d : Nat) : Nat := 2 * σ (d / 2) + d % 2
theorem Phi_half (d : Nat) : Phi σ d / 2 = σ (d / 2) := by unfold Phi; omega
theorem Ren.hd (R : Ren m es es2 ts ts2 π σ) {d : Nat} (hd' : d < 2 * es.length) : hd es2 (Phi σ d) = π (hd es d) := by
  have e1 : es[d / 2]? = some (es[d / 2]'(by omega)) := List.getElem?_eq_getElem _
  have e2 := R.es _ _ e1
  unfold K8.hd
  rw [Phi_half, e1, e2]
  have hm : Phi σ d % 2 = d % 2 := by unfold Phi; omega
  show (if Phi σ d % 2 = 0 then π es[d / 2].2 else π es[d / 2].1) = π (if d % 2 = 0 then es[d / 2].2 else es[d / 2].1)
  rw [hm]
  split <;> rfl
theorem Ren.fol (R : Ren m es es2 ts ts2 π σ) (w : Turn0 m es ts) {d : Nat} (hd' : d < 2 * es.length) : fol es2 ts2 (Phi σ d) = Phi σ (fol es ts d) := by
  obtain ⟨_, l, _, _, _, k4, k5, k6⟩ := w.at hd'
  obtain ⟨X, Y, rfl, h2⟩ := R.ts _ _ k5
  have nd := w.nd _ _ k5
  rw [fol_row (l := (Y ++ X).map σ) (by rw [R.hd hd']; exact h2), fol_row k5, Phi_half, R.hd hd']
  have k7 : d / 2 ∈ Y ++ X := by simp only [List.mem_append] at k6 ⊢; exact k6.symm
  rw [nxt_map k7 fun x hx => R.si.inj x _ (mem_lt w k5 (by simp only [List.mem_append] at hx ⊢; exact hx.symm)) (mem_lt w k5 k6), nxt_rot nd k6]
  have hn := List.mem_of_getElem? (nxt_get k6)
  have hlt := mem_lt w k5 hn
  generalize nxt (X ++ Y) (d / 2) = t at hlt
  have e1 : es[t]? = some es[t] := List.getElem?_eq_getElem hlt
  have a1 := (w.ends _ (List.mem_of_getElem? e1)).1
  unfold leave
  rw [R.es _ _ e1, e1]
  show (if π es[t].1 = π (K8.hd es d) then 2 * σ t else 2 * σ t + 1) = Phi σ (if es[t].1 = K8.hd es d then 2 * t else 2 * t + 1)
  by_cases z : es[t].1 = K8.hd es d
  · rw [if_pos z, if_pos (congrArg π z)]
    unfold Phi
    rw [show 2 * t / 2 = t by omega]
    omega
  · rw [if_neg z, if_neg (fun y => z (R.pi.inj _ _ a1 k4 y))]
    unfold Phi
    rw [show (2 * t + 1) / 2 = t by omega]
    omega
theorem Phi_inj (b : Bij σ es.length) {x y : Nat} (hx : x < 2 * es.length) (hy : y < 2 * es.length) (e : Phi σ x = Phi σ y) : x = y := by
  have e1 : σ (x / 2) = σ (y / 2) := by
    have h1 := Phi_half (σ := σ) x
    have h2 := Phi_half (σ := σ) y
    rw [e] at h1
    exact h1.symm.trans h2
  have := b.inj _ _ (by omega) (by omega) e1
  unfold Phi at e
  omega
theorem Ren.gr (R : Ren m es es2 ts ts2 π σ) (g : Gr m es ts) : Gr m es2 ts2 := by
  obtain ⟨rs, p, cnt⟩ := g.part
  have flt : ∀ d ∈ rs.flatten, d < 2 * es.length := fun d hd => by
    obtain ⟨r, h1, h2⟩ := List.mem_flatten.mp hd
    exact (p.cr r h1).lt d h2
  have hfl : (rs.map (List.map (Phi σ))).flatten = rs.flatten.map (Phi σ) := List.map_flatten.symm
  refine ⟨R.turn g.w, ⟨rs.map (List.map (Phi σ)), ⟨fun q hq => ?_, ?_, fun d hd => ?_⟩, by rw [List.length_map, R.l1]; exact cnt⟩, fun S hS x y hx hy sx => ?_⟩
  · obtain ⟨r, hr, rfl⟩ := List.mem_map.mp hq
    have c := p.cr r hr
    obtain ⟨x, l, rfl, ch⟩ := c.ch
    refine ⟨⟨Phi σ x, l.map (Phi σ), rfl, chain_map ch fun t ht => R.fol g.w (c.lt t ht)⟩, fun d hd => ?_, nd_map c.nd fun a ha b hb => Phi_inj R.si (c.lt a ha) (c.lt b hb)⟩
    obtain ⟨t, ht, rfl⟩ := List.mem_map.mp hd
    have h1 := c.lt t ht
    have h2 := R.si.lt (t / 2) (by omega)
    rw [R.l1]
    unfold Phi
    omega
  · rw [hfl]
    exact nd_map p.nd fun a ha b hb => Phi_inj R.si (flt a ha) (flt b hb)
  · rw [R.l1] at hd
    obtain ⟨k, hk, e⟩ := R.si.sur (d / 2) (by omega)
    rw [hfl]
    refine List.mem_map.mpr ⟨2 * k + d % 2, p.all _ (by omega), ?_⟩
    unfold Phi
    rw [show (2 * k + d % 2) / 2 = k by omega, e]
    omega
  · obtain ⟨x', hx', rfl⟩ := R.pi.sur x hx
    obtain ⟨y', hy', rfl⟩ := R.pi.sur y hy
    refine g.conn (fun p => S (π p)) (fun e he => ?_) x' y' hx' hy' sx
    obtain ⟨k, hk⟩ := List.mem_iff_getElem?.mp he
    exact hS (π e.1, π e.2) (List.mem_of_getElem? (R.es k e hk))
end
end K8

namespace K8
open PySem L2
local macro_rules | `(tactic| walk_at "cc") => `(tactic| first | exact ⟨by decide, by decide⟩ | (show (0 : Int) < _; decide) | (show (0 : Int) < _; omega) | (show (0 : Int) ≤ _; omega) | exact ⟨by decide, by decide, by decide⟩ | exact ⟨by omega, by omega, by decide⟩ | exact Or.inl ⟨by decide, by decide⟩ | exact Or.inl ⟨by omega, by omega⟩)
local macro_rules | `(tactic| walk_at "rd") => `(tactic| repeat (first | refine ⟨_, rfl, ?_⟩ | refine ⟨_, _, rfl, rfl, ?_⟩ | refine ⟨rfl, ?_⟩ | (refine ⟨?cc, ?_⟩; (case cc => walk_at "cc"))))

def top (i : Nat) : Stmt := PySem.Challenge.pw_spinfloor_k41_fronts.main.body.getD i (.Pass ⟨0, 0, 0, 0⟩)
abbrev s_head : Stmt := top 21
abbrev s_leaving : Stmt := top 22
abbrev s_follower : Stmt := top 23
abbrev s_round_from : Stmt := top 24
abbrev s_rounds_of : Stmt := top 25
abbrev s_sides_of : Stmt := top 26
abbrev s_Tie___init : Stmt := inClass (top 17) 0
abbrev s_ends_within : Stmt := top 11
abbrev s_order_of : Stmt := top 13
abbrev s_front_of : Stmt := top 14
abbrev s_fronts : Stmt := top 15
abbrev s_reached : Stmt := top 9
abbrev s_refuse_ends : Stmt := top 28
abbrev s_refuse_turns : Stmt := top 29
abbrev s_refuse_parted : Stmt := top 30
abbrev s_Web___init : Stmt := inClass (top 31) 0
abbrev s_law_cell : Stmt := top 33
abbrev s_law_head : Stmt := top 34
abbrev s_law_behind : Stmt := top 35
abbrev s_law_round : Stmt := top 36
abbrev s_law_grown : Stmt := top 37
abbrev s_law_order : Stmt := top 38
abbrev s_law_renumbered : Stmt := top 39
abbrev s_law_built : Stmt := top 40
abbrev s_law_web : Stmt := top 41
abbrev s_law_whole : Stmt := top 42
abbrev s_law_spoiled : Stmt := top 43
abbrev s_law_refused : Stmt := top 44
abbrev s_law_due : Stmt := top 45
abbrev s_law : Stmt := top 46
/-! a tie as it lies -/
def tf (a b s : Int) : List (Str × V) := putF "strength" (.int s) (putF "two" (.int b) (putF "one" (.int a) []))
theorem tf_one (a b s : Int) : (tf a b s).lookup ("one" : Str) = some (.int a) := by
  unfold tf
  rw [lookup_putF, if_neg (by decide +kernel), lookup_putF, if_neg (by decide +kernel), lookup_putF, if_pos rfl]
theorem tf_two (a b s : Int) : (tf a b s).lookup ("two" : Str) = some (.int b) := by
  unfold tf
  rw [lookup_putF, if_neg (by decide +kernel), lookup_putF, if_pos rfl]
theorem f1_len (a : Int) : (putF "one" (.int a) []).length < 1000 := by show 1 < 1000; decide
theorem f2_len (a b : Int) : (putF "two" (.int b) (putF "one" (.int a) [])).length < 1000 := by
  have e : (putF "two" (.int b) (putF "one" (.int a) []) : List (Str × V)) = ([("one", .int a), ("two", .int b)] : List (Str × V)) := by
    show (if ("one" : Str) = "two" then [(("one" : Str), V.int b)] else (("one" : Str), V.int a) :: putF "two" (V.int b) []) = _
    rw [if_neg (by decide +kernel)]
    all_goals rfl
  rw [e]
  show 2 < 1000
  decide
/-- what is asked of a class of ties -/
structure CT (K : PySem.W.Frag) (C : Addr) : Prop where
  cl : Cls K C
  n1 : NoAttr K C "one"
  n2 : NoAttr K C "two"
  n3 : NoAttr K C "strength"
def spInit (K : PySem.W.Frag) : Sp := fun vs H Q _ => ∃ (p C dx : Addr) (a b s : Int), vs = [.ref p, .int a, .int b, .int s] ∧ H p = some (.ins C dx []) ∧ CT K C ∧ a ≠ b ∧ 0 ≤ a ∧ 0 ≤ b ∧ 0 ≤ s ∧
  ∀ H', H' p = some (.ins C dx (tf a b s)) → (∀ q o, H q = some o → q ≠ p → H' q = some o) → Q .non H'

theorem same_new {H : Hp} {p : Addr} (h : H p = none) (o : HO) : Same H (upd H p o) := fun b u q => by rw [upd_ne (ne_of_none q h)]; exact q
theorem same_upd {H H2 : Hp} {l : Addr} (h : Same H H2) (hl : H l = none) (o : HO) : Same H (upd H2 l o) := fun b u q => by rw [upd_ne (ne_of_none q hl)]; exact h b u q
def iV (p : Nat) : V := .int (p : Int)
theorem iV_at {hs : List Nat} {k x : Nat} (h : hs[k]? = some x) : atI (hs.map iV) (k : Int) = some (iV x) := atI_nat (by rw [List.getElem?_map, h]; rfl)
def EndsAt (H : Hp) (ys : List V) (es : En) : Prop := ys.length = es.length ∧ ∀ (i : Nat) (e : Nat × Nat), es[i]? = some e → ∃ p, ys[i]? = some (.ref p) ∧ H p = some (.tup [iV e.1, iV e.2])
theorem EndsAt.mono {H H' : Hp} {ys : List V} {es : En} (h : EndsAt H ys es) (s : Same H H') : EndsAt H' ys es := ⟨h.1, fun i e q => by
  obtain ⟨p, a, b⟩ := h.2 i e q
  exact ⟨p, a, s _ _ b⟩⟩
def TiesAt (K : PySem.W.Frag) (H : Hp) (xs : List V) (es : En) : Prop := xs.length = es.length ∧ ∀ (i : Nat) (e : Nat × Nat), es[i]? = some e → ∃ p C dx s, xs[i]? = some (.ref p) ∧ H p = some (.ins C dx (tf (e.1 : Int) (e.2 : Int) s)) ∧ CT K C
theorem TiesAt.mono {K : PySem.W.Frag} {H H' : Hp} {xs : List V} {es : En} (t : TiesAt K H xs es) (h : Same H H') : TiesAt K H' xs es := ⟨t.1, fun i e q => by
  obtain ⟨p, C, dx, s, a, b, d⟩ := t.2 i e q
  exact ⟨p, C, dx, s, a, h _ _ b, d⟩⟩
def RowsAt (H : Hp) (xs : List V) (ts : List (List Nat)) : Prop := xs.length = ts.length ∧ ∀ (i : Nat) (l : List Nat), ts[i]? = some l → ∃ p, xs[i]? = some (.ref p) ∧ H p = some (.lst (l.map iV))
theorem RowsAt.mono {H H' : Hp} {xs : List V} {ts : List (List Nat)} (h : RowsAt H xs ts) (s : Same H H') : RowsAt H' xs ts := ⟨h.1, fun i e q => by
  obtain ⟨p, a, b⟩ := h.2 i e q
  exact ⟨p, a, s _ _ b⟩⟩
theorem RowsAt.snoc {H : Hp} {xs : List V} {ts : List (List Nat)} {q : Addr} {l : List Nat} (h : RowsAt H xs ts) (e : H q = some (.lst (l.map iV))) : RowsAt H (xs ++ [.ref q]) (ts ++ [l]) := by
  refine ⟨by rw [List.length_append, List.length_append, h.1]; rfl, fun j k ej => ?_⟩
  by_cases hj : j < ts.length
  · rw [List.getElem?_append_left hj] at ej
    obtain ⟨p, a1, a2⟩ := h.2 j k ej
    exact ⟨p, by rw [List.getElem?_append_left (by rw [h.1]; exact hj)]; exact a1, a2⟩
  · rw [List.getElem?_append_right (by omega)] at ej
    have hj2 : j = ts.length := by
      have := (List.getElem?_eq_some_iff.mp ej).1
      rw [List.length_singleton] at this
      omega
    subst hj2
    rw [Nat.sub_self] at ej
    cases ej
    exact ⟨q, by rw [← h.1, List.getElem?_append_right (Nat.le_refl _), Nat.sub_self]; rfl, e⟩
/-- rows apart from some places -/
def RowsX (S : Addr → Prop) (H : Hp) (xs : List V) (ts : List (List Nat)) : Prop := xs.length = ts.length ∧ ∀ (i : Nat) (l : List Nat), ts[i]? = some l → ∃ p, xs[i]? = some (.ref p) ∧ ¬ S p ∧ H p = some (.lst (l.map iV))
theorem RowsX.mono {S : Addr → Prop} {H H' : Hp} {xs : List V} {ts : List (List Nat)} (h : RowsX S H xs ts) (s : ∀ b u, ¬ S b → H b = some u → H' b = some u) : RowsX S H' xs ts := ⟨h.1, fun i e q => by
  obtain ⟨p, a, n, b⟩ := h.2 i e q
  exact ⟨p, a, n, s _ _ n b⟩⟩
theorem RowsX.off {S : Addr → Prop} {H : Hp} {xs : List V} {ts : List (List Nat)} (h : RowsX S H xs ts) : RowsAt H xs ts := ⟨h.1, fun i e q => by
  obtain ⟨p, a, n, b⟩ := h.2 i e q
  exact ⟨p, a, b⟩⟩
theorem RowsX.snoc {S : Addr → Prop} {H : Hp} {xs : List V} {ts : List (List Nat)} {q : Addr} {l : List Nat} (h : RowsX S H xs ts) (n : ¬ S q) (e : H q = some (.lst (l.map iV))) : RowsX S H (xs ++ [.ref q]) (ts ++ [l]) := by
  refine ⟨by rw [List.length_append, List.length_append, h.1]; rfl, fun j k ej => ?_⟩
  by_cases hj : j < ts.length
  · rw [List.getElem?_append_left hj] at ej
    obtain ⟨p, a1, a2⟩ := h.2 j k ej
    exact ⟨p, by rw [List.getElem?_append_left (by rw [h.1]; exact hj)]; exact a1, a2⟩
  · rw [List.getElem?_append_right (by omega)] at ej
    have hj2 : j = ts.length := by
      have := (List.getElem?_eq_some_iff.mp ej).1
      rw [List.length_singleton] at this
      omega
    subst hj2
    rw [Nat.sub_self] at ej
    cases ej
    exact ⟨q, by rw [← h.1, List.getElem?_append_right (Nat.le_refl _), Nat.sub_self]; rfl, n, e⟩
theorem flat_len {f : Nat → Nat} {N i : Nat} {rs : List (List Nat)} (w : Rounds f N i rs) : rs.flatten.length ≤ N := len_le w.nd fun x hx => by
  obtain ⟨r, h1, h2⟩ := List.mem_flatten.mp hx
  exact (w.ring r h1).lt x h2
theorem rows_len {f : Nat → Nat} {N i : Nat} {rs : List (List Nat)} (w : Rounds f N i rs) : rs.length ≤ N := by
  have h : ∀ (l : List (List Nat)), (∀ r ∈ l, 0 < r.length) → l.length ≤ l.flatten.length := fun l => by
    induction l with
    | nil => intro _; exact Nat.le_refl _
    | cons a l ih =>
      intro h
      rw [List.flatten_cons, List.length_append, List.length_cons]
      have h1 := h a (List.mem_cons_self ..)
      have h2 := ih fun r hr => h r (List.mem_cons_of_mem _ hr)
      omega
  exact Nat.le_trans (h rs fun r hr => (w.ring r hr).ne) (flat_len w)
/-- ties and turns as they are handed on -/
structure TT (K : PySem.W.Frag) (H : Hp) (a b : Addr) (m : Nat) (es : En) (ts : List (List Nat)) : Prop where
  xs : ∃ xs, SqL K H a xs ∧ TiesAt K H xs es
  ys : ∃ ys, SqL K H b ys ∧ RowsAt H ys ts
  w : Turn0 m es ts
  few : es.length ≤ 62
theorem TT.mono {K : PySem.W.Frag} {H H' : Hp} {a b : Addr} {m : Nat} {es : En} {ts : List (List Nat)} (t : TT K H a b m es ts) (s : Same H H') : TT K H' a b m es ts := by
  obtain ⟨⟨xs, h1, h2⟩, ⟨ys, h3, h4⟩, w, f⟩ := t
  exact ⟨⟨xs, s.seq h1, h2.mono s⟩, ⟨ys, s.seq h3, h4.mono s⟩, w, f⟩
theorem turn_small {m : Nat} {es : En} {ts : List (List Nat)} (w : Turn0 m es ts) (f : es.length ≤ 62) {p : Nat} {l : List Nat} (h : ts[p]? = some l) : (∀ t ∈ l, t < 62) ∧ l.length ≤ 62 := by
  have a : ∀ t ∈ l, t < es.length := fun t ht => by
    obtain ⟨e, he, _⟩ := (w.mem p l h t).mp ht
    exact (List.getElem?_eq_some_iff.mp he).1
  exact ⟨fun t ht => by have := a t ht; omega, Nat.le_trans (len_le (w.nd p l h) a) f⟩
theorem perm {m : Nat} {es : En} {ts : List (List Nat)} (w : Turn0 m es ts) : Perm1 (fol es ts) (2 * es.length) := ⟨fun d h => by
  obtain ⟨_, _, _, _, _, _, _, _, z, _⟩ := w.foll h
  exact z, fun a b ha hb h => w.inj ha hb h⟩
def spHead (K : PySem.W.Frag) : Sp := fun vs H Q _ => ∃ (a : Addr) (xs : List V) (es : En) (d : Nat), vs = [.ref a, .int (d : Int)] ∧ SqL K H a xs ∧ TiesAt K H xs es ∧ d < 2 * es.length ∧ Q (iV (hd es d)) H
def spLeav (K : PySem.W.Frag) : Sp := fun vs H Q _ => ∃ (a : Addr) (xs : List V) (es : En) (t p : Nat) (e : Nat × Nat), vs = [.ref a, .int (t : Int), .int (p : Int)] ∧ SqL K H a xs ∧ TiesAt K H xs es ∧ es[t]? = some e ∧ Q (iV (if e.1 = p then 2 * t else 2 * t + 1)) H
def spFol (K : PySem.W.Frag) : Sp := fun vs H Q _ => ∃ (a b : Addr) (m : Nat) (es : En) (ts : List (List Nat)) (d : Nat), vs = [.ref a, .ref b, .int (d : Int)] ∧ TT K H a b m es ts ∧ d < 2 * es.length ∧ Q (iV (fol es ts d)) H
def spFrom (K : PySem.W.Frag) : Sp := fun vs H Q _ => ∃ (a b : Addr) (m : Nat) (es : En) (ts : List (List Nat)) (d : Nat), vs = [.ref a, .ref b, .int (d : Int)] ∧ TT K H a b m es ts ∧ d < 2 * es.length ∧
  ∀ q r H', Same H H' → H q = none → H' q = some (.lst (r.map iV)) → Path (fol es ts) (2 * es.length) d r → Ring (fol es ts) (2 * es.length) r → Q (.ref q) H'
def spRounds (K : PySem.W.Frag) : Sp := fun vs H Q _ => ∃ (a b : Addr) (m : Nat) (es : En) (ts : List (List Nat)), vs = [.ref a, .ref b] ∧ TT K H a b m es ts ∧
  ∀ q ys rs H', Same H H' → H' q = some (.lst ys) → RowsAt H' ys rs → Rounds (fol es ts) (2 * es.length) (2 * es.length) rs → Q (.ref q) H'
def SidesAt (H : Hp) (ys : List V) (n : Nat) (rs : List (List Nat)) : Prop := ys.length = n ∧ ∀ i, i < n → ∃ p a b r r', ys[i]? = some (.ref p) ∧ H p = some (.tup [iV a, iV b]) ∧ rs[a]? = some r ∧ 2 * i ∈ r ∧ rs[b]? = some r' ∧ 2 * i + 1 ∈ r'
def spSides (K : PySem.W.Frag) : Sp := fun vs H Q _ => ∃ (a b : Addr) (xs ys : List V) (es : En) (f : Nat → Nat) (rs : List (List Nat)), vs = [.ref a, .ref b] ∧ SqL K H a xs ∧ TiesAt K H xs es ∧ es.length ≤ 62 ∧ SqL K H b ys ∧ RowsAt H ys rs ∧ Rounds f (2 * es.length) (2 * es.length) rs ∧
  ∀ q zs H', Same H H' → H' q = some (.lst zs) → SidesAt H' zs es.length rs → Q (.ref q) H'
def cellD (ns : List Int) (k : Nat) : Int := ns.getD k 0
def spCell (K : PySem.W.Frag) : Sp := fun vs H Q _ => ∃ (a : Addr) (k : Nat) (ns : List Int), vs = [.ref a, .int (k : Int)] ∧ SqL K H a (ns.map V.int) ∧ Q (.int (cellD ns k)) H
def spBehind (K : PySem.W.Frag) : Sp := fun vs H Q _ => ∃ (a b : Addr) (ys xs : List V) (m : Nat) (es : En) (ts : List (List Nat)) (d : Nat), vs = [.ref a, .ref b, .int (d : Int)] ∧ SqL K H a ys ∧ EndsAt H ys es ∧ SqL K H b xs ∧ RowsAt H xs ts ∧ Turn0 m es ts ∧ es.length ≤ 62 ∧ d < 2 * es.length ∧ Q (iV (fol es ts d)) H
def spNum : Sp := fun vs H Q _ => ∃ i : Int, vs = [.int i] ∧ Q (.bl true) H
def spLaw (K : PySem.W.Frag) : Sp := fun vs H Q _ => ∃ (a : Addr) (ns : List Int), vs = [.ref a] ∧ SqL K H a (ns.map V.int) ∧ ns.length ≤ 63 ∧ ∀ H', Q (.bl true) H'
structure Txt (mg : Str → Option Value) : Prop where
  n_max : mg "max" = none
  n_len : mg "len" = none
  n_int : mg "int" = none
  n_bool : mg "bool" = none
  n_list : mg "list" = none
  n_tuple : mg "tuple" = none
  n_range : mg "range" = none
  n_enumerate : mg "enumerate" = none
  n_isinstance : mg "isinstance" = none
  n_min : mg "min" = none
  n_sum : mg "sum" = none
  n_sorted : mg "sorted" = none
section
variable {P : Program} {w : World} {K : PySem.W.Frag} {mg : Str → Option Value} {base : Heap}
theorem sc_head : FnScope ["ties", "dart", "tie"] ["ties", "dart"] (defScope s_head) := ⟨rfl, rfl, rfl, by decide +kernel, rfl, by decide +kernel, by decide +kernel⟩
theorem ok_head {f : Addr} {fd : FuncData} (F : Fun K "head" "head" s_head f fd) : FnOk P w K mg base CX0 1 f fd ["ties", "dart"] (spHead K) := by
  refine F.ok sc_head (fun vs H Q E h => ?_) (fun cdv A outer s H vs Q E hr h => ?_)
  · obtain ⟨a, xs, es, d, rfl, _⟩ := h
    rfl
  obtain ⟨a, xs, es, d, rfl, hS, hT, hdl, k⟩ := h
  have hl : d / 2 < es.length := by omega
  have e1 : es[d / 2]? = some es[d / 2] := List.getElem?_eq_getElem hl
  obtain ⟨p, C, dx, s', x1, x2, x3⟩ := hT.2 _ _ e1
  have hh : hd es d = if d % 2 = 0 then es[d / 2].2 else es[d / 2].1 := by unfold hd; rw [e1]
  have ed : (d : Int) / 2 = ((d / 2 : Nat) : Int) := by omega
  refine ⟨_, (pss_cons (ps_set (i := 2) sc_head.nd rfl (Or.inl rfl) (pe_ix ix_list (pv 0) (pe_op op_fdiv (pv 1) pe_int) (fun _ _ => rfl)))
      (pss_one (ps_ret (pe_ifExp (pt_cmpR op_eq (pe_op op_mod (pv 1) pe_int) pe_int (nomark _)) (pe_fld (pv 2) rfl) (pe_fld (pv 2) rfl))))), ?_⟩
  refine ⟨_, rfl, _, rfl, _, _, rfl, rfl, ⟨by decide, by decide⟩, a, xs, _, _, rfl, rfl, hS, (by rw [ed]; exact atI_nat x1), ?_⟩
  refine ⟨_, rfl, _, _, rfl, rfl, (by show (0 : Int) < 2; decide), rfl, _, rfl, ?_⟩
  refine ite2 (fun q => ?_) (fun q => ?_)
  · have q' : (d : Int) % 2 = 0 := V.int.inj (of_decide_eq_true q)
    refine ⟨_, rfl, p, C, dx, _, _, rfl, x2, x3.cl, x3.n2, tf_two _ _ _, ?_⟩
    rw [hh, if_pos (by omega)] at k
    exact k
  · have q' : ¬ (d : Int) % 2 = 0 := fun z => q (decide_eq_true (congrArg V.int z))
    refine ⟨_, rfl, p, C, dx, _, _, rfl, x2, x3.cl, x3.n1, tf_one _ _ _, ?_⟩
    rw [hh, if_neg (by omega)] at k
    exact k
theorem sc_leaving : FnScope ["ties", "number", "place"] ["ties", "number", "place"] (defScope s_leaving) := ⟨rfl, rfl, rfl, by decide +kernel, rfl, by decide +kernel, by decide +kernel⟩
theorem ok_leaving {f : Addr} {fd : FuncData} (F : Fun K "leaving" "leaving" s_leaving f fd) : FnOk P w K mg base CX0 1 f fd ["ties", "number", "place"] (spLeav K) := by
  refine F.ok sc_leaving (fun vs H Q E h => ?_) (fun cdv A outer s H vs Q E hr h => ?_)
  · obtain ⟨a, xs, es, t, p, e, rfl, _⟩ := h
    rfl
  obtain ⟨a, xs, es, t, pl, e, rfl, hS, hT, he, k⟩ := h
  obtain ⟨p, C, dx, s', x1, x2, x3⟩ := hT.2 _ _ he
  have m2 : CMul 2 (t : Int) := .inl ⟨by decide, by decide⟩
  refine ⟨_, (pss_one (ps_ret (pe_ifExp (pt_cmpR op_eq (pe_fld (pe_ix ix_list (pv 0) (pv 1) (fun _ _ => rfl)) rfl) (pv 2) (nomark _)) (pe_op op_mul pe_int (pv 1)) (pe_op op_add (pe_op op_mul pe_int (pv 1)) pe_int)))), ?_⟩
  refine ⟨_, rfl, _, rfl, a, xs, _, _, rfl, rfl, hS, atI_nat x1, p, C, dx, _, _, rfl, x2, x3.cl, x3.n1, tf_one _ _ _, _, rfl, rfl, _, rfl, ?_⟩
  refine ite2 (fun q => ?_) (fun q => ?_)
  · have q' : (e.1 : Int) = (pl : Int) := V.int.inj (of_decide_eq_true q)
    refine ⟨_, rfl, _, _, rfl, rfl, m2, ?_⟩
    rw [if_pos (by omega)] at k
    exact k
  · have q' : ¬ (e.1 : Int) = (pl : Int) := fun z => q (decide_eq_true (congrArg V.int z))
    refine ⟨_, rfl, _, _, rfl, rfl, m2, _, _, rfl, rfl, ?_⟩
    rw [if_neg (by omega)] at k
    exact k
theorem sc_follower : FnScope ["ties", "turns", "dart", "place", "about", "behind"] ["ties", "turns", "dart"] (defScope s_follower) := ⟨rfl, rfl, rfl, by decide +kernel, rfl, by decide +kernel, by decide +kernel⟩
theorem ok_follower {f fh fl : Addr} {fd fdh fdl : FuncData} (F : Fun K "follower" "follower" s_follower f fd) (T : Txt mg) (G_head : Cal P w K mg base 1 "head" ["ties", "dart"] (spHead K) fh fdh) (G_leaving : Cal P w K mg base 1 "leaving" ["ties", "number", "place"] (spLeav K) fl fdl) : FnOk P w K mg base CX0 2 f fd ["ties", "turns", "dart"] (spFol K) := by
  refine F.ok sc_follower (fun vs H Q E h => ?_) (fun cdv A outer s H vs Q E hr h => ?_)
  · obtain ⟨a, b, m, es, ts, d, rfl, _⟩ := h
    rfl
  obtain ⟨a, b, m, es, ts, d, rfl, tt, hdl, k⟩ := h
  obtain ⟨⟨xs, h1, h2⟩, ⟨ys, h3, h4⟩, w', few⟩ := tt
  obtain ⟨l, e, p1, p2, p3, p4, p5, p6, p7, p8, p9⟩ := w'.foll hdl
  obtain ⟨small, len⟩ := turn_small w' few p1
  obtain ⟨q, y1, y2⟩ := h4.2 _ _ p1
  have ed : (d : Int) / 2 = ((d / 2 : Nat) : Int) := by omega
  refine ⟨_, (pss_cons (ps_set (i := 3) sc_follower.nd rfl (Or.inl rfl) (pe_call G_head.ok (hr.mono (by decide)) rfl G_head.mg G_head.kp G_head.bn .nil pass0 (pa_cons (pv 0) (pa_cons (pv 2) pa_nil))))
      (pss_cons (ps_set (i := 4) sc_follower.nd rfl (Or.inl rfl) (pe_ix ix_list (pv 1) (pv 3) (fun _ _ => rfl)))
      (pss_cons (ps_set (i := 5) sc_follower.nd rfl (Or.inl rfl) (pe_op op_mod (pe_op op_add (pe_bm PySem.F.plainAttrs_list PySem.F.slot_list_index PySem.F.type_list_index mt_index (pv 4) (pa_cons (pe_op op_fdiv (pv 2) pe_int) pa_nil)) pe_int) (pe_callB call_len_seq (by rfl) T.n_len bt_len (pa_cons (pv 4) pa_nil))))
      (pss_one (ps_ret (pe_call G_leaving.ok (hr.mono (by decide)) rfl G_leaving.mg G_leaving.kp G_leaving.bn .nil pass0 (pa_cons (pv 0) (pa_cons (pe_ix ix_list (pv 4) (pv 5) (fun _ _ => rfl)) (pa_cons (pv 3) pa_nil))))))))), ?_⟩
  refine ⟨_, rfl, _, rfl, a, xs, es, d, rfl, h1, h2, hdl, ?_⟩
  refine ⟨_, rfl, _, rfl, b, ys, _, _, rfl, rfl, h3, atI_nat y1, ?_⟩
  have hlen : (l.map iV).length = l.length := List.length_map _
  have hl0 : 0 < l.length := List.length_pos_of_mem p2
  have hmod : (((l.idxOf (d / 2) : Nat) : Int) + 1) % ((l.map iV).length : Int) = (((l.idxOf (d / 2) + 1) % l.length : Nat) : Int) := by rw [hlen]; rfl
  refine ⟨_, rfl, .inl ⟨rfl, _, SqL.of y2⟩, _, rfl, _, _, rfl, rfl, ⟨by decide, by decide⟩, q, l, d / 2, rfl, congrArg (fun z => [V.int z]) ed, SqL.of y2, fun p hp => by have := small p hp; omega, by omega, p2, _, _, rfl, rfl, _, rfl, q, _, rfl, .inl (SqL.of y2), _, _, rfl, rfl, (by show (0 : Int) < ((l.map iV).length : Int); rw [hlen]; omega), ?_⟩
  refine ⟨_, rfl, _, rfl, _, rfl, q, _, _, _, rfl, rfl, SqL.of y2, (by rw [hmod]; exact iV_at (nxt_get p2)), _, rfl, a, xs, es, nxt l (d / 2), hd es d, e, rfl, h1, h2, p3, ?_⟩
  rw [p6] at k
  exact k
theorem sc_round_from : FnScope ["ties", "turns", "first", "row", "dart"] ["ties", "turns", "first"] (defScope s_round_from) := ⟨rfl, rfl, rfl, by decide +kernel, rfl, by decide +kernel, by decide +kernel⟩
theorem ok_from {f ff : Addr} {fd fdf : FuncData} (F : Fun K "round_from" "round_from" s_round_from f fd) (G_follower : Cal P w K mg base 2 "follower" ["ties", "turns", "dart"] (spFol K) ff fdf) : FnOk P w K mg base CX0 3 f fd ["ties", "turns", "first"] (spFrom K) := by
  refine F.ok sc_round_from (fun vs H Q E h => ?_) (fun cdv A outer s H vs Q E hr h => ?_)
  · obtain ⟨a, b, m, es, ts, d, rfl, _⟩ := h
    rfl
  obtain ⟨a, b, m, es, ts, d, rfl, tt, hdl, k⟩ := h
  have pm := perm tt.w
  refine ⟨_, (pss_cons (ps_set (i := 3) sc_round_from.nd rfl (Or.inl rfl) (pe_lst (pa_cons (pv 2) pa_nil)))
      (pss_cons (ps_set (i := 4) sc_round_from.nd rfl (Or.inl rfl) (pe_call G_follower.ok (hr.mono (by decide)) rfl G_follower.mg G_follower.kp G_follower.bn .nil pass0 (pa_cons (pv 0) (pa_cons (pv 1) (pa_cons (pv 2) pa_nil)))))
      (pss_cons (ps_while PassesOwn.never (pt_cmpR op_ne (pv 4) (pv 2) (nomark _)) (pss_cons (ps_expr (pe_bm PySem.F.plainAttrs_list PySem.F.slot_list_append PySem.F.type_list_append mt_append (pv 3) (pa_cons (pv 4) pa_nil)))
      (pss_one (ps_set (i := 4) sc_round_from.nd rfl (Or.inl rfl) (pe_call G_follower.ok (hr.mono (by decide)) rfl G_follower.mg G_follower.kp G_follower.bn .nil pass0 (pa_cons (pv 0) (pa_cons (pv 1) (pa_cons (pv 4) pa_nil))))))))
      (pss_one (ps_ret (pv 3)))))), ?_⟩
  refine ⟨_, rfl, (by show 1 ≤ sizeLine; decide), fun q hq => ?_⟩
  have s1 := same_new hq (.lst [.int (d : Int)])
  refine ⟨_, rfl, _, rfl, _, rfl, a, b, m, es, ts, d, rfl, tt.mono s1, hdl, ?_⟩
  refine while_by (fun σ H2 => ∃ (r : List Nat) (x : Nat), σ = [some (.ref a), some (.ref b), some (.int (d : Int)), some (.ref q), some (iV (fol es ts x))] ∧ Same H H2 ∧ H2 q = some (.lst ((r ++ [x]).map iV)) ∧ Path (fol es ts) (2 * es.length) d (r ++ [x]))
    (fun σ H2 => match H2 q with | some (.lst xs) => 200 - xs.length | _ => 0) ⟨[], d, rfl, s1, upd_same, path_one hdl⟩ ?_ ?_
  · rintro σ H2 ⟨r, x, rfl, s2, hq2, pa⟩
    refine ⟨_, rfl, _, rfl, rfl, _, rfl, ?_⟩
    have few := tt.few
    have hlen := len_le pa.nd pa.lt
    refine ite2 (fun c => ?_) (fun c => ?_)
    · have c' : fol es ts x ≠ d := fun z => by
        rw [decide_eq_true (show iV (fol es ts x) = V.int (d : Int) by rw [z]; rfl)] at c
        cases c
      have pa2 := pa.snoc pm c'
      have hlen2 := len_le pa2.nd pa2.lt
      have lt2 : fol es ts x < 2 * es.length := pa2.lt _ (by simp)
      refine ⟨_, rfl, .inl ⟨rfl, _, SqL.of hq2⟩, _, rfl, q, _, _, rfl, rfl, hq2, small1000 (by rw [List.length_map]; omega), ?_⟩
      have s3 := same_upd s2 hq (.lst ((r ++ [x]).map iV ++ [iV (fol es ts x)]))
      refine ⟨_, rfl, _, rfl, _, rfl, a, b, m, es, ts, fol es ts x, rfl, tt.mono s3, lt2, ?_⟩
      refine ⟨⟨r ++ [x], fol es ts x, rfl, s3, ?_, pa2⟩, ?_⟩
      · rw [upd_same, show ((r ++ [x] ++ [fol es ts x]).map iV) = (r ++ [x]).map iV ++ [iV (fol es ts x)] from by rw [List.map_append]; rfl]
      · show (match (upd H2 q (.lst ((r ++ [x]).map iV ++ [iV (fol es ts x)]))) q with | some (.lst xs) => 200 - xs.length | _ => 0) < (match H2 q with | some (.lst xs) => 200 - xs.length | _ => 0)
        rw [upd_same, hq2]
        show 200 - ((r ++ [x]).map iV ++ [iV (fol es ts x)]).length < 200 - ((r ++ [x]).map iV).length
        rw [List.length_append, List.length_map, List.length_singleton]
        omega
    · have c' : fol es ts x = d := by
        by_cases z : fol es ts x = d
        · exact z
        · exact absurd (by rw [decide_eq_false (fun y => z (by have := V.int.inj y; omega))]; rfl) c
      refine ⟨_, rfl, ?_⟩
      exact k q _ H2 s2 hq hq2 pa (pa.ring pm c')
  · rintro σ H2 Q1 Q2 hi ⟨v', e, b', e2, z1, c', e3, q'⟩
    exact ⟨v', e, b', e2, z1, c', e3, hi _ _ q'⟩
theorem sc_rounds_of : FnScope ["ties", "turns", "rounds", "seen", "dart", "row", "gone"] ["ties", "turns"] (defScope s_rounds_of) := ⟨rfl, rfl, rfl, by decide +kernel, rfl, by decide +kernel, by decide +kernel⟩
theorem ok_rounds {f ff : Addr} {fd fdf : FuncData} (F : Fun K "rounds_of" "rounds_of" s_rounds_of f fd) (T : Txt mg) (G_round_from : Cal P w K mg base 3 "round_from" ["ties", "turns", "first"] (spFrom K) ff fdf) : FnOk P w K mg base CX0 4 f fd ["ties", "turns"] (spRounds K) := by
  refine F.ok sc_rounds_of (fun vs H Q E h => ?_) (fun cdv A outer s H vs Q E hr h => ?_)
  · obtain ⟨a, b, m, es, ts, rfl, _⟩ := h
    rfl
  obtain ⟨a, b, m, es, ts, rfl, tt, k⟩ := h
  have hu := hu_of hr
  have pm := perm tt.w
  have few := tt.few
  obtain ⟨xs, h1, h2⟩ := tt.xs
  refine ⟨_, (pss_cons (ps_set (i := 2) sc_rounds_of.nd rfl (Or.inl rfl) (pe_lst pa_nil))
      (pss_cons (ps_set (i := 3) sc_rounds_of.nd rfl (Or.inl rfl) pe_dnewK)
      (pss_cons (ps_for PassesOwn.never rfl (pi_range1 rfl T.n_range (pa_cons (pe_op op_mul pe_int (pe_callB call_len_seq (by rfl) T.n_len bt_len (pa_cons (pv 0) pa_nil))) pa_nil)) (pg_name (i := 4) sc_rounds_of.nd rfl (Or.inl rfl)) (pss_one (ps_if (pt_cmp (pc_dnotin hu (pv 4) (pv 3))) (pss_cons (ps_set (i := 5) sc_rounds_of.nd rfl (Or.inl rfl) (pe_call G_round_from.ok (hr.mono (by decide)) rfl G_round_from.mg G_round_from.kp G_round_from.bn .nil pass0 (pa_cons (pv 0) (pa_cons (pv 1) (pa_cons (pv 4) pa_nil)))))
      (pss_cons (ps_expr (pe_bm PySem.F.plainAttrs_list PySem.F.slot_list_append PySem.F.type_list_append mt_append (pv 2) (pa_cons (pv 5) pa_nil)))
      (pss_one (ps_for PassesOwn.never rfl (pi_list (pv 5)) (pg_name (i := 6) sc_rounds_of.nd rfl (Or.inl rfl)) (pss_one (ps_dput hu (pv 3) (pv 6) pe_bl rfl)))))) pss_nil)))
      (pss_one (ps_ret (pv 2)))))), ?_⟩
  refine ⟨(by show 0 ≤ sizeLine; decide), fun qr hqr => fun qs hqs => ?_⟩
  have s1 := (same_new hqr (.lst [])).trans (same_new hqs (.dK []))
  have hqs0 : H qs = none := by
    cases z : H qs with
    | none => rfl
    | some o => rw [same_new hqr (.lst []) qs o z] at hqs; cases hqs
  have hne : qr ≠ qs := fun z => by rw [← z, upd_same] at hqs; cases hqs
  have hxl : xs.length = es.length := h2.1
  have hN : (2 * (xs.length : Int)).toNat = 2 * es.length := by omega
  refine ⟨_, rfl, a, xs, rfl, .inl (s1.seq h1), _, _, rfl, rfl, .inl ⟨by decide, by decide⟩, _, rfl, by omega, by omega, for_range (n := (2 * (xs.length : Int)).toNat) (fun i σ H2 => ∃ v4 v5 v6 ys rs kvs, σ = [some (.ref a), some (.ref b), some (.ref qr), some (.ref qs), v4, v5, v6] ∧ Same H H2 ∧ H2 qr = some (.lst ys) ∧ RowsX (fun p => p = qr ∨ p = qs) H2 ys rs ∧ H2 qs = some (.dK kvs) ∧ kvs.length ≤ rs.flatten.length ∧ (∀ d : Nat, (valV kvs (Sum.inl (d : Int))).isSome = true ↔ d ∈ rs.flatten) ∧ Rounds (fol es ts) (2 * es.length) i rs)
    ⟨_, _, _, [], [], [], rfl, s1, by rw [upd_ne hne, upd_same], ⟨rfl, fun i l e => by simp at e⟩, upd_same, Nat.le_refl _, fun d => by simp [valV], rounds_nil _ _⟩ ?_ ?_⟩
  · rintro i σ H2 hi ⟨v4, v5, v6, ys, rs, kvs, rfl, s2, e1, rx, e2, kl, km, ro⟩
    rw [hN] at hi
    have e0 : (0 : Int) + (i : Int) = (i : Int) := Int.zero_add _
    rw [e0]
    have fl := flat_len ro
    have rl := rows_len ro
    refine ⟨_, rfl, _, rfl, _, _, rfl, DGet.k (k := Sum.inl (i : Int)) e2, _, rfl, ?_⟩
    refine ite2 (fun c => ?_) (fun c => ?_)
    · have hni : i ∉ rs.flatten := fun z => by
        rw [(km i).mpr z] at c
        cases c
      refine ⟨_, rfl, _, rfl, _, rfl, a, b, m, es, ts, i, rfl, tt.mono s2, hi, fun q r H3 s3 hq hq3 pa ri => ?_⟩
      have s23 := s2.trans s3
      have nq : ¬ (q = qr ∨ q = qs) := by
        rintro (z | z)
        · rw [z, e1] at hq; cases hq
        · rw [z, e2] at hq; cases hq
      refine ⟨_, rfl, .inl ⟨rfl, _, SqL.of (s3 _ _ e1)⟩, _, rfl, qr, _, _, rfl, rfl, s3 _ _ e1, small1000 (by rw [rx.1]; omega), ?_⟩
      have s4 := same_upd s23 hqr (.lst (ys ++ [.ref q]))
      have hrq : ∀ {H5 : Hp}, RowsX (fun p => p = qr ∨ p = qs) H5 (ys ++ [.ref q]) (rs ++ [r]) → H5 q = some (.lst (r.map iV)) := fun h => by
        obtain ⟨p, z1, _, z2⟩ := h.2 rs.length r (by rw [List.getElem?_append_right (Nat.le_refl _), Nat.sub_self]; rfl)
        rw [← rx.1, List.getElem?_append_right (Nat.le_refl _), Nat.sub_self] at z1
        cases z1
        exact z2
      have rx4 : RowsX (fun p => p = qr ∨ p = qs) (upd H3 qr (.lst (ys ++ [.ref q]))) (ys ++ [.ref q]) (rs ++ [r]) := by
        refine (rx.mono fun p o n z => ?_).snoc nq ?_
        · rw [upd_ne (fun z => n (.inl z))]; exact s3 _ _ z
        · rw [upd_ne (fun z => nq (.inl z))]; exact hq3
      have rl : r.length ≤ 2 * es.length := len_le ri.nd ri.lt
      refine ⟨_, rfl, q, rfl, ⟨_, SqL.of (hrq rx4)⟩, for_list (xs := r.map iV) (fun j σ H5 => ∃ v6 kvs', σ = [some (.ref a), some (.ref b), some (.ref qr), some (.ref qs), some (.int (i : Int)), some (.ref q), v6] ∧ Same H H5 ∧ H5 qr = some (.lst (ys ++ [.ref q])) ∧ RowsX (fun p => p = qr ∨ p = qs) H5 (ys ++ [.ref q]) (rs ++ [r]) ∧ H5 qs = some (.dK kvs') ∧ kvs'.length ≤ rs.flatten.length + j ∧ ∀ d : Nat, (valV kvs' (Sum.inl (d : Int))).isSome = true ↔ d ∈ rs.flatten ∨ d ∈ r.take j)
        ⟨_, kvs, rfl, s4, upd_same, rx4, by rw [upd_ne hne.symm]; exact s3 _ _ e2, kl, fun d => by rw [km d]; simp⟩ (fun j σ H5 _ p => ?_) ?_ ?_⟩
      · obtain ⟨_, _, _, _, _, z, _⟩ := p
        exact SqL.of (hrq z)
      · rintro j x σ H5 hx ⟨v6, kvs', rfl, s5, f1, rx5, f2, kl5, km5⟩
        rw [List.getElem?_map] at hx
        obtain ⟨g, hg, rfl⟩ := Option.map_eq_some_iff.mp hx
        have hjl : j < r.length := (List.getElem?_eq_some_iff.mp hg).1
        refine ⟨_, rfl, _, rfl, qs, _, rfl, DPut.k (k := Sum.inl (g : Int)) f2 (small1000 (by omega)), ?_⟩
        refine ⟨_, _, rfl, same_upd s5 hqs0 _, by rw [upd_ne hne]; exact f1, rx5.mono fun p o n z => by rw [upd_ne (fun z => n (.inr z))]; exact z, upd_same, by have := length_putK kvs' (Sum.inl (g : Int)) (V.bl true); omega, fun d => ?_⟩
        rw [valV_put]
        have tk : r.take (j + 1) = r.take j ++ [g] := by rw [List.take_add_one, hg]; rfl
        rw [tk]
        by_cases z : d = g
        · subst z
          simp
        · rw [if_neg (fun y => z (by have := Sum.inl.inj y; omega)), km5 d]
          simp [z]
      · rintro σ H5 ⟨v6, kvs', rfl, s5, f1, rx5, f2, kl5, km5⟩
        rw [List.length_map] at kl5 km5
        refine ⟨_, _, _, _, rs ++ [r], kvs', rfl, s5, f1, rx5, f2, by rw [List.flatten_append, List.length_append]; simpa using kl5, fun d => ?_, ro.put pm hni hi ri pa⟩
        rw [km5 d, List.take_length, List.flatten_append, List.mem_append]
        simp
    · have hii : i ∈ rs.flatten := (km i).mp (by
        cases z : (valV kvs (Sum.inl (i : Int))).isSome with
        | true => rfl
        | false => exact absurd (by rw [z]; rfl) c)
      exact ⟨_, _, _, ys, rs, kvs, rfl, s2, e1, rx, e2, kl, km, ro.skip hii⟩
  · rintro σ H2 ⟨v4, v5, v6, ys, rs, kvs, rfl, s2, e1, rx, e2, kl, km, ro⟩
    rw [hN] at ro
    exact ⟨_, rfl, k qr ys rs H2 s2 e1 rx.off ro⟩
theorem sc_sides_of : FnScope ["ties", "rounds", "number_at", "number", "row", "dart"] ["ties", "rounds"] (defScope s_sides_of) := ⟨rfl, rfl, rfl, by decide +kernel, rfl, by decide +kernel, by decide +kernel⟩
theorem ok_sides {f : Addr} {fd : FuncData} (F : Fun K "sides_of" "sides_of" s_sides_of f fd) (T : Txt mg) : FnOk P w K mg base CX0 1 f fd ["ties", "rounds"] (spSides K) := by
  refine F.ok sc_sides_of (fun vs H Q E h => ?_) (fun cdv A outer s H vs Q E hr h => ?_)
  · obtain ⟨a, b, xs, ys, es, g, rs, rfl, _⟩ := h
    rfl
  obtain ⟨a, b, xs, ys, es, g, rs, rfl, hS, hT, few, hB, hR, ro, k⟩ := h
  have hu := hu_of hr
  have fl := flat_len ro
  refine ⟨_, (pss_cons (ps_set (i := 2) sc_sides_of.nd rfl (Or.inr rfl) pe_dnewK)
      (pss_cons (ps_for PassesOwn.never rfl (pi_enum rfl T.n_enumerate (pa_cons (pv 1) pa_nil)) (pg_tup rfl (pgs_cons (pg_name (i := 3) sc_sides_of.nd rfl (Or.inl rfl)) (pgs_cons (pg_name (i := 4) sc_sides_of.nd rfl (Or.inl rfl)) pgs_nil))) (pss_one (ps_for PassesOwn.never rfl (pi_list (pv 4)) (pg_name (i := 5) sc_sides_of.nd rfl (Or.inl rfl)) (pss_one (ps_dput hu (pv 2) (pv 5) (pv 3) rfl)))))
      (pss_one (ps_ret (pe_comp rfl (fr := [("number_at", 2)]) (by exact CompOk.one (by rfl) (by decide +kernel) (by rfl) (by decide +kernel) (by rfl) (by decide +kernel) (by rfl) (by rfl) (by decide +kernel) (by rfl)) (pi_range1 rfl T.n_range (pa_cons (pe_callB call_len_seq (by rfl) T.n_len bt_len (pa_cons (pv 0) pa_nil)) pa_nil)) (fun C ex s H => (pe_tup (pa_cons (pe_dget hu (pv 1) (pe_op op_mul pe_int (pv 0)) (fun _ _ => rfl)) (pa_cons (pe_dget hu (pv 1) (pe_op op_add (pe_op op_mul pe_int (pv 0)) pe_int) (fun _ _ => rfl)) pa_nil))))))))), ?_⟩
  intro q hq
  have s1 := same_new hq (.dK [])
  have kF : ∀ i, (rs.take i).flatten.length ≤ rs.flatten.length := fun i => by
    have := congrArg (fun z => z.flatten.length) (List.take_append_drop i rs)
    simp only [List.flatten_append, List.length_append] at this
    omega
  refine ⟨_, rfl, b, rfl, ⟨_, s1.seq hB⟩, for_enum (K := K) (xs := ys) (fun i σ H2 => ∃ v3 v4 v5 kvs, σ = [some (.ref a), some (.ref b), some (.ref q), v3, v4, v5] ∧ Same H H2 ∧ H2 q = some (.dK kvs) ∧ kvs.length ≤ (rs.take i).flatten.length ∧ ∀ (d c : Nat) (r : List Nat), c < i → rs[c]? = some r → d ∈ r → valV kvs (Sum.inl (d : Int)) = some (iV c))
    ⟨_, _, _, [], rfl, s1, upd_same, Nat.zero_le _, fun d c r z => absurd z (Nat.not_lt_zero _)⟩ (fun i σ H2 _ ⟨_, _, _, _, _, s2, _⟩ => s2.seq hB) ?_ ?_⟩
  · rintro i x σ H2 T2 hx ⟨v3, v4, v5, kvs, rfl, s2, e1, kl, km⟩ hT2
    have hil : i < rs.length := by
      have := (List.getElem?_eq_some_iff.mp hx).1
      rw [hR.1] at this
      exact this
    have hr' : rs[i]? = some rs[i] := List.getElem?_eq_getElem hil
    obtain ⟨p, x1, x2⟩ := hR.2 i _ hr'
    rw [hx] at x1
    cases x1
    generalize rs[i] = r at hr' x2
    have s3 : Same H (upd H2 T2 (.tup [.int (i : Int), .ref p])) := s2.trans (same_new hT2 _)
    have f1 : (rs.take (i + 1)).flatten = (rs.take i).flatten ++ r := by rw [List.take_add_one, hr']; simp
    have f2 := kF (i + 1)
    rw [f1, List.length_append] at f2
    refine ⟨T2, _, rfl, SqT.of upd_same, rfl, _, _, rfl, _, _, rfl, rfl, ?_⟩
    refine ⟨_, rfl, p, rfl, ⟨_, SqL.of (s3 _ _ x2)⟩, for_list (xs := r.map iV) (fun j σ H5 => ∃ v5 kvs', σ = [some (.ref a), some (.ref b), some (.ref q), some (.int (i : Int)), some (.ref p), v5] ∧ Same H H5 ∧ H5 q = some (.dK kvs') ∧ kvs'.length ≤ (rs.take i).flatten.length + j ∧ (∀ (d c : Nat) (r : List Nat), c < i → rs[c]? = some r → d ∈ r → valV kvs' (Sum.inl (d : Int)) = some (iV c)) ∧ ∀ d ∈ r.take j, valV kvs' (Sum.inl (d : Int)) = some (iV i))
      ⟨_, kvs, rfl, s3, same_new hT2 _ _ _ e1, kl, km, fun d hd => by simp at hd⟩ (fun j σ H5 _ ⟨_, _, _, z, _⟩ => SqL.of (z _ _ x2)) ?_ ?_⟩
    · rintro j x σ H5 hx2 ⟨v5, kvs', rfl, s5, g1, kl5, km5, kn5⟩
      rw [List.getElem?_map] at hx2
      obtain ⟨g, hg, rfl⟩ := Option.map_eq_some_iff.mp hx2
      have hjl : j < r.length := (List.getElem?_eq_some_iff.mp hg).1
      refine ⟨_, rfl, _, rfl, _, rfl, q, _, rfl, DPut.k (k := Sum.inl (g : Int)) g1 (small1000 (by omega)), ?_⟩
      refine ⟨_, _, rfl, same_upd s5 hq _, upd_same, by have := length_putK kvs' (Sum.inl (g : Int)) (V.int (i : Int)); omega, fun d c r' hc hrc hd => ?_, fun d hd => ?_⟩
      · rw [valV_put, if_neg (fun z => ?_)]
        · exact km5 d c r' hc hrc hd
        · have z' : d = g := by have := Sum.inl.inj z; omega
          subst z'
          have := flat_nd ro.nd hrc hr' hd (List.mem_of_getElem? hg)
          omega
      · rw [valV_put]
        by_cases z : d = g
        · subst z
          rw [if_pos rfl]
          rfl
        · rw [if_neg (fun y => z (by have := Sum.inl.inj y; omega))]
          refine kn5 d ?_
          rw [List.take_add_one, hg] at hd
          simpa [z] using hd
    · rintro σ H5 ⟨v5, kvs', rfl, s5, g1, kl5, km5, kn5⟩
      rw [List.length_map] at kl5 kn5
      rw [List.take_length] at kn5
      refine ⟨_, _, _, kvs', rfl, s5, g1, by rw [f1, List.length_append]; exact kl5, fun d c r' hc hrc hd => ?_⟩
      by_cases z : c = i
      · subst z
        rw [hr'] at hrc
        cases hrc
        exact kn5 d hd
      · exact km5 d c r' (by omega) hrc hd
  · rintro σ H2 ⟨v3, v4, v5, kvs, rfl, s2, e1, kl, km⟩
    rw [hR.1] at km
    have get : ∀ d, d < 2 * es.length → ∃ c r, rs[c]? = some r ∧ d ∈ r ∧ valV kvs (Sum.inl (d : Int)) = some (iV c) := fun d hd => by
      obtain ⟨r, z1, z2⟩ := List.mem_flatten.mp (ro.all d hd)
      obtain ⟨c, z3⟩ := List.mem_iff_getElem?.mp z1
      exact ⟨c, r, z3, z2, km d c r (List.getElem?_eq_some_iff.mp z3).1 z3 z2⟩
    have hxl : xs.length = es.length := hT.1
    refine ⟨_, rfl, a, xs, rfl, .inl (s2.seq hS), _, rfl, by omega, by omega, comp_range (fun i zs H3 => Same H2 H3 ∧ SidesAt H3 zs i rs) (by rw [Int.toNat_natCast, hxl]; exact Nat.le_of_lt (small1000 (by omega))) ⟨fun _ _ e => e, rfl, fun i hi => absurd hi (Nat.not_lt_zero _)⟩ ?_ ?_⟩
    · rintro i zs H3 hi ⟨s3, sd⟩
      have e0 : (0 : Int) + (i : Int) = (i : Int) := Int.zero_add _
      rw [e0]
      rw [Int.toNat_natCast, hxl] at hi
      obtain ⟨c1, r1, z1, z2, z3⟩ := get (2 * i) (by omega)
      obtain ⟨c2, r2, y1, y2, y3⟩ := get (2 * i + 1) (by omega)
      have m2 : CMul 2 (i : Int) := .inl ⟨by decide, by decide⟩
      have d1 : DGet H3 q (V.int (2 * (i : Int))) (some (iV c1)) := by
        rw [← z3, show ((2 * i : Nat) : Int) = 2 * (i : Int) by omega]
        exact DGet.k (k := Sum.inl (2 * (i : Int))) (s3 _ _ e1)
      have d2 : DGet H3 q (V.int (2 * (i : Int) + 1)) (some (iV c2)) := by
        rw [← y3, show ((2 * i + 1 : Nat) : Int) = 2 * (i : Int) + 1 by omega]
        exact DGet.k (k := Sum.inl (2 * (i : Int) + 1)) (s3 _ _ e1)
      refine ⟨_, rfl, _, rfl, _, _, rfl, rfl, m2, q, _, rfl, d1, _, rfl, _, rfl, _, _, rfl, rfl, m2, _, _, rfl, rfl, q, _, rfl, d2, (by show 2 ≤ sizeLine; decide), fun t ht => ?_⟩
      have s4 := same_new ht (.tup [iV c1, iV c2])
      refine ⟨s3.trans s4, by rw [List.length_append, sd.1]; rfl, fun j hj => ?_⟩
      by_cases z : j = i
      · subst z
        exact ⟨t, c1, c2, r1, r2, by rw [← sd.1, List.getElem?_append_right (Nat.le_refl _), Nat.sub_self]; rfl, upd_same, z1, z2, y1, y2⟩
      · obtain ⟨p, a', b', r, r', w1, w2, w3⟩ := sd.2 j (by omega)
        exact ⟨p, a', b', r, r', by rw [List.getElem?_append_left (by rw [sd.1]; omega)]; exact w1, s4 _ _ w2, w3⟩
    · rintro zs H3 hzl ⟨s3, sd⟩ D hD
      rw [Int.toNat_natCast, hxl] at sd
      exact k D zs _ ((s2.trans s3).trans (same_new hD _)) upd_same ⟨sd.1, fun i hi => by
        obtain ⟨p, a', b', r, r', w1, w2, w3⟩ := sd.2 i hi
        exact ⟨p, a', b', r, r', w1, same_new hD _ _ _ w2, w3⟩⟩
theorem sc_Tie___init : FnScope ["self", "one", "two", "strength"] ["self", "one", "two", "strength"] (defScope s_Tie___init) := ⟨rfl, rfl, rfl, by decide +kernel, rfl, by decide +kernel, by decide +kernel⟩
theorem ok_init {f : Addr} {fd : FuncData} (F : Fun K "__init__" "Tie.__init__" s_Tie___init f fd) : FnOk P w K mg base CX0 1 f fd ["self", "one", "two", "strength"] (spInit K) := by
  refine F.ok sc_Tie___init (fun vs H Q E h => ?_) (fun cdv A outer s H vs Q E hr h => ?_)
  · obtain ⟨p, C, dx, a, b, s, rfl, _⟩ := h
    rfl
  obtain ⟨p, C, dx, a, b, st, rfl, hp, T, hne, ha, hb, hs, k⟩ := h
  refine ⟨_, (pss_cons (ps_if (pt_cmpR op_eq (pv 1) (pv 2) (nomark _)) (pss_one ps_never) pss_nil)
      (pss_cons (ps_if (PW.pt (pw_or (pt_cmpR op_lt (pv 1) pe_int (nomark _)) (pw_or1 (pt_cmpR op_lt (pv 2) pe_int (nomark _))))) (pss_one ps_never) pss_nil)
      (pss_cons (ps_if (pt_cmpR op_lt (pv 3) pe_int (nomark _)) (pss_one ps_never) pss_nil)
      (pss_cons (ps_fld (pv 0) (pv 1) rfl)
      (pss_cons (ps_fld (pv 0) (pv 2) rfl)
      (pss_one (ps_fld (pv 0) (pv 3) rfl))))))), ?_⟩
  walk_at "rd"
  refine ite2 (fun c => absurd (V.int.inj (of_decide_eq_true c)) hne) (fun _ => ?_)
  walk_at "rd"
  refine ite2 (fun c => absurd (of_decide_eq_true c) (by omega)) (fun _ => ?_)
  walk_at "rd"
  refine ite2 (fun c => absurd (of_decide_eq_true c) (by omega)) (fun _ => ?_)
  walk_at "rd"
  refine ite2 (fun c => absurd (of_decide_eq_true c) (by omega)) (fun _ => ?_)
  refine ⟨_, rfl, _, rfl, p, C, dx, [], rfl, hp, T.cl, T.n1, (by show 0 < 1000; decide), ?_⟩
  refine ⟨_, rfl, _, rfl, p, C, dx, _, rfl, upd_same, T.cl, T.n2, f1_len a, ?_⟩
  refine ⟨_, rfl, _, rfl, p, C, dx, _, rfl, upd_same, T.cl, T.n3, f2_len a b, ?_⟩
  exact k _ upd_same fun q o e hq => by rw [upd_ne hq, upd_ne hq, upd_ne hq]; exact e
theorem sc_law_cell : FnScope ["script", "k"] ["script", "k"] (defScope s_law_cell) := ⟨rfl, rfl, rfl, by decide +kernel, rfl, by decide +kernel, by decide +kernel⟩
theorem ok_cell {f : Addr} {fd : FuncData} (F : Fun K "_law_cell" "_law_cell" s_law_cell f fd) (T : Txt mg) : FnOk P w K mg base CX0 1 f fd ["script", "k"] (spCell K) := by
  refine F.ok sc_law_cell (fun vs H Q E h => ?_) (fun cdv A outer s H vs Q E hr h => ?_)
  · obtain ⟨a, k, ns, rfl, _⟩ := h
    rfl
  obtain ⟨a, k, ns, rfl, hS, q⟩ := h
  refine ⟨_, (pss_cons (ps_if (pt_cmpR op_lt (pv 1) (pe_callB call_len_seq (by rfl) T.n_len bt_len (pa_cons (pv 0) pa_nil)) (nomark _)) (pss_one (ps_ret (pe_ix ix_list (pv 0) (pv 1) (fun _ _ => rfl)))) pss_nil)
      (pss_one (ps_ret pe_int))), ?_⟩
  refine ⟨_, rfl, _, rfl, a, _, rfl, .inl hS, _, _, rfl, rfl, _, rfl, ?_⟩
  refine ite2 (fun c => ?_) (fun c => ?_)
  · have c' : (k : Int) < ((ns.map V.int).length : Int) := of_decide_eq_true c
    rw [List.length_map] at c'
    have hk : k < ns.length := by omega
    have hat : atI (ns.map V.int) (k : Int) = some (.int (cellD ns k)) := atI_nat (by rw [List.getElem?_map, List.getElem?_eq_getElem hk]; unfold cellD; rw [List.getD_eq_getElem?_getD, List.getElem?_eq_getElem hk]; rfl)
    exact ⟨_, rfl, _, rfl, a, _, _, _, rfl, rfl, hS, hat, q⟩
  · have c' : ¬ (k : Int) < ((ns.map V.int).length : Int) := fun z => c (decide_eq_true z)
    rw [List.length_map] at c'
    have e : cellD ns k = 0 := by unfold cellD; rw [List.getD_eq_getElem?_getD, List.getElem?_eq_none (by omega)]; rfl
    rw [e] at q
    exact q
theorem at0 {u v : V} : atI [u, v] 0 = some u := rfl
theorem at1 {u v : V} : atI [u, v] 1 = some v := rfl
theorem nats_rd {H : Hp} {a : Addr} {ps : List Nat} (h : SqL K H a (ps.map iV)) : RdD K H (.ref a) (.list ((ps.map fun (p : Nat) => ((p : Nat) : Int)).map PyData.int)) := by
  refine RdD.lst h (by simp) fun i x d e1 e2 => ?_
  rw [List.getElem?_map] at e1
  rw [List.getElem?_map, List.getElem?_map] at e2
  cases z : ps[i]? with
  | none => rw [z] at e1; cases e1
  | some n =>
    rw [z] at e1 e2
    cases e1
    cases e2
    exact .int _
theorem ints_flat (l : List Int) : (PyData.list (l.map PyData.int)).canLay0 = true ∧ (PyData.list (l.map PyData.int)).depth ≤ 10 := by
  have h1 : ∀ d ∈ l.map PyData.int, d.canLay0 = true ∧ d.depth ≤ 1 := fun d hd => by
    obtain ⟨x, _, rfl⟩ := List.mem_map.mp hd
    exact ⟨by simp [PyData.canLay0], by simp [PyData.depth]⟩
  have h2 := canLayAll_of fun d hd => (h1 d hd).1
  have h3 := depthAll_of fun d hd => (h1 d hd).2
  exact ⟨by simp only [PyData.canLay0]; exact h2, by simp only [PyData.depth]; omega⟩
theorem ints_shaped (l : List Int) : SeqAt.shaped (.list (l.map PyData.int)) = true := shaped_flat fun d hd => by
  obtain ⟨x, _, rfl⟩ := List.mem_map.mp hd
  exact ⟨by simp [PyData.canLay0], by simp [PyData.depth]⟩
theorem EndsAt.put {H : Hp} {ys : List V} {es : En} {q : Addr} {zs : List V} {o : HO} (t : EndsAt H ys es) (h : H q = some (.lst zs)) : EndsAt (upd H q o) ys es := ⟨t.1, fun i e z => by
  obtain ⟨p, a, b⟩ := t.2 i e z
  refine ⟨p, a, ?_⟩
  rw [upd_ne (fun z => by rw [z, h] at b; cases b)]
  exact b⟩
theorem EndsAt.snoc {H : Hp} {xs : List V} {es : En} {e : Nat × Nat} {p : Addr} (t : EndsAt H xs es) (h : H p = some (.tup [iV e.1, iV e.2])) : EndsAt H (xs ++ [.ref p]) (es ++ [e]) := by
  refine ⟨by rw [List.length_append, List.length_append, t.1]; rfl, fun j k ej => ?_⟩
  by_cases hj : j < es.length
  · rw [List.getElem?_append_left hj] at ej
    obtain ⟨p, a1, a2⟩ := t.2 j k ej
    exact ⟨p, by rw [List.getElem?_append_left (by rw [t.1]; exact hj)]; exact a1, a2⟩
  · rw [List.getElem?_append_right (by omega)] at ej
    have hj2 : j = es.length := by
      have := (List.getElem?_eq_some_iff.mp ej).1
      rw [List.length_singleton] at this
      omega
    subst hj2
    rw [Nat.sub_self] at ej
    cases ej
    exact ⟨p, by rw [← t.1, List.getElem?_append_right (Nat.le_refl _), Nat.sub_self]; rfl, h⟩
theorem ins_len {l : List Nat} {k n : Nat} : (ins l k n).length = l.length + 1 := by
  unfold ins
  rw [List.length_append, List.length_cons, List.length_take, List.length_drop]
  omega
theorem mod_le (X : Int) (n : Nat) : 0 ≤ X % ((n : Int) + 1) ∧ X % ((n : Int) + 1) ≤ (n : Int) := ⟨Int.emod_nonneg _ (by omega), by have := Int.emod_lt_of_pos X (show (0 : Int) < (n : Int) + 1 by omega); omega⟩
def Dist (xs : List V) : Prop := ∀ (i j : Nat) (p : Addr), xs[i]? = some (.ref p) → xs[j]? = some (.ref p) → i = j
theorem RowsX.set {S : Addr → Prop} {H : Hp} {xs : List V} {ts : List (List Nat)} {i : Nat} {p : Addr} {l' : List Nat} (h : RowsX S H xs ts) (D : Dist xs) (e : xs[i]? = some (.ref p)) : RowsX S (upd H p (.lst (l'.map iV))) xs (ts.set i l') := by
  refine ⟨by rw [List.length_set]; exact h.1, fun j l z => ?_⟩
  have hi : i < ts.length := by rw [← h.1]; exact (List.getElem?_eq_some_iff.mp e).1
  rw [List.getElem?_set] at z
  by_cases hj : i = j
  · subst hj
    rw [if_pos rfl, if_pos hi] at z
    cases z
    obtain ⟨p', a1, a2, a3⟩ := h.2 i _ (List.getElem?_eq_getElem hi)
    rw [e] at a1
    cases a1
    exact ⟨p, e, a2, upd_same⟩
  · rw [if_neg hj] at z
    obtain ⟨p', a1, a2, a3⟩ := h.2 j l z
    exact ⟨p', a1, a2, by rw [upd_ne (fun y => by rw [y] at a1; exact hj (D i j p e a1))]; exact a3⟩
theorem insV {l : List Nat} {k n : Nat} : (l.map iV).take k ++ V.int (n : Int) :: (l.map iV).drop k = (ins l k n).map iV := by
  unfold ins
  rw [List.map_append, List.map_cons, List.map_take, List.map_drop]
  rfl
theorem rows_rd {H : Hp} {a : Addr} {xs : List V} {ts : List (List Nat)} (h : SqL K H a xs) (hR : RowsAt H xs ts) : RdD K H (.ref a) (.list (ts.map fun l => PyData.list ((l.map fun (p : Nat) => ((p : Nat) : Int)).map PyData.int))) := by
  refine RdD.lst h (by rw [List.length_map]; exact hR.1) fun i x d e1 e2 => ?_
  rw [List.getElem?_map] at e2
  obtain ⟨l, hl, rfl⟩ := Option.map_eq_some_iff.mp e2
  obtain ⟨p, a1, a2⟩ := hR.2 i l hl
  rw [e1] at a1
  cases a1
  exact nats_rd (SqL.of a2)
theorem rows_shaped (ts : List (List Nat)) : SeqAt.shaped (.list (ts.map fun l => PyData.list ((l.map fun (p : Nat) => ((p : Nat) : Int)).map PyData.int))) = true := shaped_flat fun d hd => by
  obtain ⟨l, _, rfl⟩ := List.mem_map.mp hd
  exact ints_flat _
end
end K8


namespace K8
open PySem L2
local macro_rules | `(tactic| walk_at "cc") => `(tactic| first | exact ⟨by decide, by decide⟩ | (show (0 : Int) < _; decide) | (show (0 : Int) < _; omega) | (show (0 : Int) ≤ _; omega) | exact ⟨by decide, by decide, by decide⟩ | exact ⟨by omega, by omega, by decide⟩ | exact Or.inl ⟨by decide, by decide⟩ | exact Or.inl ⟨by omega, by omega⟩)
local macro_rules | `(tactic| walk_at "rd") => `(tactic| repeat (first | refine ⟨_, rfl, ?_⟩ | refine ⟨_, _, rfl, rfl, ?_⟩ | refine ⟨rfl, ?_⟩ | (refine ⟨?cc, ?_⟩; (case cc => walk_at "cc"))))

def spLHead (K : PySem.W.Frag) : Sp := fun vs H Q _ => ∃ (a : Addr) (ys : List V) (es : En) (d : Nat), vs = [.ref a, .int (d : Int)] ∧ SqL K H a ys ∧ EndsAt H ys es ∧ d < 2 * es.length ∧ Q (iV (hd es d)) H
def spLRound (K : PySem.W.Frag) : Sp := fun vs H Q _ => ∃ (a b : Addr) (ys xs : List V) (m : Nat) (es : En) (ts : List (List Nat)) (d : Nat), vs = [.ref a, .ref b, .int (d : Int)] ∧ SqL K H a ys ∧ EndsAt H ys es ∧ SqL K H b xs ∧ RowsAt H xs ts ∧ Turn0 m es ts ∧ es.length ≤ 62 ∧ d < 2 * es.length ∧
  ∀ q r H', Same H H' → H q = none → H' q = some (.lst (r.map iV)) → Path (fol es ts) (2 * es.length) d r → Ring (fol es ts) (2 * es.length) r → Q (.ref q) H'
section
variable {P : Program} {w : World} {K : PySem.W.Frag} {mg : Str → Option Value} {base : Heap}
theorem sc_law_head : FnScope ["ends", "dart"] ["ends", "dart"] (defScope s_law_head) := ⟨rfl, rfl, rfl, by decide +kernel, rfl, by decide +kernel, by decide +kernel⟩
theorem ok_lhead {f : Addr} {fd : FuncData} (F : Fun K "_law_head" "_law_head" s_law_head f fd) : FnOk P w K mg base CX0 1 f fd ["ends", "dart"] (spLHead K) := by
  refine F.ok sc_law_head (fun vs H Q E h => ?_) (fun cdv A outer s H vs Q E hr h => ?_)
  · obtain ⟨a, ys, es, d, rfl, _⟩ := h
    rfl
  obtain ⟨a, ys, es, d, rfl, hS, hE, hdl, k⟩ := h
  have hl : d / 2 < es.length := by omega
  have e1 : es[d / 2]? = some es[d / 2] := List.getElem?_eq_getElem hl
  obtain ⟨p, x1, x2⟩ := hE.2 _ _ e1
  have hh : hd es d = if d % 2 = 0 then es[d / 2].2 else es[d / 2].1 := by unfold hd; rw [e1]
  have ed : (d : Int) / 2 = ((d / 2 : Nat) : Int) := by omega
  have hat : atI [iV es[d / 2].1, iV es[d / 2].2] (1 - (d : Int) % 2) = some (iV (hd es d)) := by
    by_cases z : d % 2 = 0
    · rw [hh, if_pos z, show (1 - (d : Int) % 2) = 1 by omega]; rfl
    · rw [hh, if_neg z, show (1 - (d : Int) % 2) = 0 by omega]; rfl
  refine ⟨_, (pss_one (ps_ret (pe_ix ix_tup (pe_ix ix_list (pv 0) (pe_op op_fdiv (pv 1) pe_int) (fun _ _ => rfl)) (pe_op op_sub pe_int (pe_op op_mod (pv 1) pe_int)) (fun _ _ => rfl)))), ?_⟩
  exact ⟨_, rfl, _, rfl, _, _, rfl, rfl, ⟨by decide, by decide⟩, a, ys, _, _, rfl, rfl, hS, (by rw [ed]; exact atI_nat x1), _, rfl, _, _, rfl, rfl, (by show (0 : Int) < 2; decide), _, _, rfl, rfl, p, _, _, _, rfl, rfl, SqT.of x2, hat, k⟩
theorem sc_law_behind : FnScope ["ends", "turns", "dart", "place", "row", "tie"] ["ends", "turns", "dart"] (defScope s_law_behind) := ⟨rfl, rfl, rfl, by decide +kernel, rfl, by decide +kernel, by decide +kernel⟩
theorem ok_lbehind {f fh : Addr} {fd fdh : FuncData} (F : Fun K "_law_behind" "_law_behind" s_law_behind f fd) (T : Txt mg) (G_law_head : Cal P w K mg base 1 "_law_head" ["ends", "dart"] (spLHead K) fh fdh) : FnOk P w K mg base CX0 2 f fd ["ends", "turns", "dart"] (spBehind K) := by
  refine F.ok sc_law_behind (fun vs H Q E h => ?_) (fun cdv A outer s H vs Q E hr h => ?_)
  · obtain ⟨a, b, ys, xs, m, es, ts, d, rfl, _⟩ := h
    rfl
  obtain ⟨a, b, ys, xs, m, es, ts, d, rfl, hS, hE, hB, hR, w', few, hdl, kk⟩ := h
  obtain ⟨l, e, p1, p2, p3, p4, p5, p6, p7, p8, p9⟩ := w'.foll hdl
  obtain ⟨small, len⟩ := turn_small w' few p1
  obtain ⟨q, y1, y2⟩ := hR.2 _ _ p1
  obtain ⟨p', x1', x2'⟩ := hE.2 _ _ p3
  have ed : (d : Int) / 2 = ((d / 2 : Nat) : Int) := by omega
  have hl0 : 0 < l.length := List.length_pos_of_mem p2
  have hlen : (l.map iV).length = l.length := List.length_map _
  have hmod : (((l.idxOf (d / 2) : Nat) : Int) + 1) % ((l.map iV).length : Int) = (((l.idxOf (d / 2) + 1) % l.length : Nat) : Int) := by rw [hlen]; rfl
  have m2 : CMul 2 ((nxt l (d / 2) : Nat) : Int) := .inl ⟨by decide, by decide⟩
  refine ⟨_, (pss_cons (ps_set (i := 3) sc_law_behind.nd rfl (Or.inl rfl) (pe_call G_law_head.ok (hr.mono (by decide)) rfl G_law_head.mg G_law_head.kp G_law_head.bn .nil pass0 (pa_cons (pv 0) (pa_cons (pv 2) pa_nil))))
      (pss_cons (ps_set (i := 4) sc_law_behind.nd rfl (Or.inl rfl) (pe_ix ix_list (pv 1) (pv 3) (fun _ _ => rfl)))
      (pss_cons (ps_set (i := 5) sc_law_behind.nd rfl (Or.inl rfl) (pe_ix ix_list (pv 4) (pe_op op_mod (pe_op op_add (pe_bm PySem.F.plainAttrs_list PySem.F.slot_list_index PySem.F.type_list_index mt_index (pv 4) (pa_cons (pe_op op_fdiv (pv 2) pe_int) pa_nil)) pe_int) (pe_callB call_len_seq (by rfl) T.n_len bt_len (pa_cons (pv 4) pa_nil))) (fun _ _ => rfl)))
      (pss_one (ps_ret (pe_op op_add (pe_op op_mul pe_int (pv 5)) (pe_callTy call_int1 (by rfl) T.n_int bt_int (pa_cons (pe_cmpR op_ne (pe_ix ix_tup (pe_ix ix_list (pv 0) (pv 5) (fun _ _ => rfl)) pe_int (fun _ _ => rfl)) (pv 3) (nomark _)) pa_nil)))))))), ?_⟩
  refine ⟨_, rfl, _, rfl, a, ys, es, d, rfl, hS, hE, hdl, ?_⟩
  refine ⟨_, rfl, _, rfl, b, xs, _, _, rfl, rfl, hB, atI_nat y1, ?_⟩
  refine ⟨_, rfl, _, rfl, .inl ⟨rfl, _, SqL.of y2⟩, _, rfl, _, _, rfl, rfl, ⟨by decide, by decide⟩, q, l, d / 2, rfl, congrArg (fun z => [V.int z]) ed, SqL.of y2, fun p hp => by have := small p hp; omega, by omega, p2, _, _, rfl, rfl, _, rfl, q, _, rfl, .inl (SqL.of y2), _, _, rfl, rfl, (by show (0 : Int) < ((l.map iV).length : Int); rw [hlen]; omega), q, _, _, _, rfl, rfl, SqL.of y2, (by rw [hmod]; exact iV_at (nxt_get p2)), ?_⟩
  refine ⟨_, rfl, _, _, rfl, rfl, m2, _, rfl, _, rfl, a, ys, _, _, rfl, rfl, hS, atI_nat x1', p', _, 0, _, rfl, rfl, SqT.of x2', at0, _, rfl, rfl, .inr ⟨_, rfl, _, _, rfl, rfl, ?_⟩⟩
  rw [p6] at kk
  by_cases c : e.1 = hd es d
  · rw [if_pos c] at kk
    rw [decide_eq_true (congrArg iV c)]
    simpa [iV] using kk
  · rw [if_neg c] at kk
    rw [decide_eq_false (fun z => c (by have := V.int.inj z; omega))]
    simpa [iV] using kk
theorem sc_law_round : FnScope ["ends", "turns", "dart", "row", "at"] ["ends", "turns", "dart"] (defScope s_law_round) := ⟨rfl, rfl, rfl, by decide +kernel, rfl, by decide +kernel, by decide +kernel⟩
theorem ok_lround {f ff : Addr} {fd fdf : FuncData} (F : Fun K "_law_round" "_law_round" s_law_round f fd) (G_law_behind : Cal P w K mg base 2 "_law_behind" ["ends", "turns", "dart"] (spBehind K) ff fdf) : FnOk P w K mg base CX0 3 f fd ["ends", "turns", "dart"] (spLRound K) := by
  refine F.ok sc_law_round (fun vs H Q E h => ?_) (fun cdv A outer s H vs Q E hr h => ?_)
  · obtain ⟨a, b, ys, xs, m, es, ts, d, rfl, _⟩ := h
    rfl
  obtain ⟨a, b, ys, xs, m, es, ts, d, rfl, hS, hE, hB, hR, w', few, hdl, k⟩ := h
  have pm := perm w'
  refine ⟨_, (pss_cons (ps_set (i := 3) sc_law_round.nd rfl (Or.inl rfl) (pe_lst (pa_cons (pv 2) pa_nil)))
      (pss_cons (ps_set (i := 4) sc_law_round.nd rfl (Or.inl rfl) (pe_call G_law_behind.ok (hr.mono (by decide)) rfl G_law_behind.mg G_law_behind.kp G_law_behind.bn .nil pass0 (pa_cons (pv 0) (pa_cons (pv 1) (pa_cons (pv 2) pa_nil)))))
      (pss_cons (ps_while PassesOwn.never (pt_cmpR op_ne (pv 4) (pv 2) (nomark _)) (pss_cons (ps_expr (pe_bm PySem.F.plainAttrs_list PySem.F.slot_list_append PySem.F.type_list_append mt_append (pv 3) (pa_cons (pv 4) pa_nil)))
      (pss_one (ps_set (i := 4) sc_law_round.nd rfl (Or.inl rfl) (pe_call G_law_behind.ok (hr.mono (by decide)) rfl G_law_behind.mg G_law_behind.kp G_law_behind.bn .nil pass0 (pa_cons (pv 0) (pa_cons (pv 1) (pa_cons (pv 4) pa_nil))))))))
      (pss_one (ps_ret (pv 3)))))), ?_⟩
  refine ⟨_, rfl, (by show 1 ≤ sizeLine; decide), fun q hq => ?_⟩
  have s1 := same_new hq (.lst [.int (d : Int)])
  refine ⟨_, rfl, _, rfl, _, rfl, a, b, ys, xs, m, es, ts, d, rfl, s1.seq hS, hE.mono s1, s1.seq hB, hR.mono s1, w', few, hdl, ?_⟩
  refine while_by (fun σ H2 => ∃ (r : List Nat) (x : Nat), σ = [some (.ref a), some (.ref b), some (.int (d : Int)), some (.ref q), some (iV (fol es ts x))] ∧ Same H H2 ∧ H2 q = some (.lst ((r ++ [x]).map iV)) ∧ Path (fol es ts) (2 * es.length) d (r ++ [x]))
    (fun σ H2 => match H2 q with | some (.lst xs) => 200 - xs.length | _ => 0) ⟨[], d, rfl, s1, upd_same, path_one hdl⟩ ?_ ?_
  · rintro σ H2 ⟨r, x, rfl, s2, hq2, pa⟩
    refine ⟨_, rfl, _, rfl, rfl, _, rfl, ?_⟩
    have hlen := len_le pa.nd pa.lt
    refine ite2 (fun c => ?_) (fun c => ?_)
    · have c' : fol es ts x ≠ d := fun z => by
        rw [decide_eq_true (show iV (fol es ts x) = V.int (d : Int) by rw [z]; rfl)] at c
        cases c
      have pa2 := pa.snoc pm c'
      have hlen2 := len_le pa2.nd pa2.lt
      have lt2 : fol es ts x < 2 * es.length := pa2.lt _ (by simp)
      refine ⟨_, rfl, .inl ⟨rfl, _, SqL.of hq2⟩, _, rfl, q, _, _, rfl, rfl, hq2, small1000 (by rw [List.length_map]; omega), ?_⟩
      have s3 := same_upd s2 hq (.lst ((r ++ [x]).map iV ++ [iV (fol es ts x)]))
      refine ⟨_, rfl, _, rfl, _, rfl, a, b, ys, xs, m, es, ts, fol es ts x, rfl, s3.seq hS, hE.mono s3, s3.seq hB, hR.mono s3, w', few, lt2, ?_⟩
      refine ⟨⟨r ++ [x], fol es ts x, rfl, s3, ?_, pa2⟩, ?_⟩
      · rw [upd_same, show ((r ++ [x] ++ [fol es ts x]).map iV) = (r ++ [x]).map iV ++ [iV (fol es ts x)] from by rw [List.map_append]; rfl]
      · show (match (upd H2 q (.lst ((r ++ [x]).map iV ++ [iV (fol es ts x)]))) q with | some (.lst xs) => 200 - xs.length | _ => 0) < (match H2 q with | some (.lst xs) => 200 - xs.length | _ => 0)
        rw [upd_same, hq2]
        show 200 - ((r ++ [x]).map iV ++ [iV (fol es ts x)]).length < 200 - ((r ++ [x]).map iV).length
        rw [List.length_append, List.length_map, List.length_singleton]
        omega
    · have c' : fol es ts x = d := by
        by_cases z : fol es ts x = d
        · exact z
        · exact absurd (by rw [decide_eq_false (fun y => z (by have := V.int.inj y; omega))]; rfl) c
      refine ⟨_, rfl, ?_⟩
      exact k q _ H2 s2 hq hq2 pa (pa.ring pm c')
  · rintro σ H2 Q1 Q2 hi ⟨v', e, b', e2, z1, c', e3, q'⟩
    exact ⟨v', e, b', e2, z1, c', e3, hi _ _ q'⟩
end
end K8


namespace K8
open PySem L2
local macro_rules | `(tactic| walk_at "cc") => `(tactic| first | exact ⟨by decide, by decide⟩ | (show (0 : Int) < _; decide) | (show (0 : Int) < _; omega) | (show (0 : Int) ≤ _; omega) | exact ⟨by decide, by decide, by decide⟩ | exact ⟨by omega, by omega, by decide⟩ | exact Or.inl ⟨by decide, by decide⟩ | exact Or.inl ⟨by omega, by omega⟩)
local macro_rules | `(tactic| walk_at "rd") => `(tactic| repeat (first | refine ⟨_, rfl, ?_⟩ | refine ⟨_, _, rfl, rfl, ?_⟩ | refine ⟨rfl, ?_⟩ | (refine ⟨?cc, ?_⟩; (case cc => walk_at "cc"))))

def spOrder : Sp := fun vs H Q _ => ∃ (c : Int) (m : Nat), vs = [.int c, .int (m : Int)] ∧ m ≤ 100 ∧ ∀ (q : Addr) (o : List Nat) (H' : Hp), Same H H' → H q = none → H' q = some (.lst (o.map iV)) → o.length = m → o.Nodup → (∀ x ∈ o, x < m) → Q (.ref q) H'
def spGrown (K : PySem.W.Frag) : Sp := fun vs H Q _ => ∃ (a : Addr) (cs : List Int), vs = [.ref a] ∧ SqL K H a (cs.map V.int) ∧ cs.length ≤ 31 ∧
  ∀ (t pe pt : Addr) (ys xs : List V) (m : Nat) (es : En) (ts : List (List Nat)) (H' : Hp), Same H H' → H' t = some (.tup [.ref pe, .ref pt]) → H' pe = some (.lst ys) → EndsAt H' ys es → H' pt = some (.lst xs) → RowsAt H' xs ts → Gr m es ts → es.length = cs.length + 1 → Q (.ref t) H'
/-- the growing, as it stands -/
def GrowI (H : Hp) (a pe pt : Addr) (i : Nat) (σ : St) (H5 : Hp) : Prop := ∃ v3 v4 v5 v6 v7 v8 v9 v10 ys xs m es ts, σ = [some (.ref a), some (.ref pe), some (.ref pt), v3, v4, v5, v6, v7, v8, v9, v10] ∧ Same H H5 ∧ H5 pe = some (.lst ys) ∧ EndsAt H5 ys es ∧ H5 pt = some (.lst xs) ∧ RowsX (fun p => p = pe ∨ p = pt ∨ H p ≠ none) H5 xs ts ∧ Dist xs ∧ Gr m es ts ∧ es.length = i + 1
theorem grow_fin {H H7 : Hp} {a pe pt : Addr} {i m' : Nat} {ys xs : List V} {es : En} {e : Nat × Nat} {ts' : List (List Nat)} (npe : pe ≠ pt) (hpe : H pe = none) (s7 : Same H H7) (h1 : H7 pe = some (.lst ys)) (h2 : EndsAt H7 ys es) (h3 : H7 pt = some (.lst xs)) (h4 : RowsX (fun p => p = pe ∨ p = pt ∨ H p ≠ none) H7 xs ts') (h5 : Dist xs) (h6 : Gr m' (es ++ [e]) ts') (hi : es.length = i + 1)
    {t : Addr} (ht : H7 t = none) {x y : V} (hx : x = iV e.1) (hy : y = iV e.2) (v3 v4 v5 v6 v7 v8 v9 v10 : Option V) : GrowI H a pe pt (i + 1) [some (.ref a), some (.ref pe), some (.ref pt), v3, v4, v5, v6, v7, v8, v9, v10] (upd (upd H7 t (.tup [x, y])) pe (.lst (ys ++ [.ref t]))) := by
  subst hx hy
  have sn := same_new ht (.tup [iV e.1, iV e.2])
  refine ⟨_, _, _, _, _, _, _, _, _, xs, m', es ++ [e], ts', rfl, same_upd (s7.trans sn) hpe _, upd_same, ((h2.mono sn).snoc upd_same).put (sn _ _ h1), by rw [upd_ne npe.symm]; exact sn _ _ h3, h4.mono fun p o n z => ?_, h5, h6, by rw [List.length_append, hi]; rfl⟩
  rw [upd_ne (fun z => n (.inl z))]
  exact sn _ _ z
theorem dist_snoc {S : Addr → Prop} {H : Hp} {xs : List V} {ts : List (List Nat)} {q : Addr} (h : RowsX S H xs ts) (D : Dist xs) (hq : H q = none) : Dist (xs ++ [.ref q]) := by
  have old : ∀ (j : Nat) (p : Addr), j < xs.length → (xs ++ [V.ref q])[j]? = some (.ref p) → xs[j]? = some (.ref p) ∧ p ≠ q := fun j p hj e => by
    rw [List.getElem?_append_left hj] at e
    obtain ⟨p', a1, _, a3⟩ := h.2 j _ (List.getElem?_eq_getElem (by rw [← h.1]; exact hj))
    rw [e] at a1
    cases a1
    exact ⟨e, ne_of_none a3 hq⟩
  have new : ∀ (j : Nat) (p : Addr), ¬ j < xs.length → (xs ++ [V.ref q])[j]? = some (.ref p) → j = xs.length ∧ p = q := fun j p hj e => by
    have := (List.getElem?_eq_some_iff.mp e).1
    rw [List.length_append, List.length_singleton] at this
    have hj2 : j = xs.length := by omega
    subst hj2
    rw [List.getElem?_append_right (Nat.le_refl _), Nat.sub_self] at e
    cases e
    exact ⟨rfl, rfl⟩
  intro j k p e1 e2
  by_cases hj : j < xs.length
  · obtain ⟨u1, u2⟩ := old j p hj e1
    by_cases hk : k < xs.length
    · exact D j k p u1 (old k p hk e2).1
    · exact absurd (new k p hk e2).2 u2
  · obtain ⟨u1, u2⟩ := new j p hj e1
    by_cases hk : k < xs.length
    · exact absurd u2 (old k p hk e2).2
    · rw [u1, (new k p hk e2).1]
theorem gr_few {m : Nat} {es : En} {ts : List (List Nat)} (g : Gr m es ts) : m ≤ es.length + 2 := by
  obtain ⟨rs, _, c⟩ := g.part
  omega
section
variable {P : Program} {w : World} {K : PySem.W.Frag} {mg : Str → Option Value} {base : Heap}
theorem sc_law_order : FnScope ["cell", "many", "order", "mixed", "k"] ["cell", "many"] (defScope s_law_order) := ⟨rfl, rfl, rfl, by decide +kernel, rfl, by decide +kernel, by decide +kernel⟩
theorem ok_order {f : Addr} {fd : FuncData} (F : Fun K "_law_order" "_law_order" s_law_order f fd) (T : Txt mg) : FnOk P w K mg base CX0 1 f fd ["cell", "many"] spOrder := by
  refine F.ok sc_law_order (fun vs H Q E h => ?_) (fun cdv A outer s H vs Q E hr h => ?_)
  · obtain ⟨c, m, rfl, _⟩ := h
    rfl
  obtain ⟨c, m, rfl, hm, k⟩ := h
  refine ⟨_, (pss_cons (ps_set (i := 2) sc_law_order.nd rfl (Or.inl rfl) (pe_lst pa_nil))
      (pss_cons (ps_set (i := 3) sc_law_order.nd rfl (Or.inl rfl) (pe_op op_mod (pv 0) pe_int))
      (pss_cons (ps_for PassesOwn.never rfl (pi_range1 rfl T.n_range (pa_cons (pv 1) pa_nil)) (pg_name (i := 4) sc_law_order.nd rfl (Or.inl rfl)) (pss_cons (ps_set (i := 3) sc_law_order.nd rfl (Or.inl rfl) (pe_op op_mod (pe_op op_mul (pv 3) pe_int) pe_int))
      (pss_one (ps_expr (pe_bm PySem.F.plainAttrs_list PySem.F.slot_list_insert PySem.F.type_list_insert mt_insert (pv 2) (pa_cons (pe_op op_mod (pv 3) (pe_op op_add (pv 4) pe_int)) (pa_cons (pv 4) pa_nil)))))))
      (pss_one (ps_ret (pv 2)))))), ?_⟩
  refine ⟨(by show 0 ≤ sizeLine; decide), fun q hq => ?_⟩
  refine ⟨_, rfl, _, _, rfl, rfl, (by show (0 : Int) < 1000000007; decide), ?_⟩
  refine ⟨_, rfl, _, rfl, by omega, by omega, for_range (n := (m : Int).toNat) (fun i σ H2 => ∃ (M : Int), ∃ v4 o, σ = [some (.int c), some (.int (m : Int)), some (.ref q), some (.int M), v4] ∧ Same H H2 ∧ H2 q = some (.lst (o.map iV)) ∧ o.length = i ∧ o.Nodup ∧ ∀ x ∈ o, x < i) ⟨_, _, [], rfl, same_new hq _, upd_same, rfl, List.nodup_nil, fun x hx => nomatch hx⟩ ?_ ?_⟩
  · rintro i σ H2 hi ⟨M, v4, o, rfl, s2, hq2, ol, nd, lt⟩
    rw [Int.toNat_natCast] at hi
    have e0 : (0 : Int) + (i : Int) = (i : Int) := Int.zero_add _
    rw [e0]
    have hlen : (o.map iV).length = i := by rw [List.length_map]; exact ol
    refine ⟨_, rfl, _, _, rfl, rfl, .inr ⟨by decide, by decide⟩, _, _, rfl, rfl, (by show (0 : Int) < 2147483647; decide), ?_⟩
    refine ⟨_, rfl, .inl ⟨rfl, _, SqL.of hq2⟩, _, rfl, _, rfl, _, _, rfl, rfl, _, _, rfl, rfl, (by show (0 : Int) < (i : Int) + 1; omega), _, rfl, q, _, _, _, rfl, rfl, hq2, (mod_le _ _).1, (by rw [hlen]; exact (mod_le _ _).2), small1000 (by omega), ?_⟩
    rw [insV]
    refine ⟨_, _, _, rfl, same_upd s2 hq _, upd_same, by rw [ins_len, ol], ins_nd nd fun z => by have := lt i z; omega, fun x hx => ?_⟩
    rcases ins_mem.mp hx with z | z
    · omega
    · have := lt x z; omega
  · rintro σ H2 ⟨M, v4, o, rfl, s2, hq2, ol, nd, lt⟩
    rw [Int.toNat_natCast] at ol lt
    exact ⟨_, rfl, k q o H2 s2 hq hq2 ol nd lt⟩
theorem sc_law_grown : FnScope ["cells", "ends", "turns", "cell", "mixed", "fresh", "left", "row", "right", "one", "two"] ["cells"] (defScope s_law_grown) := ⟨rfl, rfl, rfl, by decide +kernel, rfl, by decide +kernel, by decide +kernel⟩
theorem ok_grown {f fr fh : Addr} {fd fdr fdh : FuncData} (F : Fun K "_law_grown" "_law_grown" s_law_grown f fd) (T : Txt mg) (G_law_round : Cal P w K mg base 3 "_law_round" ["ends", "turns", "dart"] (spLRound K) fr fdr) (G_law_head : Cal P w K mg base 1 "_law_head" ["ends", "dart"] (spLHead K) fh fdh) :
    FnOk P w K mg base CX0 4 f fd ["cells"] (spGrown K) := by
  refine F.ok sc_law_grown (fun vs H Q E h => ?_) (fun cdv A outer s H vs Q E hr h => ?_)
  · obtain ⟨a, cs, rfl, _⟩ := h
    rfl
  obtain ⟨a, cs, rfl, hS, h30, kk⟩ := h
  have hcl : (cs.map V.int).length = cs.length := List.length_map _
  refine ⟨_, (pss_cons (ps_set (i := 1) sc_law_grown.nd rfl (Or.inl rfl) (pe_lst (pa_cons (pe_tup (pa_cons pe_int (pa_cons pe_int pa_nil))) pa_nil)))
      (pss_cons (ps_set (i := 2) sc_law_grown.nd rfl (Or.inl rfl) (pe_lst (pa_cons (pe_lst (pa_cons pe_int pa_nil)) (pa_cons (pe_lst (pa_cons pe_int pa_nil)) pa_nil))))
      (pss_cons (ps_for PassesOwn.never rfl (pi_list (pv 0)) (pg_name (i := 3) sc_law_grown.nd rfl (Or.inl rfl)) (pss_cons (ps_set (i := 4) sc_law_grown.nd rfl (Or.inl rfl) (pe_op op_mod (pe_op op_mul (pe_op op_mod (pv 3) pe_int) pe_int) pe_int))
      (pss_cons (ps_set (i := 5) sc_law_grown.nd rfl (Or.inl rfl) (pe_callB call_len_seq (by rfl) T.n_len bt_len (pa_cons (pv 1) pa_nil)))
      (pss_cons (ps_set (i := 6) sc_law_grown.nd rfl (Or.inl rfl) (pe_op op_mod (pe_op op_fdiv (pv 4) pe_int) (pe_op op_mul pe_int (pv 5))))
      (pss_cons (ps_set (i := 7) sc_law_grown.nd rfl (Or.inl rfl) (pe_call G_law_round.ok (hr.mono (by decide)) rfl G_law_round.mg G_law_round.kp G_law_round.bn .nil pass0 (pa_cons (pv 1) (pa_cons (pv 2) (pa_cons (pv 6) pa_nil)))))
      (pss_cons (ps_set (i := 8) sc_law_grown.nd rfl (Or.inl rfl) (pe_ix ix_list (pv 7) (pe_op op_mod (pe_op op_mod (pe_op op_mul (pv 4) (pv 4)) pe_int) (pe_callB call_len_seq (by rfl) T.n_len bt_len (pa_cons (pv 7) pa_nil))) (fun _ _ => rfl)))
      (pss_cons (ps_set (i := 9) sc_law_grown.nd rfl (Or.inl rfl) (pe_call G_law_head.ok (hr.mono (by decide)) rfl G_law_head.mg G_law_head.kp G_law_head.bn .nil pass0 (pa_cons (pv 1) (pa_cons (pv 6) pa_nil))))
      (pss_cons (ps_set (i := 10) sc_law_grown.nd rfl (Or.inl rfl) (pe_call G_law_head.ok (hr.mono (by decide)) rfl G_law_head.mg G_law_head.kp G_law_head.bn .nil pass0 (pa_cons (pv 1) (pa_cons (pv 8) pa_nil))))
      (pss_cons (ps_expr (pe_bm PySem.F.plainAttrs_list PySem.F.slot_list_insert PySem.F.type_list_insert mt_insert (pe_ix ix_list (pv 2) (pv 9) (fun _ _ => rfl)) (pa_cons (pe_op op_add (pe_bm PySem.F.plainAttrs_list PySem.F.slot_list_index PySem.F.type_list_index mt_index (pe_ix ix_list (pv 2) (pv 9) (fun _ _ => rfl)) (pa_cons (pe_op op_fdiv (pv 6) pe_int) pa_nil)) pe_int) (pa_cons (pv 5) pa_nil))))
      (pss_cons (ps_if (PW.pt (pw_or (pt_cmpR op_eq (pe_op op_mod (pv 4) pe_int) pe_int (nomark _)) (pw_or1 (pt_cmpR op_eq (pv 9) (pv 10) (nomark _))))) (pss_cons (ps_set (i := 10) sc_law_grown.nd rfl (Or.inl rfl) (pe_callB call_len_seq (by rfl) T.n_len bt_len (pa_cons (pv 2) pa_nil)))
      (pss_one (ps_expr (pe_bm PySem.F.plainAttrs_list PySem.F.slot_list_append PySem.F.type_list_append mt_append (pv 2) (pa_cons (pe_lst (pa_cons (pv 5) pa_nil)) pa_nil))))) (pss_one (ps_expr (pe_bm PySem.F.plainAttrs_list PySem.F.slot_list_insert PySem.F.type_list_insert mt_insert (pe_ix ix_list (pv 2) (pv 10) (fun _ _ => rfl)) (pa_cons (pe_op op_add (pe_bm PySem.F.plainAttrs_list PySem.F.slot_list_index PySem.F.type_list_index mt_index (pe_ix ix_list (pv 2) (pv 10) (fun _ _ => rfl)) (pa_cons (pe_op op_fdiv (pv 8) pe_int) pa_nil)) pe_int) (pa_cons (pv 5) pa_nil))))))
      (pss_one (ps_if (pt_cmpR op_eq (pe_op op_mod (pe_op op_fdiv (pv 3) pe_int) pe_int) pe_int (nomark _)) (pss_one (ps_expr (pe_bm PySem.F.plainAttrs_list PySem.F.slot_list_append PySem.F.type_list_append mt_append (pv 1) (pa_cons (pe_tup (pa_cons (pv 10) (pa_cons (pv 9) pa_nil))) pa_nil)))) (pss_one (ps_expr (pe_bm PySem.F.plainAttrs_list PySem.F.slot_list_append PySem.F.type_list_append mt_append (pv 1) (pa_cons (pe_tup (pa_cons (pv 9) (pa_cons (pv 10) pa_nil))) pa_nil))))))))))))))))
      (pss_one (ps_ret (pe_tup (pa_cons (pv 1) (pa_cons (pv 2) pa_nil)))))))), ?_⟩
  refine ⟨(by show 2 ≤ sizeLine; decide), fun t0 ht0 => ⟨(by show 1 ≤ sizeLine; decide), fun pe hpe => ?_⟩⟩
  have s1 := same_new ht0 (.tup [.int 0, .int 1])
  have s2 := s1.trans (same_new hpe (.lst [.ref t0]))
  refine ⟨(by show 1 ≤ sizeLine; decide), fun p0 hp0 => ⟨(by show 1 ≤ sizeLine; decide), fun p1 hp1 => ⟨(by show 2 ≤ sizeLine; decide), fun pt hpt => ?_⟩⟩⟩
  have s3 := same_new hp0 (.lst [.int 0])
  have s4 := same_new hp1 (.lst [.int 0])
  have s5 := same_new hpt (.lst [.ref p0, .ref p1])
  have s05 := ((s2.trans s3).trans s4).trans s5
  have none_of : ∀ {G : Hp} {p : Addr}, Same H G → G p = none → H p = none := fun {G p} sm z => by
    cases y : H p with
    | none => rfl
    | some o => rw [sm _ _ y] at z; cases z
  have hpe0 := none_of s1 hpe
  have hpt0 := none_of ((s2.trans s3).trans s4) hpt
  have hp00 := none_of s2 hp0
  have hp10 := none_of (s2.trans s3) hp1
  have g1 := s3.trans (s4.trans s5)
  have hpe5 := g1 _ _ (upd_same (H := upd H t0 (.tup [.int 0, .int 1])) (a := pe) (o := .lst [.ref t0]))
  have hp05 := (s4.trans s5) _ _ (upd_same (a := p0) (o := .lst [.int 0]))
  have hp15 := s5 _ _ (upd_same (a := p1) (o := .lst [.int 0]))
  have n01 : p0 ≠ p1 := ne_of_none (upd_same (a := p0) (o := .lst [.int 0])) hp1
  have npe : pe ≠ pt := ne_of_none ((s3.trans s4) _ _ (upd_same (a := pe) (o := .lst [.ref t0]))) hpt
  have n0e : p0 ≠ pe := fun z => by rw [z, upd_same] at hp0; cases hp0
  have n1e : p1 ≠ pe := fun z => by rw [z, s3 _ _ (upd_same (a := pe) (o := .lst [.ref t0]))] at hp1; cases hp1
  have n0t : p0 ≠ pt := ne_of_none (s4 _ _ (upd_same (a := p0) (o := .lst [.int 0]))) hpt
  have n1t : p1 ≠ pt := ne_of_none (upd_same (a := p1) (o := .lst [.int 0])) hpt
  have init : GrowI H a pe pt 0 [some (.ref a), some (.ref pe), some (.ref pt), none, none, none, none, none, none, none, none] (upd (upd (upd (upd (upd H t0 (.tup [.int 0, .int 1])) pe (.lst [.ref t0])) p0 (.lst [.int 0])) p1 (.lst [.int 0])) pt (.lst [.ref p0, .ref p1])) := by
    refine ⟨_, _, _, _, _, _, _, _, [.ref t0], [.ref p0, .ref p1], 2, [(0, 1)], [[0], [0]], rfl, s05, hpe5, ⟨rfl, fun i e z => ?_⟩, upd_same, ⟨rfl, fun i l z => ?_⟩, fun i j p z1 z2 => ?_, gr_two, rfl⟩
    · match i, z with
      | 0, z => cases z; exact ⟨t0, rfl, ((same_new hpe _).trans g1) _ _ upd_same⟩
      | i + 1, z => cases z
    · match i, z with
      | 0, z => cases z; exact ⟨p0, rfl, by rintro (y | y | y); exact n0e y; exact n0t y; exact y hp00, hp05⟩
      | 1, z => cases z; exact ⟨p1, rfl, by rintro (y | y | y); exact n1e y; exact n1t y; exact y hp10, hp15⟩
      | i + 2, z => cases z
    · match i, z1, j, z2 with
      | 0, z1, 0, z2 => rfl
      | 1, z1, 1, z2 => rfl
      | 0, z1, 1, z2 => cases z1; cases z2; exact absurd rfl n01
      | 1, z1, 0, z2 => cases z1; cases z2; exact absurd rfl n01
      | i + 2, z1, _, _ => cases z1
      | 0, _, j + 2, z2 => cases z2
      | 1, _, j + 2, z2 => cases z2
  refine ⟨_, rfl, a, rfl, ⟨_, s05.seq hS⟩, for_list (xs := cs.map V.int) (fun i σ H5 => GrowI H a pe pt i σ H5) init (fun i σ H5 _ ⟨_, _, _, _, _, _, _, _, _, _, _, _, _, _, z, _⟩ => z.seq hS) ?_ ?_⟩
  · rintro i x σ H5 hx ⟨v3, v4, v5, v6, v7, v8, v9, v10, ys, xs, m, es, ts, rfl, s5, hpe5, en, hpt5, rx5, D, g, hi⟩
    rw [List.getElem?_map] at hx
    obtain ⟨c, hc, rfl⟩ := Option.map_eq_some_iff.mp hx
    have hil : i < cs.length := (List.getElem?_eq_some_iff.mp hc).1
    have hyl : ys.length = es.length := en.1
    have few : es.length ≤ 62 := by omega
    have w' := g.w
    have tlen := w'.len
    have mfew := gr_few g
    have o0 : (0 : Int) ≤ c % 1000000007 * 48271 % 2147483647 := Int.emod_nonneg _ (by decide)
    have o1 : c % 1000000007 * 48271 % 2147483647 < 2147483647 := Int.emod_lt_of_pos _ (by decide)
    -- mixed, fresh, left
    refine ⟨_, rfl, _, _, rfl, rfl, (by show (0 : Int) < 1000000007; decide), _, _, rfl, rfl, .inr ⟨by decide, by decide⟩, _, _, rfl, rfl, (by show (0 : Int) < 2147483647; decide), ?_⟩
    refine ⟨_, rfl, pe, ys, rfl, .inl (SqL.of hpe5), ?_⟩
    have hfr : (0 : Int) < 2 * (ys.length : Int) := by omega
    refine ⟨_, rfl, _, _, rfl, rfl, ⟨by decide, by decide⟩, _, rfl, _, _, rfl, rfl, .inl ⟨by decide, by decide⟩, _, _, rfl, rfl, hfr, ?_⟩
    have l0 := Int.emod_nonneg (c % 1000000007 * 48271 % 2147483647 / 2) (show 2 * (ys.length : Int) ≠ 0 by omega)
    have l1 := Int.emod_lt_of_pos (c % 1000000007 * 48271 % 2147483647 / 2) hfr
    obtain ⟨L, hL⟩ : ∃ L : Nat, c % 1000000007 * 48271 % 2147483647 / 2 % (2 * (ys.length : Int)) = (L : Int) := ⟨_, (Int.toNat_of_nonneg l0).symm⟩
    have hLl : L < 2 * es.length := by omega
    -- row = _law_round(ends, turns, left)
    refine ⟨_, rfl, _, rfl, _, rfl, pe, pt, ys, xs, m, es, ts, L, congrArg (fun z => [V.ref pe, V.ref pt, V.int z]) hL, SqL.of hpe5, en, SqL.of hpt5, rx5.off, w', few, hLl, fun q r H6 s6 hq hq6 pa ri => ?_⟩
    have hrlen : (r.map iV).length = r.length := List.length_map _
    have hr0 := ri.ne
    have hrp : (0 : Int) < ((r.map iV).length : Int) := by omega
    have j0 := Int.emod_nonneg (c % 1000000007 * 48271 % 2147483647 * (c % 1000000007 * 48271 % 2147483647) % 1000003) (show ((r.map iV).length : Int) ≠ 0 by omega)
    have j1 := Int.emod_lt_of_pos (c % 1000000007 * 48271 % 2147483647 * (c % 1000000007 * 48271 % 2147483647) % 1000003) hrp
    obtain ⟨J, hJ⟩ : ∃ J : Nat, c % 1000000007 * 48271 % 2147483647 * (c % 1000000007 * 48271 % 2147483647) % 1000003 % ((r.map iV).length : Int) = (J : Int) := ⟨_, (Int.toNat_of_nonneg j0).symm⟩
    have hJl : J < r.length := by omega
    obtain ⟨R, hR⟩ : ∃ R, r[J]? = some R := ⟨_, List.getElem?_eq_getElem hJl⟩
    have hRm := List.mem_of_getElem? hR
    have hRl := ri.lt R hRm
    refine ⟨_, rfl, _, rfl, _, rfl, _, _, rfl, rfl, .inl ⟨by show -(2 ^ 64 : Int) < c % 1000000007 * 48271 % 2147483647; omega, by show c % 1000000007 * 48271 % 2147483647 < (2 ^ 64 : Int); omega⟩, _, _, rfl, rfl, (by show (0 : Int) < 1000003; decide), _, rfl, q, _, rfl, .inl (SqL.of hq6), _, _, rfl, rfl, hrp, q, _, _, _, rfl, rfl, SqL.of hq6, (by rw [hJ]; exact iV_at hR), ?_⟩
    have s06 := s5.trans s6
    have hpe6 := s6 _ _ hpe5
    have hpt6 := s6 _ _ hpt5
    have en6 := en.mono s6
    have rx6 : RowsX (fun p => p = pe ∨ p = pt ∨ H p ≠ none) H6 xs ts := rx5.mono fun p o _ z => s6 _ _ z
    -- one, two
    refine ⟨_, rfl, _, rfl, pe, ys, es, L, congrArg (fun z => [V.ref pe, V.int z]) hL, SqL.of hpe6, en6, hLl, ?_⟩
    refine ⟨_, rfl, _, rfl, pe, ys, es, R, rfl, SqL.of hpe6, en6, hRl, ?_⟩
    obtain ⟨_, l, _, _, _, k4, k5, k6⟩ := w'.at hLl
    obtain ⟨_, l', _, _, _, k4', k5', k6'⟩ := w'.at hRl
    obtain ⟨p1, y1, y2, y3⟩ := rx6.2 _ _ k5
    obtain ⟨p2, z1, z2, z3⟩ := rx6.2 _ _ k5'
    obtain ⟨sm1, f1⟩ := turn_small w' few k5
    obtain ⟨sm2, f2⟩ := turn_small w' few k5'
    have len1 : (l.map iV).length = l.length := List.length_map _
    have len2 : (l'.map iV).length = l'.length := List.length_map _
    have ix1 : l.idxOf (L / 2) < l.length := List.idxOf_lt_length_of_mem k6
    have ix2 : l'.idxOf (R / 2) < l'.length := List.idxOf_lt_length_of_mem k6'
    have ne_S : ∀ {p q : Addr}, ¬ (p = pe ∨ p = pt ∨ H p ≠ none) → (q = pe ∨ q = pt) → q ≠ p := fun n y z => n (by rw [← z]; rcases y with y | y <;> simp [y])
    have no_S : ∀ {p : Addr}, ¬ (p = pe ∨ p = pt ∨ H p ≠ none) → H p = none := fun {p} n => by
      cases y : H p with
      | none => rfl
      | some o => exact absurd (.inr (.inr (by rw [y]; exact fun z => nomatch z))) n
    have hp1 := no_S y2
    have hp2 := no_S z2
    have eL : c % 1000000007 * 48271 % 2147483647 / 2 % (2 * (ys.length : Int)) / 2 = ((L / 2 : Nat) : Int) := by rw [hL]; omega
    have eR : (R : Int) / 2 = ((R / 2 : Nat) : Int) := by omega
    -- turns[one].insert(..)
    refine ⟨_, rfl, _, rfl, pt, xs, _, _, rfl, rfl, SqL.of hpt6, atI_nat y1, .inl ⟨rfl, _, SqL.of y3⟩, _, rfl, _, rfl, pt, xs, _, _, rfl, rfl, SqL.of hpt6, atI_nat y1, .inl ⟨rfl, _, SqL.of y3⟩, _, rfl, _, _, rfl, rfl, ⟨by decide, by decide⟩, p1, l, L / 2, rfl, congrArg (fun z => [V.int z]) eL, SqL.of y3, fun p hp => by have := sm1 p hp; omega, by omega, k6, _, _, rfl, rfl, _, rfl, p1, _, _, _, rfl, rfl, y3, by omega, by omega, small1000 (by omega), ?_⟩
    rw [hyl, insV, show (((l.idxOf (L / 2) : Nat) : Int) + 1).toNat = l.idxOf (L / 2) + 1 by omega]
    have s07 := same_upd s06 hp1 (.lst ((ins l (l.idxOf (L / 2) + 1) es.length).map iV))
    have hpe7 : (upd H6 p1 (.lst ((ins l (l.idxOf (L / 2) + 1) es.length).map iV))) pe = some (.lst ys) := by rw [upd_ne (ne_S y2 (.inl rfl))]; exact hpe6
    have hpt7 : (upd H6 p1 (.lst ((ins l (l.idxOf (L / 2) + 1) es.length).map iV))) pt = some (.lst xs) := by rw [upd_ne (ne_S y2 (.inr rfl))]; exact hpt6
    have en7 := en6.put (o := .lst ((ins l (l.idxOf (L / 2) + 1) es.length).map iV)) y3
    have rx7 := rx6.set (l' := ins l (l.idxOf (L / 2) + 1) es.length) D y1
    have z7 : hd es L ≠ hd es R → (upd H6 p1 (.lst ((ins l (l.idxOf (L / 2) + 1) es.length).map iV))) p2 = some (.lst (l'.map iV)) := fun n => by
      rw [upd_ne (fun y => by rw [y] at z1; exact n (D _ _ p1 y1 z1))]; exact z3
    generalize hH7 : upd H6 p1 (.lst ((ins l (l.idxOf (L / 2) + 1) es.length).map iV)) = H7 at s07 hpe7 hpt7 en7 rx7 z7
    obtain ⟨x0, tail, rfl, ch⟩ := ri.cr.ch
    have hx0 : x0 = L := by
      have := pa.hd
      exact Option.some.inj this
    subst hx0
    have xl : xs.length = m := by rw [rx5.1, tlen]
    have hcr := ri.cr
    refine ⟨_, rfl, _, _, rfl, rfl, (by show (0 : Int) < 2; decide), rfl, _, rfl, ite2 (fun c => iteT ?_) (fun c => ⟨_, rfl, _, rfl, rfl, _, rfl, ite2 (fun c2 => ?_) (fun c2 => ?_)⟩)⟩
    rotate_left 2
    · have n : hd es x0 ≠ hd es R := fun z => c2 (decide_eq_true (by rw [z]))
      have z7 := z7 n
      refine ⟨_, rfl, _, rfl, pt, xs, _, _, rfl, rfl, SqL.of hpt7, atI_nat z1, .inl ⟨rfl, _, SqL.of z7⟩, _, rfl, _, rfl, pt, xs, _, _, rfl, rfl, SqL.of hpt7, atI_nat z1, .inl ⟨rfl, _, SqL.of z7⟩, _, rfl, _, _, rfl, rfl, ⟨by decide, by decide⟩, p2, l', R / 2, rfl, congrArg (fun z => [V.int z]) eR, SqL.of z7, fun p hp => by have := sm2 p hp; omega, by omega, k6', _, _, rfl, rfl, _, rfl, p2, _, _, _, rfl, rfl, z7, by omega, by omega, small1000 (by omega), ?_⟩
      rw [insV, show (((l'.idxOf (R / 2) : Nat) : Int) + 1).toNat = l'.idxOf (R / 2) + 1 by omega]
      have s08 := same_upd s07 hp2 (.lst ((ins l' (l'.idxOf (R / 2) + 1) es.length).map iV))
      have hpe8 : (upd H7 p2 (.lst ((ins l' (l'.idxOf (R / 2) + 1) es.length).map iV))) pe = some (.lst ys) := by rw [upd_ne (ne_S z2 (.inl rfl))]; exact hpe7
      have hpt8 : (upd H7 p2 (.lst ((ins l' (l'.idxOf (R / 2) + 1) es.length).map iV))) pt = some (.lst xs) := by rw [upd_ne (ne_S z2 (.inr rfl))]; exact hpt7
      have en8 := en7.put (o := .lst ((ins l' (l'.idxOf (R / 2) + 1) es.length).map iV)) z7
      have rx8 := rx7.set (l' := ins l' (l'.idxOf (R / 2) + 1) es.length) D z1
      refine ⟨_, rfl, _, _, rfl, rfl, ⟨by decide, by decide⟩, _, _, rfl, rfl, (by show (0 : Int) < 2; decide), rfl, _, rfl, ite2 (fun _ => ?_) (fun _ => ?_)⟩
      · refine ⟨_, rfl, .inl ⟨rfl, _, SqL.of hpe8⟩, _, rfl, _, rfl, (by show 2 ≤ sizeLine; decide), fun t ht => ⟨pe, ys, _, rfl, rfl, same_new ht _ _ _ hpe8, small1000 (by omega), ?_⟩⟩
        exact grow_fin npe hpe0 s08 hpe8 en8 hpt8 rx8 D (g.join (e := (hd es R, hd es x0)) hLl hcr ch hRm rfl rfl n (.inr rfl) k5 k5') hi ht rfl rfl _ _ _ _ _ _ _ _
      · refine ⟨_, rfl, .inl ⟨rfl, _, SqL.of hpe8⟩, _, rfl, _, rfl, (by show 2 ≤ sizeLine; decide), fun t ht => ⟨pe, ys, _, rfl, rfl, same_new ht _ _ _ hpe8, small1000 (by omega), ?_⟩⟩
        exact grow_fin npe hpe0 s08 hpe8 en8 hpt8 rx8 D (g.join (e := (hd es x0, hd es R)) hLl hcr ch hRm rfl rfl n (.inl rfl) k5 k5') hi ht rfl rfl _ _ _ _ _ _ _ _
    all_goals
      refine ⟨_, rfl, pt, xs, rfl, .inl (SqL.of hpt7), ?_⟩
      refine ⟨_, rfl, .inl ⟨rfl, _, SqL.of hpt7⟩, _, rfl, (by show 1 ≤ sizeLine; decide), fun pn hpn => ⟨pt, xs, _, rfl, rfl, same_new hpn _ _ _ hpt7, small1000 (by omega), ?_⟩⟩
      have sn := same_new hpn (.lst [V.int (es.length : Int)])
      have s08 := same_upd (s07.trans sn) hpt0 (.lst (xs ++ [.ref pn]))
      have hpe8 : (upd (upd H7 pn (.lst [V.int (es.length : Int)])) pt (.lst (xs ++ [.ref pn]))) pe = some (.lst ys) := by rw [upd_ne npe]; exact sn _ _ hpe7
      have hpt8 : (upd (upd H7 pn (.lst [V.int (es.length : Int)])) pt (.lst (xs ++ [.ref pn]))) pt = some (.lst (xs ++ [.ref pn])) := upd_same
      have en8 := (en7.mono sn).put (o := .lst (xs ++ [.ref pn])) (sn _ _ hpt7)
      have npt : pn ≠ pt := fun z => by rw [z, hpt7] at hpn; cases hpn
      have npn : pn ≠ pe := fun z => by rw [z, hpe7] at hpn; cases hpn
      have hpn0 : H pn = none := none_of s07 hpn
      have rx8 : RowsX (fun p => p = pe ∨ p = pt ∨ H p ≠ none) (upd (upd H7 pn (.lst [V.int (es.length : Int)])) pt (.lst (xs ++ [.ref pn]))) (xs ++ [.ref pn]) (ts.set (hd es x0) (ins l (l.idxOf (x0 / 2) + 1) es.length) ++ [[es.length]]) := by
        refine (rx7.mono fun p o n z => ?_).snoc (by rintro (y | y | y); exact npn y; exact npt y; exact y hpn0) ?_
        · rw [upd_ne (fun z => n (.inr (.inl z)))]; exact sn _ _ z
        · rw [upd_ne npt]; exact upd_same
      have D8 := dist_snoc rx7 D hpn
      have hxm : V.int (xs.length : Int) = iV m := by rw [xl]; rfl
      refine ⟨_, rfl, _, _, rfl, rfl, ⟨by decide, by decide⟩, _, _, rfl, rfl, (by show (0 : Int) < 2; decide), rfl, _, rfl, ite2 (fun _ => ?_) (fun _ => ?_)⟩
      · refine ⟨_, rfl, .inl ⟨rfl, _, SqL.of hpe8⟩, _, rfl, _, rfl, (by show 2 ≤ sizeLine; decide), fun t ht => ⟨pe, ys, _, rfl, rfl, same_new ht _ _ _ hpe8, small1000 (by omega), ?_⟩⟩
        exact grow_fin npe hpe0 s08 hpe8 en8 hpt8 rx8 D8 (g.leaf (e := (m, hd es x0)) hLl hcr ch rfl (.inr rfl) k5) hi ht hxm rfl _ _ _ _ _ _ _ _
      · refine ⟨_, rfl, .inl ⟨rfl, _, SqL.of hpe8⟩, _, rfl, _, rfl, (by show 2 ≤ sizeLine; decide), fun t ht => ⟨pe, ys, _, rfl, rfl, same_new ht _ _ _ hpe8, small1000 (by omega), ?_⟩⟩
        exact grow_fin npe hpe0 s08 hpe8 en8 hpt8 rx8 D8 (g.leaf (e := (hd es x0, m)) hLl hcr ch rfl (.inl rfl) k5) hi ht rfl hxm _ _ _ _ _ _ _ _
  · rintro σ H5 ⟨v3, v4, v5, v6, v7, v8, v9, v10, ys, xs, m, es, ts, rfl, s5, hpe5, en, hpt5, rx5, D, g, hi⟩
    rw [hcl] at hi
    refine ⟨_, rfl, _, rfl, (by show 2 ≤ sizeLine; decide), fun t ht => ?_⟩
    have s6 := same_new ht (.tup [.ref pe, .ref pt])
    exact kk t pe pt ys xs m es ts _ (s5.trans s6) upd_same (s6 _ _ hpe5) (en.mono s6) (s6 _ _ hpt5) (rx5.off.mono s6) g hi
end
end K8


namespace K8
open PySem L2
local macro_rules | `(tactic| walk_at "cc") => `(tactic| first | exact ⟨by decide, by decide⟩ | (show (0 : Int) < _; decide) | (show (0 : Int) < _; omega) | (show (0 : Int) ≤ _; omega) | exact ⟨by decide, by decide, by decide⟩ | exact ⟨by omega, by omega, by decide⟩ | exact Or.inl ⟨by decide, by decide⟩ | exact Or.inl ⟨by omega, by omega⟩)
local macro_rules | `(tactic| walk_at "rd") => `(tactic| repeat (first | refine ⟨_, rfl, ?_⟩ | refine ⟨_, _, rfl, rfl, ?_⟩ | refine ⟨rfl, ?_⟩ | (refine ⟨?cc, ?_⟩; (case cc => walk_at "cc"))))

def cutp (c : Int) (p n : Nat) : Nat := (c % 1009 * ((p : Int) + 1) % (n : Int)).toNat
def rowN (c : Int) (o2 : List Nat) (p : Nat) (l : List Nat) : List Nat := (l.drop (cutp c p l.length) ++ l.take (cutp c p l.length)).map (ofL o2)
def en2 (o1 o2 : List Nat) (es : En) : En := (List.range es.length).map fun j => (ofL o1 ((es[o2.idxOf j]?).getD (0, 0)).1, ofL o1 ((es[o2.idxOf j]?).getD (0, 0)).2)
def ts2 (c : Int) (o1 o2 : List Nat) (ts : List (List Nat)) : List (List Nat) := (List.range ts.length).map fun j => rowN c o2 (o1.idxOf j) ((ts[o1.idxOf j]?).getD [])
theorem idx_of {o : List Nat} (nd : o.Nodup) {k : Nat} (h : k < o.length) : o.idxOf (ofL o k) = k := by
  have e : o[k]? = some (ofL o k) := by unfold ofL; rw [List.getElem?_eq_getElem h]; rfl
  exact nd_inj nd (idx_get (List.mem_of_getElem? e)) e
theorem ren_of {m : Nat} {es : En} {ts : List (List Nat)} {c : Int} {o1 o2 : List Nat} (w : Turn0 m es ts) (l1 : o1.length = m) (n1 : o1.Nodup) (b1 : ∀ x ∈ o1, x < m) (l2 : o2.length = es.length) (n2 : o2.Nodup) (b2 : ∀ x ∈ o2, x < es.length) :
    Ren m es (en2 o1 o2 es) ts (ts2 c o1 o2 ts) (ofL o1) (ofL o2) := by
  have B1 := bij_list l1 n1 b1
  have B2 := bij_list l2 n2 b2
  refine ⟨B1, B2, by simp [en2], by simp [ts2, w.len], fun k e h => ?_, fun p l h => ?_⟩
  · have hk := (List.getElem?_eq_some_iff.mp h).1
    unfold en2
    rw [List.getElem?_map, List.getElem?_range (B2.lt k hk)]
    show some (ofL o1 ((es[o2.idxOf (ofL o2 k)]?).getD (0, 0)).1, ofL o1 ((es[o2.idxOf (ofL o2 k)]?).getD (0, 0)).2) = _
    rw [idx_of n2 (by omega), h]
    rfl
  · have hp : p < m := by rw [← w.len]; exact (List.getElem?_eq_some_iff.mp h).1
    refine ⟨l.take (cutp c p l.length), l.drop (cutp c p l.length), (List.take_append_drop _ _).symm, ?_⟩
    unfold ts2
    rw [List.getElem?_map, List.getElem?_range (by rw [w.len]; exact B1.lt p hp)]
    show some (rowN c o2 (o1.idxOf (ofL o1 p)) ((ts[o1.idxOf (ofL o1 p)]?).getD [])) = _
    rw [idx_of n1 (by omega), h]
    rfl
theorem Gr.rows {m : Nat} {es : En} {ts : List (List Nat)} (g : Gr m es ts) (h2 : 2 ≤ m) {p : Nat} {l : List Nat} (h : ts[p]? = some l) : 0 < l.length := by
  have hp : p < m := by rw [← g.w.len]; exact (List.getElem?_eq_some_iff.mp h).1
  cases l with
  | cons a l => exact Nat.succ_pos _
  | nil =>
    exfalso
    have no : ∀ e ∈ es, e.1 ≠ p ∧ e.2 ≠ p := fun e he => by
      obtain ⟨t, ht⟩ := List.mem_iff_getElem?.mp he
      refine ⟨fun z => ?_, fun z => ?_⟩
      · exact nomatch (g.w.mem p [] h t).mpr ⟨e, ht, .inl z⟩
      · exact nomatch (g.w.mem p [] h t).mpr ⟨e, ht, .inr z⟩
    have := g.conn (fun x => x = p) (fun e he => ⟨fun z => absurd z (no e he).1, fun z => absurd z (no e he).2⟩) p (if p = 0 then 1 else 0) hp (by split <;> omega) rfl
    have this' : (if p = 0 then 1 else 0) = p := this
    split at this' <;> omega
theorem cut_hi {xs : List V} {c : Nat} (h : c ≤ xs.length) : cutV xs (some (c : Int)) none = xs.drop c := by
  unfold cutV
  rw [HT.sIx_nat, Nat.min_eq_left h]
  show (xs.drop c).take (xs.length - c) = _
  exact List.take_of_length_le (by rw [List.length_drop]; exact Nat.le_refl _)
theorem cut_lo {xs : List V} {c : Nat} (h : c ≤ xs.length) : cutV xs none (some (c : Int)) = xs.take c := by
  unfold cutV
  rw [HT.sIx_nat, Nat.min_eq_left h]
  show (xs.drop 0).take (c - 0) = _
  rw [List.drop_zero, Nat.sub_zero]
/-- a web's ends and turns, as a pair -/
structure WebP (H : Hp) (pe pt : Addr) (m : Nat) (es : En) (ts : List (List Nat)) : Prop where
  en : ∃ ys, H pe = some (.lst ys) ∧ EndsAt H ys es
  tu : ∃ xs, H pt = some (.lst xs) ∧ RowsAt H xs ts
  g : Gr m es ts
theorem WebP.mono {H H' : Hp} {pe pt : Addr} {m : Nat} {es : En} {ts : List (List Nat)} (h : WebP H pe pt m es ts) (s : Same H H') : WebP H' pe pt m es ts := by
  obtain ⟨⟨ys, a, b⟩, ⟨xs, c, d⟩, g⟩ := h
  exact ⟨⟨ys, s _ _ a, b.mono s⟩, ⟨xs, s _ _ c, d.mono s⟩, g⟩
def spRen : Sp := fun vs H Q _ => ∃ (t pe pt : Addr) (c : Int) (m : Nat) (es : En) (ts : List (List Nat)), vs = [.ref t, .int c] ∧ H t = some (.tup [.ref pe, .ref pt]) ∧ WebP H pe pt m es ts ∧ 2 ≤ m ∧ es.length ≤ 31 ∧
  ∀ (t' pe' pt' : Addr) (es' : En) (ts' : List (List Nat)) (H' : Hp), Same H H' → H' t' = some (.tup [.ref pe', .ref pt']) → WebP H' pe' pt' m es' ts' → es'.length = es.length → Q (.ref t') H'
section
variable {P : Program} {w : World} {K : PySem.W.Frag} {mg : Str → Option Value} {base : Heap}
theorem sc_law_renumbered : FnScope ["grown", "cell", "places", "ties", "ends", "k", "turns", "p", "row", "cut"] ["grown", "cell"] (defScope s_law_renumbered) := ⟨rfl, rfl, rfl, by decide +kernel, rfl, by decide +kernel, by decide +kernel⟩
theorem ok_ren {f fo : Addr} {fd fdo : FuncData} (F : Fun K "_law_renumbered" "_law_renumbered" s_law_renumbered f fd) (T : Txt mg) (G_law_order : Cal P w K mg base 1 "_law_order" ["cell", "many"] spOrder fo fdo) : FnOk P w K mg base CX0 2 f fd ["grown", "cell"] spRen := by
  refine F.ok sc_law_renumbered (fun vs H Q E h => ?_) (fun cdv A outer s H vs Q E hr h => ?_)
  · obtain ⟨t, pe, pt, c, m, es, ts, rfl, _⟩ := h
    rfl
  obtain ⟨t, pe, pt, c, m, es, ts, rfl, ht, ⟨⟨ys, hpe, en⟩, ⟨xs, hpt, tu⟩, g⟩, h2, h31, kk⟩ := h
  have w' := g.w
  have mf := gr_few g
  have hyl : ys.length = es.length := en.1
  have hxl : xs.length = m := by rw [tu.1, w'.len]
  refine ⟨_, (pss_cons (ps_set (i := 2) sc_law_renumbered.nd rfl (Or.inl rfl) (pe_call G_law_order.ok (hr.mono (by decide)) rfl G_law_order.mg G_law_order.kp G_law_order.bn .nil pass0 (pa_cons (pv 1) (pa_cons (pe_callB call_len_seq (by rfl) T.n_len bt_len (pa_cons (pe_ix ix_tup (pv 0) pe_int (fun _ _ => rfl)) pa_nil)) pa_nil))))
      (pss_cons (ps_set (i := 3) sc_law_renumbered.nd rfl (Or.inr rfl) (pe_call G_law_order.ok (hr.mono (by decide)) rfl G_law_order.mg G_law_order.kp G_law_order.bn .nil pass0 (pa_cons (pe_op op_fdiv (pv 1) pe_int) (pa_cons (pe_callB call_len_seq (by rfl) T.n_len bt_len (pa_cons (pe_ix ix_tup (pv 0) pe_int (fun _ _ => rfl)) pa_nil)) pa_nil))))
      (pss_cons (ps_set (i := 4) sc_law_renumbered.nd rfl (Or.inl rfl) (pe_callTy call_list_of (by rfl) T.n_list bt_list (pa_cons (pe_ix ix_tup (pv 0) pe_int (fun _ _ => rfl)) pa_nil)))
      (pss_cons (ps_for PassesOwn.never rfl (pi_range1 rfl T.n_range (pa_cons (pe_callB call_len_seq (by rfl) T.n_len bt_len (pa_cons (pe_ix ix_tup (pv 0) pe_int (fun _ _ => rfl)) pa_nil)) pa_nil)) (pg_name (i := 5) sc_law_renumbered.nd rfl (Or.inl rfl)) (pss_one (ps_asg (pe_tup (pa_cons (pe_ix ix_list (pv 2) (pe_ix ix_tup (pe_ix ix_list (pe_ix ix_tup (pv 0) pe_int (fun _ _ => rfl)) (pv 5) (fun _ _ => rfl)) pe_int (fun _ _ => rfl)) (fun _ _ => rfl)) (pa_cons (pe_ix ix_list (pv 2) (pe_ix ix_tup (pe_ix ix_list (pe_ix ix_tup (pv 0) pe_int (fun _ _ => rfl)) (pv 5) (fun _ _ => rfl)) pe_int (fun _ _ => rfl)) (fun _ _ => rfl)) pa_nil))) (pg_sub (pv 4) (pe_ix ix_list (pv 3) (pv 5) (fun _ _ => rfl)) set_list))))
      (pss_cons (ps_set (i := 6) sc_law_renumbered.nd rfl (Or.inl rfl) (pe_callTy call_list_of (by rfl) T.n_list bt_list (pa_cons (pe_ix ix_tup (pv 0) pe_int (fun _ _ => rfl)) pa_nil)))
      (pss_cons (ps_for PassesOwn.never rfl (pi_range1 rfl T.n_range (pa_cons (pe_callB call_len_seq (by rfl) T.n_len bt_len (pa_cons (pe_ix ix_tup (pv 0) pe_int (fun _ _ => rfl)) pa_nil)) pa_nil)) (pg_name (i := 7) sc_law_renumbered.nd rfl (Or.inl rfl)) (pss_cons (ps_setComp (i := 8) rfl sc_law_renumbered.nd rfl rfl (fr := [("ties", 3)]) (by exact CompOk.one (by rfl) (by decide +kernel) (by rfl) (by decide +kernel) (by rfl) (by decide +kernel) (by rfl) (by rfl) (by decide +kernel) (by rfl)) (pi_list (pe_ix ix_list (pe_ix ix_tup (pv 0) pe_int (fun _ _ => rfl)) (pv 7) (fun _ _ => rfl))) (fun C ex s H => (pe_ix (ixK_list (K := K) rfl) (pv 1) (pv 0) (fun _ _ => rfl))))
      (pss_cons (ps_set (i := 9) sc_law_renumbered.nd rfl (Or.inl rfl) (pe_op op_mod (pe_op op_mul (pe_op op_mod (pv 1) pe_int) (pe_op op_add (pv 7) pe_int)) (pe_callB call_len_seq (by rfl) T.n_len bt_len (pa_cons (pv 8) pa_nil))))
      (pss_one (ps_asg (pe_op op_cat (pe_slice sl_list (pv 8) (po_some (pv 9)) po_none) (pe_slice sl_list (pv 8) po_none (po_some (pv 9)))) (pg_sub (pv 6) (pe_ix ix_list (pv 2) (pv 7) (fun _ _ => rfl)) set_list))))))
      (pss_one (ps_ret (pe_tup (pa_cons (pv 4) (pa_cons (pv 6) pa_nil))))))))))), ?_⟩
  refine ⟨_, rfl, _, rfl, t, _, 1, _, rfl, rfl, SqT.of ht, at1, pt, xs, rfl, .inl (SqL.of hpt), c, m, (by rw [hxl]; rfl), by omega, fun q1 o1 H1 s1 _ h1 l1 n1 b1 => ?_⟩
  refine ⟨_, rfl, _, _, rfl, rfl, ⟨by decide, by decide⟩, _, rfl, t, _, 0, _, rfl, rfl, SqT.of (s1 _ _ ht), at0, pe, ys, rfl, .inl (SqL.of (s1 _ _ hpe)), _, es.length, (by rw [hyl]; rfl), by omega, fun q2 o2 H2 s2 _ h2' l2 n2 b2 => ?_⟩
  have s12 := s1.trans s2
  have R := ren_of (c := c) w' l1 n1 b1 l2 n2 b2
  have h1' := s2 _ _ h1
  -- ends = list(grown[0])
  refine ⟨_, rfl, t, _, 0, _, rfl, rfl, SqT.of (s12 _ _ ht), at0, pe, ys, rfl, .inl (SqL.of (s12 _ _ hpe)), fun qe hqe => ?_⟩
  have s3 := same_new hqe (.lst ys)
  have s13 := s12.trans s3
  have h23 := s3 _ _ h2'
  have h13 := s3 _ _ h1'
  have get1 : ∀ k, k < m → (o1.map iV)[k]? = some (iV (ofL o1 k)) := fun k hk => by
    rw [List.getElem?_map]; unfold ofL; rw [List.getElem?_eq_getElem (by omega)]; rfl
  have get2 : ∀ k, k < es.length → (o2.map iV)[k]? = some (iV (ofL o2 k)) := fun k hk => by
    rw [List.getElem?_map]; unfold ofL; rw [List.getElem?_eq_getElem (by omega)]; rfl
  have hqe0 : H qe = none := by
    cases y : H qe with
    | none => rfl
    | some o => rw [s12 _ _ y] at hqe; cases hqe
  refine ⟨_, rfl, t, _, 0, _, rfl, rfl, SqT.of (s13 _ _ ht), at0, pe, ys, rfl, .inl (SqL.of (s13 _ _ hpe)), _, rfl, by omega, by omega, for_range (n := (ys.length : Int).toNat) (fun i σ H5 => ∃ v5 v6 v7 v8 v9 zs, σ = [some (.ref t), some (.int c), some (.ref q1), some (.ref q2), some (.ref qe), v5, v6, v7, v8, v9] ∧ Same H2 H5 ∧ H5 qe = some (.lst zs) ∧ zs.length = es.length ∧ ∀ (k : Nat) (e : Nat × Nat), k < i → es[k]? = some e → ∃ p, zs[ofL o2 k]? = some (.ref p) ∧ H5 p = some (.tup [iV (ofL o1 e.1), iV (ofL o1 e.2)]))
    ⟨_, _, _, _, _, ys, rfl, s3, upd_same, hyl, fun k e z => absurd z (Nat.not_lt_zero _)⟩ ?_ ?_⟩
  · rintro i σ H5 hi ⟨v5, v6, v7, v8, v9, zs, rfl, s5, hz, zl, inv⟩
    rw [Int.toNat_natCast, hyl] at hi
    have e0 : (0 : Int) + (i : Int) = (i : Int) := Int.zero_add _
    rw [e0]
    have s15 := s12.trans s5
    obtain ⟨e, he⟩ : ∃ e, es[i]? = some e := ⟨_, List.getElem?_eq_getElem hi⟩
    obtain ⟨p, x1, x2⟩ := (en.mono s15).2 i e he
    obtain ⟨a1, a2, _⟩ := w'.ends e (List.mem_of_getElem? he)
    have b2' := R.si.lt i hi
    refine ⟨_, rfl, _, rfl, t, _, 0, _, rfl, rfl, SqT.of (s15 _ _ ht), at0, _, rfl, pe, ys, _, _, rfl, rfl, SqL.of (s15 _ _ hpe), atI_nat x1, p, _, 0, _, rfl, rfl, SqT.of x2, at0, q1, _, _, _, rfl, rfl, SqL.of (s5 _ _ h1'), atI_nat (get1 _ a1), _, rfl, _, rfl, t, _, 0, _, rfl, rfl, SqT.of (s15 _ _ ht), at0, _, rfl, pe, ys, _, _, rfl, rfl, SqL.of (s15 _ _ hpe), atI_nat x1, p, _, 1, _, rfl, rfl, SqT.of x2, at1, q1, _, _, _, rfl, rfl, SqL.of (s5 _ _ h1'), atI_nat (get1 _ a2), (by show 2 ≤ sizeLine; decide), fun tt htt => ?_⟩
    have sn := same_new htt (.tup [iV (ofL o1 e.1), iV (ofL o1 e.2)])
    refine ⟨_, rfl, _, rfl, _, rfl, q2, _, _, _, rfl, rfl, SqL.of (sn _ _ (s5 _ _ h2')), atI_nat (get2 _ hi), qe, zs, _, ofL o2 i, rfl, rfl, sn _ _ hz, ixN_nat (by omega), ?_⟩
    refine ⟨_, _, _, _, _, _, rfl, same_upd (s5.trans sn) hqe _, upd_same, by rw [List.length_set]; exact zl, fun k e' hk hek => ?_⟩
    by_cases z : k = i
    · subst z
      rw [he] at hek
      cases hek
      exact ⟨tt, by rw [List.getElem?_set, if_pos rfl, if_pos (by omega)], by rw [upd_ne (fun z => by rw [z, hz] at htt; cases htt)]; exact upd_same⟩
    · obtain ⟨p', u1, u2⟩ := inv k e' (by omega) hek
      have hkl : k < es.length := (List.getElem?_eq_some_iff.mp hek).1
      refine ⟨p', by rw [List.getElem?_set, if_neg (fun y => z (R.si.inj _ _ hkl hi y.symm))]; exact u1, ?_⟩
      rw [upd_ne (fun z => by rw [z, hz] at u2; cases u2)]
      exact sn _ _ u2
  rintro σ H5 ⟨v5, v6, v7, v8, v9, zs, rfl, s5, hz, zl, inv⟩
  rw [Int.toNat_natCast, hyl] at inv
  have s15 := s12.trans s5
  have enN : EndsAt H5 zs (en2 o1 o2 es) := ⟨by rw [zl, R.l1], fun j x h => by
    obtain ⟨k, e, rfl, h4, rfl⟩ := R.es' h
    exact inv k e (List.getElem?_eq_some_iff.mp h4).1 h4⟩
  -- turns = list(grown[1])
  refine ⟨_, rfl, t, _, 1, _, rfl, rfl, SqT.of (s15 _ _ ht), at1, pt, xs, rfl, .inl (SqL.of (s15 _ _ hpt)), fun qt hqt => ?_⟩
  have s6 := same_new hqt (.lst xs)
  have s16 := s15.trans s6
  refine ⟨_, rfl, t, _, 1, _, rfl, rfl, SqT.of (s16 _ _ ht), at1, pt, xs, rfl, .inl (SqL.of (s16 _ _ hpt)), _, rfl, by omega, by omega, for_range (n := (xs.length : Int).toNat) (fun i σ H7 => ∃ v5 v7 v8 v9 ws, σ = [some (.ref t), some (.int c), some (.ref q1), some (.ref q2), some (.ref qe), v5, some (.ref qt), v7, v8, v9] ∧ Same H5 H7 ∧ H7 qt = some (.lst ws) ∧ ws.length = m ∧ ∀ (p : Nat) (l : List Nat), p < i → ts[p]? = some l → ∃ q, ws[ofL o1 p]? = some (.ref q) ∧ H7 q = some (.lst ((rowN c o2 p l).map iV)) ∧ q ≠ qt)
    ⟨_, _, _, _, xs, rfl, s6, upd_same, hxl, fun k e z => absurd z (Nat.not_lt_zero _)⟩ ?_ ?_⟩
  · rintro i σ H7 hi ⟨w5, w7, w8, w9, ws, rfl, s7, hw, wl, inv2⟩
    rw [Int.toNat_natCast, hxl] at hi
    have e0 : (0 : Int) + (i : Int) = (i : Int) := Int.zero_add _
    rw [e0]
    have s17 := s15.trans s7
    have s27 := s5.trans s7
    obtain ⟨l, hl⟩ : ∃ l, ts[i]? = some l := ⟨_, List.getElem?_eq_getElem (by rw [w'.len]; exact hi)⟩
    obtain ⟨p, x1, x2⟩ := (tu.mono s17).2 i l hl
    have lpos := g.rows h2 hl
    have llt : ∀ k ∈ l, k < es.length := fun k hk => mem_lt w' hl hk
    have lle : l.length ≤ es.length := len_le (w'.nd _ _ hl) llt
    have llen : (l.map iV).length = l.length := List.length_map _
    refine ⟨_, rfl, t, _, 1, _, rfl, rfl, SqT.of (s17 _ _ ht), at1, _, rfl, pt, xs, _, _, rfl, rfl, SqL.of (s17 _ _ hpt), atI_nat x1, p, rfl, ⟨_, SqL.of x2⟩, comp_list (K := K) (xs := l.map iV) (fun j zs H8 => H8 = H7 ∧ zs = ((l.map (ofL o2)).map iV).take j) (by rw [llen]; exact Nat.le_of_lt (small1000 (by omega))) ⟨rfl, rfl⟩ (fun j zs H8 _ z => z.1 ▸ SqL.of x2) ?_ ?_⟩
    · rintro j x zs H8 hx ⟨rfl, rfl⟩
      rw [List.getElem?_map] at hx
      obtain ⟨k, hk, rfl⟩ := Option.map_eq_some_iff.mp hx
      refine ⟨_, rfl, _, rfl, q2, _, _, _, rfl, rfl, SqL.of (s27 _ _ h2'), atI_nat (get2 _ (llt k (List.mem_of_getElem? hk))), rfl, ?_⟩
      rw [List.take_add_one, List.getElem?_map, List.getElem?_map, hk]
      rfl
    rintro zs H8 hzl ⟨rfl, rfl⟩ D hD
    rw [llen, List.take_of_length_le (by rw [List.length_map, List.length_map]; exact Nat.le_refl _)]
    have sD := same_new hD (.lst ((l.map (ofL o2)).map iV))
    have dlen : ((l.map (ofL o2)).map iV).length = l.length := by rw [List.length_map, List.length_map]
    have dpos : (0 : Int) < (((l.map (ofL o2)).map iV).length : Int) := by omega
    have c0 := Int.emod_nonneg c (show (1009 : Int) ≠ 0 by decide)
    have c1 := Int.emod_lt_of_pos c (show (0 : Int) < 1009 by decide)
    refine ⟨_, rfl, _, _, rfl, rfl, (by show (0 : Int) < 1009; decide), _, rfl, _, _, rfl, rfl, _, _, rfl, rfl, .inl ⟨by show -(2 ^ 64 : Int) < c % 1009; omega, by show c % 1009 < (2 ^ 64 : Int); omega⟩, _, rfl, D, _, rfl, .inl (SqL.of upd_same), _, _, rfl, rfl, dpos, ?_⟩
    have u0 := Int.emod_nonneg (c % 1009 * ((i : Int) + 1)) (show (((l.map (ofL o2)).map iV).length : Int) ≠ 0 by omega)
    have u1 := Int.emod_lt_of_pos (c % 1009 * ((i : Int) + 1)) dpos
    have hcut : c % 1009 * ((i : Int) + 1) % (((l.map (ofL o2)).map iV).length : Int) = ((cutp c i l.length : Nat) : Int) := by
      unfold cutp
      rw [dlen] at u0 ⊢
      exact (Int.toNat_of_nonneg u0).symm
    have cle : cutp c i l.length ≤ ((l.map (ofL o2)).map iV).length := by omega
    refine ⟨_, rfl, _, rfl, _, rfl, D, _, rfl, SqL.of upd_same, fun b1' hb1 => ?_⟩
    rw [hcut, cut_hi cle]
    have sB := same_new hb1 (.lst (((l.map (ofL o2)).map iV).drop (cutp c i l.length)))
    refine ⟨_, rfl, _, rfl, _, rfl, D, _, rfl, SqL.of (sB _ _ upd_same), fun b2' hb2 => ?_⟩
    rw [hcut, cut_lo cle]
    have sC := same_new hb2 (.lst (((l.map (ofL o2)).map iV).take (cutp c i l.length)))
    refine ⟨b1', b2', _, _, rfl, rfl, sC _ _ upd_same, upd_same, by rw [List.length_drop, List.length_take]; exact Nat.le_of_lt (small1000 (by omega)), fun b3 hb3 => ?_⟩
    have hrow : ((l.map (ofL o2)).map iV).drop (cutp c i l.length) ++ ((l.map (ofL o2)).map iV).take (cutp c i l.length) = (rowN c o2 i l).map iV := by
      unfold rowN
      rw [List.map_append, List.map_append, List.map_drop, List.map_drop, List.map_take, List.map_take]
    rw [hrow]
    have sE := same_new hb3 (.lst ((rowN c o2 i l).map iV))
    have sAll := ((sD.trans sB).trans sC).trans sE
    refine ⟨_, rfl, _, rfl, _, rfl, q1, _, _, _, rfl, rfl, SqL.of (sAll _ _ (s27 _ _ h1')), atI_nat (get1 _ hi), qt, ws, _, ofL o1 i, rfl, rfl, sAll _ _ hw, ixN_nat (by rw [wl]; exact R.pi.lt i hi), ?_⟩
    have b3t : b3 ≠ qt := fun z => by rw [z, ((sD.trans sB).trans sC) _ _ hw] at hb3; cases hb3
    refine ⟨_, _, _, _, _, rfl, same_upd (s7.trans sAll) hqt _, upd_same, by rw [List.length_set]; exact wl, fun p' l' hp' hl' => ?_⟩
    by_cases z : p' = i
    · subst z
      rw [hl] at hl'
      cases hl'
      exact ⟨b3, by rw [List.getElem?_set, if_pos rfl, if_pos (by rw [wl]; exact R.pi.lt p' hi)], by rw [upd_ne b3t]; exact upd_same, b3t⟩
    · obtain ⟨q, u1, u2, u3⟩ := inv2 p' l' (by omega) hl'
      have hpl : p' < m := by rw [← w'.len]; exact (List.getElem?_eq_some_iff.mp hl').1
      exact ⟨q, by rw [List.getElem?_set, if_neg (fun y => z (R.pi.inj _ _ hpl hi y.symm))]; exact u1, by rw [upd_ne u3]; exact sAll _ _ u2, u3⟩
  rintro σ H7 ⟨w5, w7, w8, w9, ws, rfl, s7, hw, wl, inv2⟩
  rw [Int.toNat_natCast, hxl] at inv2
  have tuN : RowsAt H7 ws (ts2 c o1 o2 ts) := ⟨by rw [wl, R.l2], fun j L h => by
    have hj : j < m := by rw [← R.l2]; exact (List.getElem?_eq_some_iff.mp h).1
    obtain ⟨p, hp, rfl⟩ := R.pi.sur j hj
    obtain ⟨l, hl⟩ : ∃ l, ts[p]? = some l := ⟨_, List.getElem?_eq_getElem (by rw [w'.len]; exact hp)⟩
    obtain ⟨q, z1, z2, _⟩ := inv2 p l hp hl
    refine ⟨q, z1, ?_⟩
    unfold ts2 at h
    rw [List.getElem?_map, List.getElem?_range (by rw [w'.len]; exact R.pi.lt p hp)] at h
    have h' : some (rowN c o2 (o1.idxOf (ofL o1 p)) ((ts[o1.idxOf (ofL o1 p)]?).getD [])) = some L := h
    rw [idx_of n1 (by omega), hl] at h'
    cases h'
    exact z2⟩
  refine ⟨_, rfl, _, rfl, (by show 2 ≤ sizeLine; decide), fun t' ht' => ?_⟩
  have s8 := same_new ht' (.tup [.ref qe, .ref qt])
  exact kk t' qe qt (en2 o1 o2 es) (ts2 c o1 o2 ts) _ ((s15.trans s7).trans s8) upd_same ⟨⟨zs, s8 _ _ (s7 _ _ hz), (enN.mono s7).mono s8⟩, ⟨ws, s8 _ _ hw, tuN.mono s8⟩, R.gr g⟩ R.l1
end
end K8


namespace K8
open PySem L2
local macro_rules | `(tactic| walk_at "cc") => `(tactic| first | exact ⟨by decide, by decide⟩ | (show (0 : Int) < _; decide) | (show (0 : Int) < _; omega) | (show (0 : Int) ≤ _; omega) | exact ⟨by decide, by decide, by decide⟩ | exact ⟨by omega, by omega, by decide⟩ | exact Or.inl ⟨by decide, by decide⟩ | exact Or.inl ⟨by omega, by omega⟩)
local macro_rules | `(tactic| walk_at "rd") => `(tactic| repeat (first | refine ⟨_, rfl, ?_⟩ | refine ⟨_, _, rfl, rfl, ?_⟩ | refine ⟨rfl, ?_⟩ | (refine ⟨?cc, ?_⟩; (case cc => walk_at "cc"))))

theorem bt_min : bootBuiltins "min" = some (.builtin "min") := by decide +kernel
abbrev Kn := List (Int × Int)
def ToldAt (H : Hp) (ws : List V) (ks : Kn) : Prop := ws.length = ks.length ∧ ∀ (i : Nat) (k : Int × Int), ks[i]? = some k → (k.1 = 0 ∨ k.1 = 1) ∧ 0 ≤ k.2 ∧ ∃ p, ws[i]? = some (.ref p) ∧ H p = some (.tup [.int k.1, .int k.2])
theorem ToldAt.mono {H H' : Hp} {ws : List V} {ks : Kn} (h : ToldAt H ws ks) (s : Same H H') : ToldAt H' ws ks := ⟨h.1, fun i k z => by
  obtain ⟨a, b, p, c, d⟩ := h.2 i k z
  exact ⟨a, b, p, c, s _ _ d⟩⟩
theorem ToldAt.put {H : Hp} {ws : List V} {ks : Kn} {q : Addr} {zs : List V} {o : HO} (t : ToldAt H ws ks) (h : H q = some (.lst zs)) : ToldAt (upd H q o) ws ks := ⟨t.1, fun i e z => by
  obtain ⟨u, v, p, a, b⟩ := t.2 i e z
  refine ⟨u, v, p, a, ?_⟩
  rw [upd_ne (fun z => by rw [z, h] at b; cases b)]
  exact b⟩
theorem ToldAt.snoc {H : Hp} {ws : List V} {ks : Kn} {k : Int × Int} {p : Addr} (t : ToldAt H ws ks) (h : H p = some (.tup [.int k.1, .int k.2])) (h1 : k.1 = 0 ∨ k.1 = 1) (h2 : 0 ≤ k.2) : ToldAt H (ws ++ [.ref p]) (ks ++ [k]) := by
  refine ⟨by rw [List.length_append, List.length_append, t.1]; rfl, fun j x ej => ?_⟩
  by_cases hj : j < ks.length
  · rw [List.getElem?_append_left hj] at ej
    obtain ⟨u, v, p, a1, a2⟩ := t.2 j x ej
    exact ⟨u, v, p, by rw [List.getElem?_append_left (by rw [t.1]; exact hj)]; exact a1, a2⟩
  · rw [List.getElem?_append_right (by omega)] at ej
    have hj2 : j = ks.length := by
      have := (List.getElem?_eq_some_iff.mp ej).1
      rw [List.length_singleton] at this
      omega
    subst hj2
    rw [Nat.sub_self] at ej
    cases ej
    exact ⟨h1, h2, p, by rw [← t.1, List.getElem?_append_right (Nat.le_refl _), Nat.sub_self]; rfl, h⟩
/-- what the law builds -/
structure BuiltP (H : Hp) (t pe pt pk : Addr) (m : Nat) (es : En) (ts : List (List Nat)) (ks : Kn) : Prop where
  t : H t = some (.tup [.ref pe, .ref pt, .ref pk])
  w : WebP H pe pt m es ts
  k : ∃ ws, H pk = some (.lst ws) ∧ ToldAt H ws ks
  few : es.length ≤ 31
  kl : ks.length = es.length
theorem BuiltP.mono {H H' : Hp} {t pe pt pk : Addr} {m : Nat} {es : En} {ts : List (List Nat)} {ks : Kn} (h : BuiltP H t pe pt pk m es ts ks) (s : Same H H') : BuiltP H' t pe pt pk m es ts ks := by
  obtain ⟨a, b, ⟨ws, c, d⟩, e, f⟩ := h
  exact ⟨s _ _ a, b.mono s, ⟨ws, s _ _ c, d.mono s⟩, e, f⟩
theorem Gr.two {m : Nat} {es : En} {ts : List (List Nat)} (g : Gr m es ts) (h : 0 < es.length) : 2 ≤ m := by
  obtain ⟨a, b, c⟩ := g.w.ends _ (List.mem_of_getElem? (List.getElem?_eq_getElem h))
  omega
def spLBuilt (K : PySem.W.Frag) : Sp := fun vs H Q _ => ∃ (a : Addr) (ns : List Int), vs = [.ref a, .int 1, .int 39] ∧ SqL K H a (ns.map V.int) ∧ ns.length ≤ 63 ∧
  ∀ (t pe pt pk : Addr) (m : Nat) (es : En) (ts : List (List Nat)) (ks : Kn) (H' : Hp), Same H H' → BuiltP H' t pe pt pk m es ts ks → Q (.ref t) H'
section
variable {P : Program} {w : World} {K : PySem.W.Frag} {mg : Str → Option Value} {base : Heap}
theorem at30 {u v x : V} : atI [u, v, x] 0 = some u := rfl
theorem at31 {u v x : V} : atI [u, v, x] 1 = some v := rfl
theorem at32 {u v x : V} : atI [u, v, x] 2 = some x := rfl
theorem sc_law_built : FnScope ["script", "first", "most", "cells", "grown", "told", "k", "cell"] ["script", "first", "most"] (defScope s_law_built) := ⟨rfl, rfl, rfl, by decide +kernel, rfl, by decide +kernel, by decide +kernel⟩
theorem ok_lbuilt {f fg fr fc : Addr} {fd fdg fdr fdc : FuncData} (F : Fun K "_law_built" "_law_built" s_law_built f fd) (T : Txt mg) (G_law_grown : Cal P w K mg base 4 "_law_grown" ["cells"] (spGrown K) fg fdg) (G_law_renumbered : Cal P w K mg base 2 "_law_renumbered" ["grown", "cell"] spRen fr fdr) (G_law_cell : Cal P w K mg base 1 "_law_cell" ["script", "k"] (spCell K) fc fdc) :
    FnOk P w K mg base CX0 5 f fd ["script", "first", "most"] (spLBuilt K) := by
  refine F.ok sc_law_built (fun vs H Q E h => ?_) (fun cdv A outer s H vs Q E hr h => ?_)
  · obtain ⟨a, ns, rfl, _⟩ := h
    rfl
  obtain ⟨a, ns, rfl, hS, h63, kk⟩ := h
  have hlen : (ns.map V.int).length = ns.length := List.length_map _
  refine ⟨_, (pss_cons (ps_setComp (i := 3) rfl sc_law_built.nd rfl rfl (fr := [("script", 0)]) (by exact CompOk.one (by rfl) (by decide +kernel) (by rfl) (by decide +kernel) (by rfl) (by decide +kernel) (by rfl) (by rfl) (by decide +kernel) (by rfl)) (pi_rangeL rfl T.n_range (pa_cons (pe_op op_add (pv 1) pe_int) (pa_cons (pe_callB (call_min2 rfl) (by rfl) T.n_min bt_min (pa_cons (pe_op op_sub (pe_callB call_len_seq (by rfl) T.n_len bt_len (pa_cons (pv 0) pa_nil)) pe_int) (pa_cons (pe_op op_sub (pe_op op_add (pv 1) (pe_op op_mul pe_int (pv 2))) pe_int) pa_nil))) (pa_cons pe_int pa_nil)))) (fun C ex s H => (pe_ix (ixK_list (K := K) rfl) (pv 1) (pv 0) (fun _ _ => rfl))))
      (pss_cons (ps_set (i := 4) sc_law_built.nd rfl (Or.inl rfl) (pe_call G_law_renumbered.ok (hr.mono (by decide)) rfl G_law_renumbered.mg G_law_renumbered.kp G_law_renumbered.bn .nil pass0 (pa_cons (pe_call G_law_grown.ok (hr.mono (by decide)) rfl G_law_grown.mg G_law_grown.kp G_law_grown.bn .nil pass0 (pa_cons (pv 3) pa_nil)) (pa_cons (pe_call G_law_cell.ok (hr.mono (by decide)) rfl G_law_cell.mg G_law_cell.kp G_law_cell.bn .nil pass0 (pa_cons (pv 0) (pa_cons (pv 1) pa_nil))) pa_nil))))
      (pss_cons (ps_set (i := 5) sc_law_built.nd rfl (Or.inl rfl) (pe_lst pa_nil))
      (pss_cons (ps_for PassesOwn.never rfl (pi_range1 rfl T.n_range (pa_cons (pe_callB call_len_seq (by rfl) T.n_len bt_len (pa_cons (pe_ix ix_tup (pv 4) pe_int (fun _ _ => rfl)) pa_nil)) pa_nil)) (pg_name (i := 6) sc_law_built.nd rfl (Or.inl rfl)) (pss_cons (ps_set (i := 7) sc_law_built.nd rfl (Or.inl rfl) (pe_call G_law_cell.ok (hr.mono (by decide)) rfl G_law_cell.mg G_law_cell.kp G_law_cell.bn .nil pass0 (pa_cons (pv 0) (pa_cons (pe_op op_add (pv 1) (pe_op op_mul pe_int (pv 6))) pa_nil))))
      (pss_one (ps_expr (pe_bm PySem.F.plainAttrs_list PySem.F.slot_list_append PySem.F.type_list_append mt_append (pv 5) (pa_cons (pe_tup (pa_cons (pe_op op_mod (pv 7) pe_int) (pa_cons (pe_op op_mod (pe_op op_fdiv (pv 7) pe_int) (pe_op op_add (pe_op op_pow pe_int pe_int) pe_int)) pa_nil))) pa_nil))))))
      (pss_one (ps_ret (pe_tup (pa_cons (pe_ix ix_tup (pv 4) pe_int (fun _ _ => rfl)) (pa_cons (pe_ix ix_tup (pv 4) pe_int (fun _ _ => rfl)) (pa_cons (pv 5) pa_nil)))))))))), ?_⟩
  have hn : Builtin.Range.rangeSize (1 + 1) (if (1 + 2 * 39 - 2 : Int) < ((ns.map V.int).length : Int) - 1 then 1 + 2 * 39 - 2 else ((ns.map V.int).length : Int) - 1) 2 = (((Builtin.Range.rangeSize (1 + 1) (if (1 + 2 * 39 - 2 : Int) < ((ns.map V.int).length : Int) - 1 then 1 + 2 * 39 - 2 else ((ns.map V.int).length : Int) - 1) 2).toNat : Nat) : Int) := by
    refine (Int.toNat_of_nonneg ?_).symm
    unfold Builtin.Range.rangeSize
    rw [if_pos (by decide)]
    split <;> omega
  have hb : ∀ i : Nat, i < (Builtin.Range.rangeSize (1 + 1) (if (1 + 2 * 39 - 2 : Int) < ((ns.map V.int).length : Int) - 1 then 1 + 2 * 39 - 2 else ((ns.map V.int).length : Int) - 1) 2).toNat → i < 30 ∧ 2 + 2 * i < ns.length := fun i hi => by
    rw [hlen] at hi
    unfold Builtin.Range.rangeSize at hi
    rw [if_pos (by decide)] at hi
    split at hi <;> split at hi <;> omega
  have hz : (Builtin.Range.rangeSize (1 + 1) (if (1 + 2 * 39 - 2 : Int) < ((ns.map V.int).length : Int) - 1 then 1 + 2 * 39 - 2 else ((ns.map V.int).length : Int) - 1) 2).toNat ≤ 30 := by
    by_cases z : (Builtin.Range.rangeSize (1 + 1) (if (1 + 2 * 39 - 2 : Int) < ((ns.map V.int).length : Int) - 1 then 1 + 2 * 39 - 2 else ((ns.map V.int).length : Int) - 1) 2).toNat ≤ 30
    · exact z
    · have := (hb 30 (by omega)).1; omega
  refine ⟨_, rfl, _, _, rfl, rfl, _, rfl, a, _, rfl, .inl hS, _, _, rfl, rfl, _, rfl, _, rfl, _, _, rfl, rfl, .inl ⟨by decide, by decide⟩, _, _, rfl, rfl, _, _, rfl, rfl, _, _, rfl, _, _, _, _, rfl, by decide, by decide, (by split <;> omega), (by split <;> omega), ⟨by decide, by decide⟩, hn, ?_⟩
  generalize (Builtin.Range.rangeSize (1 + 1) (if (1 + 2 * 39 - 2 : Int) < ((ns.map V.int).length : Int) - 1 then 1 + 2 * 39 - 2 else ((ns.map V.int).length : Int) - 1) 2).toNat = N at hb hz
  refine comp_range3 (fun i ys H2 => H2 = H ∧ ∃ cs : List Int, ys = cs.map V.int ∧ cs.length = i) (Nat.le_of_lt (small1000 (by omega))) ⟨rfl, [], rfl, rfl⟩ ?_ ?_
  · rintro i ys H2 hi ⟨rfl, cs, rfl, cl⟩
    have hb' := (hb i hi).2
    have e0 : (1 + 1 : Int) + (i : Int) * 2 = ((2 + 2 * i : Nat) : Int) := by omega
    rw [e0]
    refine ⟨_, rfl, _, rfl, a, _, _, _, rfl, rfl, hS, atI_nat (v := .int ns[2 + 2 * i]) (by rw [List.getElem?_map, List.getElem?_eq_getElem hb']; rfl), rfl, cs ++ [ns[2 + 2 * i]], ?_, by rw [List.length_append, cl]; rfl⟩
    rw [List.map_append]
    rfl
  rintro ys H2 _ ⟨rfl, cs, rfl, cl⟩ b hb0
  have s1 := same_new hb0 (.lst (cs.map V.int))
  refine ⟨_, rfl, b, cs, rfl, SqL.of upd_same, by omega, fun t pe pt ys xs m es ts H3 s3 ht hpe hE hpt hR g hel => ?_⟩
  have s13 := s1.trans s3
  refine ⟨_, rfl, _, rfl, a, 1, ns, rfl, s13.seq hS, t, pe, pt, _, m, es, ts, rfl, ht, ⟨⟨ys, hpe, hE⟩, ⟨xs, hpt, hR⟩, g⟩, g.two (by omega), by omega, fun t' pe' pt' es' ts' H4 s4 ht' wp hel' => ?_⟩
  have s14 := s13.trans s4
  have hel2 : es'.length ≤ 31 := by omega
  refine ⟨(by show 0 ≤ sizeLine; decide), fun q hq => ?_⟩
  have s5 := same_new hq (.lst [])
  obtain ⟨zs, hz1, hz2⟩ := wp.en
  have hzl : zs.length = es'.length := hz2.1
  refine ⟨_, rfl, t', _, 0, _, rfl, rfl, SqT.of (s5 _ _ ht'), at0, pe', zs, rfl, .inl (SqL.of (s5 _ _ hz1)), _, rfl, by omega, by omega, for_range (n := (zs.length : Int).toNat) (fun i σ H5 => ∃ v6 v7 ws ks, σ = [some (.ref a), some (.int 1), some (.int 39), some (.ref b), some (.ref t'), some (.ref q), v6, v7] ∧ Same H4 H5 ∧ H5 q = some (.lst ws) ∧ ToldAt H5 ws ks ∧ ks.length = i) ⟨_, _, [], [], rfl, s5, upd_same, ⟨rfl, fun i k z => by simp at z⟩, rfl⟩ ?_ ?_⟩
  · rintro i σ H5 hi ⟨v6, v7, ws, ks, rfl, s6, hw, tk, kl⟩
    rw [Int.toNat_natCast, hzl] at hi
    have e0 : (0 : Int) + (i : Int) = (i : Int) := Int.zero_add _
    rw [e0]
    have wl := tk.1
    refine ⟨_, rfl, _, rfl, _, rfl, _, _, rfl, rfl, .inl ⟨by decide, by decide⟩, _, _, rfl, rfl, a, 1 + 2 * i, ns, (by rw [show ((1 + 2 * i : Nat) : Int) = 1 + 2 * (i : Int) by omega]; rfl), (s14.trans s6).seq hS, ?_⟩
    refine ⟨_, rfl, .inl ⟨rfl, _, SqL.of hw⟩, _, rfl, _, _, rfl, rfl, (by show (0 : Int) < 2; decide), _, rfl, _, _, rfl, rfl, ⟨by decide, by decide⟩, _, _, rfl, rfl, ⟨by decide, by decide, by decide⟩, _, _, rfl, rfl, _, _, rfl, rfl, (by show (0 : Int) < 10 ^ (30 : Int).toNat + 1; decide), (by show 2 ≤ sizeLine; decide), fun tt htt => ?_⟩
    have sn := same_new htt (.tup [.int (cellD ns (1 + 2 * i) % 2), .int (cellD ns (1 + 2 * i) / 2 % (10 ^ (30 : Int).toNat + 1))])
    refine ⟨q, ws, _, rfl, rfl, sn _ _ hw, small1000 (by omega), ?_⟩
    refine ⟨_, _, _, ks ++ [(cellD ns (1 + 2 * i) % 2, cellD ns (1 + 2 * i) / 2 % (10 ^ (30 : Int).toNat + 1))], rfl, same_upd (s6.trans sn) hq _, upd_same, ((tk.mono sn).snoc upd_same (by show cellD ns (1 + 2 * i) % 2 = 0 ∨ cellD ns (1 + 2 * i) % 2 = 1; omega) (Int.emod_nonneg _ (by decide))).put (sn _ _ hw), by rw [List.length_append, kl]; rfl⟩
  · rintro σ H5 ⟨v6, v7, ws, ks, rfl, s6, hw, tk, kl⟩
    rw [Int.toNat_natCast, hzl] at kl
    refine ⟨_, rfl, t', _, 0, _, rfl, rfl, SqT.of (s6 _ _ ht'), at0, _, rfl, t', _, 1, _, rfl, rfl, SqT.of (s6 _ _ ht'), at1, _, rfl, (by show 3 ≤ sizeLine; decide), fun tt htt => ?_⟩
    have sn := same_new htt (.tup [.ref pe', .ref pt', .ref q])
    exact kk tt pe' pt' q m es' ts' ks _ ((s14.trans s6).trans sn) ⟨upd_same, (wp.mono s6).mono sn, ⟨ws, sn _ _ hw, tk.mono sn⟩, hel2, kl⟩
end
end K8


namespace K8
open PySem L2
local macro_rules | `(tactic| walk_at "cc") => `(tactic| first | exact ⟨by decide, by decide⟩ | (show (0 : Int) < _; decide) | (show (0 : Int) < _; omega) | (show (0 : Int) ≤ _; omega) | exact ⟨by decide, by decide, by decide⟩ | exact ⟨by omega, by omega, by decide⟩ | exact Or.inl ⟨by decide, by decide⟩ | exact Or.inl ⟨by omega, by omega⟩)
local macro_rules | `(tactic| walk_at "rd") => `(tactic| repeat (first | refine ⟨_, rfl, ?_⟩ | refine ⟨_, _, rfl, rfl, ?_⟩ | refine ⟨rfl, ?_⟩ | (refine ⟨?cc, ?_⟩; (case cc => walk_at "cc"))))

theorem andN (a b : Nat) : Builtin.bitAnd (a : Int) (b : Int) = ((a &&& b : Nat) : Int) := by
  rw [PyProof.Rows.bitAnd_pp (Int.natCast_nonneg _) (Int.natCast_nonneg _), Int.toNat_natCast, Int.toNat_natCast]
theorem orN (a b : Nat) : Builtin.bitOr (a : Int) (b : Int) = ((a ||| b : Nat) : Int) := by
  rw [PyProof.Rows.bitOr_and, andN]
  have q := PyProof.Rows.nat_or_add_and a b
  omega
theorem shlN (p : Nat) : (1 : Int) * 2 ^ ((p : Nat) : Int).toNat = ((2 ^ p : Nat) : Int) := by
  rw [Int.one_mul, Int.toNat_natCast, Int.natCast_pow]
  rfl
theorem two_bits {M p q : Nat} : (M &&& (2 ^ p ||| 2 ^ q) = 0 ↔ M.testBit p = false ∧ M.testBit q = false) ∧ (M ||| (2 ^ p ||| 2 ^ q) = M → M.testBit p = true ∧ M.testBit q = true) := by
  have b1 : ∀ i, (2 ^ p ||| 2 ^ q).testBit i = (decide (p = i) || decide (q = i)) := fun i => by rw [Nat.testBit_or, Nat.testBit_two_pow, Nat.testBit_two_pow]
  refine ⟨⟨fun h => ?_, fun ⟨h1, h2⟩ => ?_⟩, fun h => ?_⟩
  · have h1 := congrArg (fun z => Nat.testBit z p) h
    have h2 := congrArg (fun z => Nat.testBit z q) h
    simp only [Nat.testBit_and, b1, Nat.zero_testBit] at h1 h2
    constructor
    · simpa using h1
    · simpa using h2
  · refine Nat.eq_of_testBit_eq fun i => ?_
    rw [Nat.testBit_and, b1, Nat.zero_testBit]
    by_cases z1 : p = i
    · subst z1; rw [h1]; rfl
    · by_cases z2 : q = i
      · subst z2; rw [h2]; rfl
      · simp [z1, z2]
  · have h1 := congrArg (fun z => Nat.testBit z p) h
    have h2 := congrArg (fun z => Nat.testBit z q) h
    simp only [Nat.testBit_or (x := M), b1] at h1 h2
    constructor
    · simpa using h1.symm
    · simpa using h2.symm
theorem full_mask {M m : Nat} (h : M < 2 ^ m) (k : ∀ p, p < m → M.testBit p = true) : M = 2 ^ m - 1 := by
  refine Nat.eq_of_testBit_eq fun i => ?_
  rw [Nat.testBit_two_pow_sub_one]
  by_cases z : i < m
  · rw [k i z, decide_eq_true z]
  · rw [decide_eq_false z]
    exact Nat.testBit_lt_two_pow (Nat.lt_of_lt_of_le h (Nat.pow_le_pow_right (by decide) (by omega)))
def spReach (K : PySem.W.Frag) : Sp := fun vs H Q _ => ∃ (a : Addr) (ys : List V) (m : Nat) (es : En) (ts : List (List Nat)), vs = [.int 0, .ref a] ∧ SqL K H a ys ∧ EndsAt H ys es ∧ Gr m es ts ∧ 2 ≤ m ∧ m ≤ 40 ∧ Q (.int ((2 ^ m - 1 : Nat) : Int)) H
section
variable {P : Program} {w : World} {K : PySem.W.Frag} {mg : Str → Option Value} {base : Heap}
theorem sc_reached : FnScope ["start", "pairs", "mask", "ahead", "one", "two", "ends"] ["start", "pairs"] (defScope s_reached) := ⟨rfl, rfl, rfl, by decide +kernel, rfl, by decide +kernel, by decide +kernel⟩
theorem ok_reached {f : Addr} {fd : FuncData} (F : Fun K "reached" "reached" s_reached f fd) : FnOk P w K mg base CX0 1 f fd ["start", "pairs"] (spReach K) := by
  refine F.ok sc_reached (fun vs H Q E h => ?_) (fun cdv A outer s H vs Q E hr h => ?_)
  · obtain ⟨a, ys, m, es, ts, rfl, _⟩ := h
    rfl
  obtain ⟨a, ys, m, es, ts, rfl, hS, hE, g, m2, m40, kk⟩ := h
  refine ⟨_, (pss_cons (ps_set (i := 2) sc_reached.nd rfl (Or.inl rfl) (pe_op op_shl pe_int (pv 0)))
      (pss_cons (ps_set (i := 3) sc_reached.nd rfl (Or.inl rfl) pe_int)
      (pss_cons (ps_while PassesOwn.never (pt_cmpR op_ne (pv 2) (pv 3) (nomark _)) (pss_cons (ps_set (i := 3) sc_reached.nd rfl (Or.inl rfl) (pv 2))
      (pss_one (ps_for PassesOwn.never rfl (pi_list (pv 1)) (pg_tup rfl (pgs_cons (pg_name (i := 4) sc_reached.nd rfl (Or.inl rfl)) (pgs_cons (pg_name (i := 5) sc_reached.nd rfl (Or.inl rfl)) pgs_nil))) (pss_cons (ps_set (i := 6) sc_reached.nd rfl (Or.inl rfl) (pe_op op_or (pe_op op_shl pe_int (pv 4)) (pe_op op_shl pe_int (pv 5))))
      (pss_one (ps_if (pt_cmpR op_ne (pe_op op_and (pv 2) (pv 6)) pe_int (nomark _)) (pss_one (ps_set (i := 2) sc_reached.nd rfl (Or.inl rfl) (pe_op op_or (pv 2) (pv 6)))) pss_nil)))))))
      (pss_one (ps_ret (pv 2)))))), ?_⟩
  refine ⟨_, rfl, _, _, rfl, rfl, ⟨by decide, by decide, by decide⟩, ?_⟩
  have p2 : ∀ p, p < m → 2 ^ p < 2 ^ m := fun p hp => Nat.pow_lt_pow_right (by decide) hp
  refine while_by (fun σ H2 => ∃ (M Ah : Nat), ∃ v4 v5 v6, H2 = H ∧ σ = [some (.int 0), some (.ref a), some (.int (M : Int)), some (.int (Ah : Int)), v4, v5, v6] ∧ M.testBit 0 = true ∧ M < 2 ^ m ∧ (M = Ah → ∀ e ∈ es, M.testBit e.1 = M.testBit e.2))
    (fun σ _ => match σ with | [_, _, some (.int M), some (.int Ah), _, _, _] => 2 * ((2 ^ m : Nat) - M).toNat + (if M = Ah then 0 else 1) | _ => 0) ⟨1, 0, _, _, _, rfl, rfl, by decide, Nat.one_lt_two_pow (by omega), fun z => absurd z (by decide)⟩ ?_ ?_
  · rintro σ H2 ⟨M, Ah, v4, v5, v6, rfl, rfl, b0, hM, cl⟩
    refine ⟨_, rfl, _, rfl, rfl, _, rfl, ?_⟩
    refine ite2 (fun c => ?_) (fun c => ?_)
    · have c' : M ≠ Ah := fun z => by
        rw [decide_eq_true (show V.int (M : Int) = V.int (Ah : Int) by rw [z])] at c
        cases c
      refine ⟨_, rfl, ?_⟩
      refine ⟨_, rfl, a, rfl, ⟨_, hS⟩, for_list (K := K) (xs := ys) (fun i σ H3 => ∃ (M' : Nat), ∃ v4 v5 v6, H3 = H2 ∧ σ = [some (.int 0), some (.ref a), some (.int (M' : Int)), some (.int (M : Int)), v4, v5, v6] ∧ M'.testBit 0 = true ∧ M' < 2 ^ m ∧ M ≤ M' ∧ (M' = M → ∀ (j : Nat) (e : Nat × Nat), j < i → es[j]? = some e → M.testBit e.1 = M.testBit e.2)) ⟨M, _, _, _, rfl, rfl, b0, hM, Nat.le_refl _, fun _ j e z => absurd z (Nat.not_lt_zero _)⟩ (fun i σ H3 _ ⟨_, _, _, _, z, _⟩ => z ▸ hS) ?_ ?_⟩
      · rintro i x σ H3 hx ⟨M', v4, v5, v6, rfl, rfl, b0', hM', hle, cl'⟩
        have hi : i < es.length := by rw [← hE.1]; exact (List.getElem?_eq_some_iff.mp hx).1
        obtain ⟨e, he⟩ : ∃ e, es[i]? = some e := ⟨_, List.getElem?_eq_getElem hi⟩
        obtain ⟨p, x1, x2⟩ := hE.2 i e he
        rw [hx] at x1
        cases x1
        obtain ⟨e1, e2, _⟩ := g.w.ends e (List.mem_of_getElem? he)
        obtain ⟨t1, t2⟩ := two_bits (M := M') (p := e.1) (q := e.2)
        refine ⟨p, _, rfl, SqT.of x2, rfl, _, _, rfl, _, _, rfl, rfl, ?_⟩
        refine ⟨_, rfl, _, _, rfl, rfl, ⟨by omega, by omega, by decide⟩, _, rfl, _, _, rfl, rfl, ⟨by omega, by omega, by decide⟩, _, _, rfl, rfl, ?_⟩
        have eo : Builtin.bitOr (1 * 2 ^ ((e.1 : Nat) : Int).toNat) (1 * 2 ^ ((e.2 : Nat) : Int).toNat) = ((2 ^ e.1 ||| 2 ^ e.2 : Nat) : Int) := by rw [shlN, shlN, orN]
        refine ⟨_, rfl, _, rfl, _, _, rfl, rfl, rfl, _, rfl, ?_⟩
        have step : ∀ M'' : Nat, M' ≤ M'' → (M'' = M' → M'.testBit e.1 = M'.testBit e.2) → M'' = M → ∀ (j : Nat) (x : Nat × Nat), j < i + 1 → es[j]? = some x → M.testBit x.1 = M.testBit x.2 := fun M'' h1 h2 h3 j x hj hx' => by
          have e3 : M' = M := by omega
          by_cases z : j = i
          · subst z
            rw [he] at hx'
            cases hx'
            have := h2 (by omega)
            rwa [e3] at this
          · exact cl' e3 j x (by omega) hx'
        refine ite2 (fun c => ?_) (fun c => ?_)
        · refine ⟨_, rfl, _, rfl, _, _, rfl, rfl, ?_⟩
          refine ⟨M' ||| (2 ^ e.1 ||| 2 ^ e.2), some (iV e.1), some (iV e.2), some (V.int (Builtin.bitOr (1 * 2 ^ ((e.1 : Nat) : Int).toNat) (1 * 2 ^ ((e.2 : Nat) : Int).toNat))), rfl, ?_, ?_, Nat.or_lt_two_pow hM' (Nat.or_lt_two_pow (p2 _ e1) (p2 _ e2)), Nat.le_trans hle Nat.left_le_or, step _ Nat.left_le_or fun z => ?_⟩
          · show [some (V.int 0), some (V.ref a), some (V.int (Builtin.bitOr (M' : Int) (Builtin.bitOr (1 * 2 ^ ((e.1 : Nat) : Int).toNat) (1 * 2 ^ ((e.2 : Nat) : Int).toNat)))), some (V.int (M : Int)), some (iV e.1), some (iV e.2), some (V.int (Builtin.bitOr (1 * 2 ^ ((e.1 : Nat) : Int).toNat) (1 * 2 ^ ((e.2 : Nat) : Int).toNat)))] = _
            rw [eo, orN]
          · rw [Nat.testBit_or, b0']; rfl
          · obtain ⟨u1, u2⟩ := t2 z
            rw [u1, u2]
        · refine ⟨M', _, _, _, rfl, rfl, b0', hM', hle, step M' (Nat.le_refl _) fun _ => ?_⟩
          have c3 : M' &&& (2 ^ e.1 ||| 2 ^ e.2) = 0 := by
            by_cases z : M' &&& (2 ^ e.1 ||| 2 ^ e.2) = 0
            · exact z
            · refine absurd ?_ c
              rw [decide_eq_false (fun y => z ?_)]
              · rfl
              · have y' := V.int.inj y
                rw [eo, andN] at y'
                omega
          obtain ⟨u1, u2⟩ := t1.mp c3
          rw [u1, u2]
      · rintro σ H3 ⟨M', v4, v5, v6, rfl, rfl, b0', hM', hle, cl'⟩
        rw [hE.1] at cl'
        refine ⟨⟨M', M, _, _, _, rfl, rfl, b0', hM', fun z e he => ?_⟩, ?_⟩
        · obtain ⟨j, hj⟩ := List.mem_iff_getElem?.mp he
          have := cl' z j e (List.getElem?_eq_some_iff.mp hj).1 hj
          rw [z]
          exact this
        · show 2 * (((2 ^ m : Nat) : Int) - (M' : Int)).toNat + (if (M' : Int) = (M : Int) then 0 else 1) < 2 * (((2 ^ m : Nat) : Int) - (M : Int)).toNat + (if (M : Int) = (Ah : Int) then 0 else 1)
          rw [if_neg (show ¬ (M : Int) = (Ah : Int) from fun z => c' (by omega))]
          have hMi : (M' : Int) < ((2 ^ m : Nat) : Int) := by exact_mod_cast hM'
          have hMj : (M : Int) ≤ (M' : Int) := by omega
          generalize ((2 ^ m : Nat) : Int) = Z at hMi ⊢
          split <;> omega
    · have c' : M = Ah := by
        by_cases z : M = Ah
        · exact z
        · exact absurd (by rw [decide_eq_false (fun y => z (by have := V.int.inj y; omega))]; rfl) c
      have full := full_mask hM fun p hp => by
        have := g.conn (fun x => M.testBit x = true) (fun e he => by rw [cl c' e he]) 0 p (by omega) hp b0
        exact this
      refine ⟨_, rfl, ?_⟩
      rw [full]
      exact kk
  · rintro σ H2 Q1 Q2 hi ⟨v', e, b', e2, z1, c', e3, q'⟩
    exact ⟨v', e, b', e2, z1, c', e3, hi _ _ q'⟩
end
end K8


namespace K8
open PySem L2
local macro_rules | `(tactic| walk_at "cc") => `(tactic| first | exact ⟨by decide, by decide⟩ | (show (0 : Int) < _; decide) | (show (0 : Int) < _; omega) | (show (0 : Int) ≤ _; omega) | exact ⟨by decide, by decide, by decide⟩ | exact ⟨by omega, by omega, by decide⟩ | exact Or.inl ⟨by decide, by decide⟩ | exact Or.inl ⟨by omega, by omega⟩)
local macro_rules | `(tactic| walk_at "rd") => `(tactic| repeat (first | refine ⟨_, rfl, ?_⟩ | refine ⟨_, _, rfl, rfl, ?_⟩ | refine ⟨rfl, ?_⟩ | (refine ⟨?cc, ?_⟩; (case cc => walk_at "cc"))))

theorem sorted_one : ∀ {a b : List Int}, a.Perm b → a.Pairwise (· ≤ ·) → b.Pairwise (· ≤ ·) → a = b
  | [], b, h, _, _ => (List.nil_perm.mp h).symm ▸ rfl
  | x :: a, [], h, _, _ => absurd h.length_eq (by simp)
  | x :: a, y :: b, h, pa, pb => by
    obtain ⟨a1, a2⟩ := List.pairwise_cons.mp pa
    obtain ⟨b1, b2⟩ := List.pairwise_cons.mp pb
    have h1 : x ≤ y := by
      rcases List.mem_cons.mp (h.mem_iff.mpr (List.mem_cons_self ..) : y ∈ x :: a) with z | z
      · rw [z]; exact Int.le_refl _
      · exact a1 y z
    have h2 : y ≤ x := by
      rcases List.mem_cons.mp (h.mem_iff.mp (List.mem_cons_self ..) : x ∈ y :: b) with z | z
      · rw [z]; exact Int.le_refl _
      · exact b1 x z
    have e : x = y := Int.le_antisymm h1 h2
    subst e
    rw [sorted_one (List.Perm.cons_inv h) a2 b2]
def cI (l : List Nat) : List Int := l.map fun (p : Nat) => ((p : Nat) : Int)
theorem cI_V (l : List Nat) : (cI l).map V.int = l.map iV := by unfold cI; rw [List.map_map]; rfl
theorem sort_is {l r : List Nat} {out : List Int} (hp : out.Perm (cI l)) (hs : out.Pairwise (· ≤ ·)) (nl : l.Nodup) (pr : r.Pairwise (· < ·)) (hm : ∀ t, t ∈ l ↔ t ∈ r) : out = cI r := by
  have nr : r.Nodup := pr.imp fun h => Nat.ne_of_lt h
  have q : (cI l).Perm (cI r) := ((List.perm_ext_iff_of_nodup nl nr).mpr hm).map _
  refine sorted_one (hp.trans q) hs ?_
  unfold cI
  exact List.Pairwise.map _ (fun a b h => by omega) pr
theorem ins_end {l : List Nat} {n : Nat} : ins l l.length n = l ++ [n] := by
  unfold ins
  rw [List.take_length, List.drop_length]
def spREnds (K : PySem.W.Frag) : Sp := fun vs H Q _ => ∃ (a : Addr) (xs : List V) (m : Nat) (es : En), vs = [.int (m : Int), .ref a] ∧ SqL K H a xs ∧ TiesAt K H xs es ∧ (∀ e ∈ es, e.1 < m ∧ e.2 < m) ∧ Q .non H
def spRTurns (K : PySem.W.Frag) : Sp := fun vs H Q _ => ∃ (a b : Addr) (xs zs : List V) (m : Nat) (es : En) (ts : List (List Nat)), vs = [.int (m : Int), .ref a, .ref b] ∧ SqL K H a xs ∧ TiesAt K H xs es ∧ SqL K H b zs ∧ RowsAt H zs ts ∧ Turn0 m es ts ∧ es.length ≤ 31 ∧ m ≤ 40 ∧ ∀ H', Same H H' → Q .non H'
def spRPart (K : PySem.W.Frag) : Sp := fun vs H Q _ => ∃ (a : Addr) (xs : List V) (m : Nat) (es : En) (ts : List (List Nat)), vs = [.int (m : Int), .ref a] ∧ SqL K H a xs ∧ TiesAt K H xs es ∧ Gr m es ts ∧ 2 ≤ m ∧ m ≤ 40 ∧ es.length ≤ 31 ∧ ∀ H', Same H H' → Q .non H'
section
variable {P : Program} {w : World} {K : PySem.W.Frag} {mg : Str → Option Value} {base : Heap}
theorem sc_refuse_ends : FnScope ["many", "ties", "tie"] ["many", "ties"] (defScope s_refuse_ends) := ⟨rfl, rfl, rfl, by decide +kernel, rfl, by decide +kernel, by decide +kernel⟩
theorem ok_rends {f : Addr} {fd : FuncData} (F : Fun K "refuse_ends" "refuse_ends" s_refuse_ends f fd) : FnOk P w K mg base CX0 1 f fd ["many", "ties"] (spREnds K) := by
  refine F.ok sc_refuse_ends (fun vs H Q E h => ?_) (fun cdv A outer s H vs Q E hr h => ?_)
  · obtain ⟨a, xs, m, es, rfl, _⟩ := h
    rfl
  obtain ⟨a, xs, m, es, rfl, hS, hT, hm, k⟩ := h
  refine ⟨_, (pss_one (ps_for PassesOwn.never rfl (pi_list (pv 1)) (pg_name (i := 2) sc_refuse_ends.nd rfl (Or.inl rfl)) (pss_one (ps_if (PW.pt (pw_or (pt_cmpR op_ge (pe_fld (pv 2) rfl) (pv 0) (nomark _)) (pw_or1 (pt_cmpR op_ge (pe_fld (pv 2) rfl) (pv 0) (nomark _))))) (pss_one ps_never) pss_nil)))), ?_⟩
  refine ⟨_, rfl, a, rfl, ⟨_, hS⟩, for_list (K := K) (xs := xs) (fun i σ H2 => ∃ v2, σ = [some (.int (m : Int)), some (.ref a), v2] ∧ H2 = H) ⟨_, rfl, rfl⟩ (fun i σ H2 _ ⟨_, _, z⟩ => z ▸ hS) ?_ ?_⟩
  · rintro i x σ H2 hx ⟨v2, rfl, rfl⟩
    have hi : i < es.length := by rw [← hT.1]; exact (List.getElem?_eq_some_iff.mp hx).1
    obtain ⟨e, he⟩ : ∃ e, es[i]? = some e := ⟨_, List.getElem?_eq_getElem hi⟩
    obtain ⟨p, C, dx, st, x1, x2, x3⟩ := hT.2 i e he
    rw [hx] at x1
    cases x1
    obtain ⟨e1, e2⟩ := hm e (List.mem_of_getElem? he)
    refine ⟨_, rfl, p, C, dx, _, _, rfl, x2, x3.cl, x3.n1, tf_one _ _ _, _, rfl, _, _, rfl, rfl, _, rfl, ?_⟩
    refine ite2 (fun c => absurd (of_decide_eq_true c) (by omega)) (fun _ => ?_)
    refine ⟨_, rfl, p, C, dx, _, _, rfl, x2, x3.cl, x3.n2, tf_two _ _ _, _, rfl, _, _, rfl, rfl, _, rfl, ?_⟩
    refine ite2 (fun c => absurd (of_decide_eq_true c) (by omega)) (fun _ => ?_)
    exact ⟨_, rfl, rfl⟩
  · rintro σ H2 ⟨v2, rfl, rfl⟩
    exact k
theorem sc_refuse_turns : FnScope ["many", "ties", "turns", "ending", "number", "tie"] ["many", "ties", "turns"] (defScope s_refuse_turns) := ⟨rfl, rfl, rfl, by decide +kernel, rfl, by decide +kernel, by decide +kernel⟩
theorem ok_rturns {f : Addr} {fd : FuncData} (F : Fun K "refuse_turns" "refuse_turns" s_refuse_turns f fd) (T : Txt mg) : FnOk P w K mg base CX0 1 f fd ["many", "ties", "turns"] (spRTurns K) := by
  refine F.ok sc_refuse_turns (fun vs H Q E h => ?_) (fun cdv A outer s H vs Q E hr h => ?_)
  · obtain ⟨a, b, xs, zs, m, es, ts, rfl, _⟩ := h
    rfl
  obtain ⟨a, b, xs, zs, m, es, ts, rfl, hS, hT, hB, hR, w', few, m40, kk⟩ := h
  have hu64 := hr.units
  refine ⟨_, (pss_cons (ps_setComp (i := 3) rfl sc_refuse_turns.nd rfl rfl (fr := []) (by exact CompOk.plain (by rfl) (by decide +kernel) (by rfl) (by decide +kernel) (by rfl) (by decide +kernel)) (pi_range1 rfl T.n_range (pa_cons (pv 0) pa_nil)) (fun C ex s H => (pe_lst pa_nil)))
      (pss_cons (ps_for PassesOwn.never rfl (pi_enum rfl T.n_enumerate (pa_cons (pv 1) pa_nil)) (pg_tup rfl (pgs_cons (pg_name (i := 4) sc_refuse_turns.nd rfl (Or.inl rfl)) (pgs_cons (pg_name (i := 5) sc_refuse_turns.nd rfl (Or.inl rfl)) pgs_nil))) (pss_cons (ps_expr (pe_bm PySem.F.plainAttrs_list PySem.F.slot_list_append PySem.F.type_list_append mt_append (pe_ix ix_list (pv 3) (pe_fld (pv 5) rfl) (fun _ _ => rfl)) (pa_cons (pv 4) pa_nil)))
      (pss_one (ps_expr (pe_bm PySem.F.plainAttrs_list PySem.F.slot_list_append PySem.F.type_list_append mt_append (pe_ix ix_list (pv 3) (pe_fld (pv 5) rfl) (fun _ _ => rfl)) (pa_cons (pv 4) pa_nil))))))
      (pss_one (ps_if (pt_cmpR (op_neD hu64) (pe_comp rfl (fr := []) (by exact CompOk.plain (by rfl) (by decide +kernel) (by rfl) (by decide +kernel) (by rfl) (by decide +kernel)) (pi_list (pv 2)) (fun C ex s H => (pe_callB (callK_sorted (K := K) rfl) (by rfl) T.n_sorted bt_sorted (pa_cons (pv 0) pa_nil)))) (pv 3) (nomark _)) (pss_one ps_never) pss_nil)))), ?_⟩
  refine ⟨_, rfl, _, rfl, by omega, by omega, comp_range (n := (m : Int).toNat) (fun i ys H2 => Same H H2 ∧ RowsX (fun p => H p ≠ none) H2 ys (List.replicate i []) ∧ Dist ys) (by rw [Int.toNat_natCast]; exact Nat.le_of_lt (small1000 (by omega))) ⟨fun _ _ e => e, ⟨rfl, fun i l e => by simp at e⟩, fun i j p e => by simp at e⟩ ?_ ?_⟩
  · rintro i ys H2 hi ⟨s2, rx, D⟩
    refine ⟨(by show 0 ≤ sizeLine; decide), fun l hl => ?_⟩
    have s3 := same_new hl (.lst [])
    refine ⟨s2.trans s3, ?_, dist_snoc rx D hl⟩
    rw [List.replicate_succ']
    refine (rx.mono fun b u _ z => s3 _ _ z).snoc (fun z => z ?_) upd_same
    cases y : H l with
    | none => rfl
    | some o => rw [s2 _ _ y] at hl; cases hl
  rintro ys H2 hyl ⟨s2, rx, D⟩ pn hpn
  rw [Int.toNat_natCast] at rx
  have s3 := same_new hpn (.lst ys)
  have hpn0 : H pn = none := by
    cases y : H pn with
    | none => rfl
    | some o => rw [s2 _ _ y] at hpn; cases hpn
  have rx3 : RowsX (fun p => p = pn ∨ H p ≠ none) (upd H2 pn (.lst ys)) ys (List.replicate m []) := ⟨rx.1, fun i l z => by
    obtain ⟨p, a1, a2, a3⟩ := rx.2 i l z
    have n2 : p ≠ pn := ne_of_none a3 hpn
    exact ⟨p, a1, by rintro (y | y); exact n2 y; exact a2 y, s3 _ _ a3⟩⟩
  refine ⟨_, rfl, a, rfl, ⟨_, (s2.trans s3).seq hS⟩, for_enum (K := K) (xs := xs) (fun i σ H5 => ∃ v4 v5 rows, σ = [some (.int (m : Int)), some (.ref a), some (.ref b), some (.ref pn), v4, v5] ∧ Same H H5 ∧ H5 pn = some (.lst ys) ∧ RowsX (fun p => p = pn ∨ H p ≠ none) H5 ys rows ∧ Turn0 m (es.take i) rows ∧ ∀ r ∈ rows, r.Pairwise (· < ·))
    ⟨_, _, _, rfl, s2.trans s3, upd_same, rx3, turn_nil m, fun r hr => by rw [(List.mem_replicate.mp hr).2]; exact List.Pairwise.nil⟩ (fun i σ H5 _ ⟨_, _, _, _, z, _⟩ => z.seq hS) ?_ ?_⟩
  · rintro i x σ H5 T2 hx ⟨v4, v5, rows, rfl, s5, hpn5, rx5, w5, pw⟩ hT2
    have hi : i < es.length := by rw [← hT.1]; exact (List.getElem?_eq_some_iff.mp hx).1
    obtain ⟨e, he⟩ : ∃ e, es[i]? = some e := ⟨_, List.getElem?_eq_getElem hi⟩
    obtain ⟨p, C, dx, st, x1, x2, x3⟩ := hT.2 i e he
    rw [hx] at x1
    cases x1
    have sT := same_new hT2 (.tup [.int (i : Int), .ref p])
    have s6 := s5.trans sT
    have x6 := s6 _ _ x2
    obtain ⟨e1, e2, e3⟩ := w'.ends e (List.mem_of_getElem? he)
    have til : (es.take i).length = i := by rw [List.length_take]; omega
    have rlen := w5.len
    obtain ⟨l, hl⟩ : ∃ l, rows[e.1]? = some l := ⟨_, List.getElem?_eq_getElem (by omega)⟩
    obtain ⟨l', hl'⟩ : ∃ l, rows[e.2]? = some l := ⟨_, List.getElem?_eq_getElem (by omega)⟩
    have rx6 : RowsX (fun p => p = pn ∨ H p ≠ none) (upd H5 T2 (.tup [.int (i : Int), .ref p])) ys rows := rx5.mono fun b u _ z => sT _ _ z
    obtain ⟨p1, y1, y2, y3⟩ := rx6.2 _ _ hl
    obtain ⟨p2, z1, z2, z3⟩ := rx6.2 _ _ hl'
    have no_S : ∀ {p : Addr}, ¬ (p = pn ∨ H p ≠ none) → H p = none ∧ p ≠ pn := fun {p} n => by
      refine ⟨?_, fun z => n (.inl z)⟩
      cases y : H p with
      | none => rfl
      | some o => exact absurd (.inr (by rw [y]; exact fun z => nomatch z)) n
    obtain ⟨hp1, np1⟩ := no_S y2
    obtain ⟨hp2, np2⟩ := no_S z2
    have n12 : p2 ≠ p1 := fun y => by rw [y] at z1; exact e3 (D _ _ p1 y1 z1)
    have ll : ∀ {q : Nat} {r : List Nat}, rows[q]? = some r → ∀ t ∈ r, t < i := fun {q r} h t ht => by
      have := mem_lt w5 h ht
      omega
    have lle : ∀ {q : Nat} {r : List Nat}, rows[q]? = some r → r.length ≤ 31 := fun {q r} h => by
      have := len_le (w5.nd _ _ h) (ll h)
      omega
    have f1 := lle hl
    have f2 := lle hl'
    have hpn6 := sT _ _ hpn5
    refine ⟨T2, _, rfl, SqT.of upd_same, rfl, _, _, rfl, _, _, rfl, rfl, ?_⟩
    refine ⟨_, rfl, _, rfl, p, C, dx, _, _, rfl, x6, x3.cl, x3.n1, tf_one _ _ _, pn, ys, _, _, rfl, rfl, SqL.of hpn6, atI_nat y1, .inl ⟨rfl, _, SqL.of y3⟩, _, rfl, p1, _, _, rfl, rfl, y3, small1000 (by rw [List.length_map]; omega), ?_⟩
    have e1' : (l.map iV) ++ [V.int (i : Int)] = (l ++ [i]).map iV := by rw [List.map_append]; rfl
    rw [e1']
    have x7 : (upd (upd H5 T2 (.tup [.int (i : Int), .ref p])) p1 (.lst ((l ++ [i]).map iV))) p = some (.ins C dx (tf (e.1 : Int) (e.2 : Int) st)) := by rw [upd_ne (fun z => by rw [z] at x2; rw [x2] at hp1; cases hp1)]; exact x6
    have hpn7 : (upd (upd H5 T2 (.tup [.int (i : Int), .ref p])) p1 (.lst ((l ++ [i]).map iV))) pn = some (.lst ys) := by rw [upd_ne np1.symm]; exact hpn6
    have z7 : (upd (upd H5 T2 (.tup [.int (i : Int), .ref p])) p1 (.lst ((l ++ [i]).map iV))) p2 = some (.lst (l'.map iV)) := by rw [upd_ne n12]; exact z3
    refine ⟨_, rfl, _, rfl, p, C, dx, _, _, rfl, x7, x3.cl, x3.n2, tf_two _ _ _, pn, ys, _, _, rfl, rfl, SqL.of hpn7, atI_nat z1, .inl ⟨rfl, _, SqL.of z7⟩, _, rfl, p2, _, _, rfl, rfl, z7, small1000 (by rw [List.length_map]; omega), ?_⟩
    have e2' : (l'.map iV) ++ [V.int (i : Int)] = (l' ++ [i]).map iV := by rw [List.map_append]; rfl
    rw [e2']
    refine ⟨_, _, (rows.set e.1 (l ++ [i])).set e.2 (l' ++ [i]), rfl, same_upd (same_upd s6 hp1 _) hp2 _, by rw [upd_ne np2.symm]; exact hpn7, (rx6.set D y1).set D z1, ?_, fun r hr => ?_⟩
    · have q := w5.put (k := l.length) (j := l'.length) e1 e2 e3 hl hl'
      rw [ins_end, ins_end, til] at q
      rw [List.take_add_one, he]
      exact q
    · have app : ∀ {q : Nat} {r : List Nat}, rows[q]? = some r → (r ++ [i]).Pairwise (· < ·) := fun {q r} h => List.pairwise_append.mpr ⟨pw r (List.mem_of_getElem? h), List.pairwise_singleton _ _, fun x hx y hy => by
        have := ll h x hx
        have : y = i := by simpa using hy
        omega⟩
      rcases List.mem_or_eq_of_mem_set hr with z | z
      · rcases List.mem_or_eq_of_mem_set z with z | z
        · exact pw r z
        · rw [z]; exact app hl
      · rw [z]; exact app hl'
  rintro σ H5 ⟨v4, v5, rows, rfl, s5, hpn5, rx5, w5, pw⟩
  rw [hT.1, List.take_length] at w5
  have hzl : zs.length = m := by rw [hR.1, w'.len]
  refine ⟨_, rfl, b, rfl, ⟨_, s5.seq hB⟩, comp_list (K := K) (xs := zs) (fun i vs H6 => Same H5 H6 ∧ RowsAt H6 vs (rows.take i)) (Nat.le_of_lt (small1000 (by omega))) ⟨fun _ _ e => e, rfl, fun i l e => by simp at e⟩ (fun i vs H6 _ z => (s5.trans z.1).seq hB) ?_ ?_⟩
  · rintro i x vs H6 hx ⟨s6, rz⟩
    have hi : i < ts.length := by rw [← hR.1]; exact (List.getElem?_eq_some_iff.mp hx).1
    obtain ⟨l, hl⟩ : ∃ l, ts[i]? = some l := ⟨_, List.getElem?_eq_getElem hi⟩
    obtain ⟨r, hr'⟩ : ∃ r, rows[i]? = some r := ⟨_, List.getElem?_eq_getElem (by rw [w5.len, ← w'.len]; exact hi)⟩
    obtain ⟨p, a1, a2⟩ := (hR.mono (s5.trans s6)).2 i l hl
    rw [hx] at a1
    cases a1
    have hll : l.length ≤ 31 := Nat.le_trans (len_le (w'.nd _ _ hl) fun t ht => mem_lt w' hl ht) few
    refine ⟨_, rfl, p, cI l, rfl, (by rw [cI_V]; exact SqL.of a2), (by unfold cI; rw [List.length_map]; omega), fun q out hq hp hs => ?_⟩
    have eo := sort_is hp hs (w'.nd _ _ hl) (pw r (List.mem_of_getElem? hr')) fun t => (w'.mem i l hl t).trans (w5.mem i r hr' t).symm
    subst eo
    have s7 := same_new hq (.lst ((cI r).map V.int))
    refine ⟨s6.trans s7, ?_⟩
    rw [show rows.take (i + 1) = rows.take i ++ [r] by rw [List.take_add_one, hr']; rfl]
    exact (rz.mono s7).snoc (by rw [upd_same, cI_V])
  rintro vs H6 _ ⟨s6, rz⟩ D' hD'
  rw [hzl, ← w5.len, List.take_length] at rz
  have s7 := same_new hD' (.lst vs)
  have s67 := s6.trans s7
  refine ⟨_, rfl, _, rows_rd (SqL.of upd_same) (rz.mono s7), rows_rd (SqL.of (s67 _ _ hpn5)) (rx5.off.mono s67), rows_shaped rows, _, rfl, iteF ?_⟩
  exact kk _ (s5.trans s67)
theorem sc_refuse_parted : FnScope ["many", "ties"] ["many", "ties"] (defScope s_refuse_parted) := ⟨rfl, rfl, rfl, by decide +kernel, rfl, by decide +kernel, by decide +kernel⟩
theorem ok_rpart {f fr : Addr} {fd fdr : FuncData} (F : Fun K "refuse_parted" "refuse_parted" s_refuse_parted f fd) (G_reached : Cal P w K mg base 1 "reached" ["start", "pairs"] (spReach K) fr fdr) : FnOk P w K mg base CX0 2 f fd ["many", "ties"] (spRPart K) := by
  refine F.ok sc_refuse_parted (fun vs H Q E h => ?_) (fun cdv A outer s H vs Q E hr h => ?_)
  · obtain ⟨a, xs, m, es, ts, rfl, _⟩ := h
    rfl
  obtain ⟨a, xs, m, es, ts, rfl, hS, hT, g, m2, m40, few, kk⟩ := h
  have hul : xs.length = es.length := hT.1
  refine ⟨_, (pss_one (ps_if (pt_cmpR op_ne (pe_call G_reached.ok (hr.mono (by decide)) rfl G_reached.mg G_reached.kp G_reached.bn .nil pass0 (pa_cons pe_int (pa_cons (pe_comp rfl (fr := []) (by exact CompOk.plain (by rfl) (by decide +kernel) (by rfl) (by decide +kernel) (by rfl) (by decide +kernel)) (pi_list (pv 1)) (fun C ex s H => (pe_tup (pa_cons (pe_fldK (K := K) rfl (pv 0) rfl) (pa_cons (pe_fldK (K := K) rfl (pv 0) rfl) pa_nil))))) pa_nil))) (pe_op op_sub (pe_op op_shl pe_int (pv 0)) pe_int) (nomark _)) (pss_one ps_never) pss_nil)), ?_⟩
  refine ⟨_, rfl, a, rfl, ⟨_, hS⟩, comp_list (K := K) (xs := xs) (fun i zs H11 => Same H H11 ∧ EndsAt H11 zs (es.take i)) (Nat.le_of_lt (small1000 (by omega))) ⟨fun _ _ e => e, rfl, fun i l e => by simp at e⟩ (fun i zs H11 _ z => z.1.seq hS) ?_ ?_⟩
  · rintro i x zs H11 hx ⟨s11, ez⟩
    have hi : i < es.length := by rw [← hT.1]; exact (List.getElem?_eq_some_iff.mp hx).1
    obtain ⟨e, he⟩ : ∃ e, es[i]? = some e := ⟨_, List.getElem?_eq_getElem hi⟩
    obtain ⟨p, C, dx, st, a1, a2, a3⟩ := (hT.mono s11).2 i e he
    rw [hx] at a1
    cases a1
    refine ⟨_, rfl, p, C, dx, _, _, rfl, a2, a3.cl, a3.n1, tf_one _ _ _, _, rfl, p, C, dx, _, _, rfl, a2, a3.cl, a3.n2, tf_two _ _ _, (by show 2 ≤ sizeLine; decide), fun g hg => ?_⟩
    have s12 := same_new hg (.tup [iV e.1, iV e.2])
    refine ⟨s11.trans s12, ?_⟩
    rw [show es.take (i + 1) = es.take i ++ [e] by rw [List.take_add_one, he]; rfl]
    exact (ez.mono s12).snoc upd_same
  rintro zs H11 _ ⟨s11, ez⟩ D hD
  rw [hT.1, List.take_length] at ez
  have s12 := same_new hD (.lst zs)
  refine ⟨D, zs, m, es, ts, rfl, SqL.of upd_same, ez.mono s12, g, m2, m40, _, rfl, _, _, rfl, rfl, ⟨by omega, by omega, by decide⟩, _, _, rfl, rfl, rfl, _, rfl, ?_⟩
  refine iteNS ?_ (kk _ (s11.trans s12))
  show V.int _ = V.int _
  rw [shlN]
  have := Nat.two_pow_pos m
  congr 1
  omega
end
end K8


namespace K8
open PySem L2
local macro_rules | `(tactic| walk_at "cc") => `(tactic| first | exact ⟨by decide, by decide⟩ | (show (0 : Int) < _; decide) | (show (0 : Int) < _; omega) | (show (0 : Int) ≤ _; omega) | exact ⟨by decide, by decide, by decide⟩ | exact ⟨by omega, by omega, by decide⟩ | exact Or.inl ⟨by decide, by decide⟩ | exact Or.inl ⟨by omega, by omega⟩)
local macro_rules | `(tactic| walk_at "rd") => `(tactic| repeat (first | refine ⟨_, rfl, ?_⟩ | refine ⟨_, _, rfl, rfl, ?_⟩ | refine ⟨rfl, ?_⟩ | (refine ⟨?cc, ?_⟩; (case cc => walk_at "cc"))))

def cls (PL PS : Addr) (push : Bool) : Addr := if push = true then PS else PL
def TiesK (PL PS : Addr) (H : Hp) (xs : List V) (es : En) (ks : Kn) : Prop := xs.length = es.length ∧ ∀ (i : Nat) (e : Nat × Nat) (k : Int × Int), es[i]? = some e → ks[i]? = some k → ∃ p dx, xs[i]? = some (.ref p) ∧ H p = some (.ins (cls PL PS (decide (k.1 = 1))) dx (tf (e.1 : Int) (e.2 : Int) k.2))
theorem TiesK.mono {PL PS : Addr} {H H' : Hp} {xs : List V} {es : En} {ks : Kn} (t : TiesK PL PS H xs es ks) (h : Same H H') : TiesK PL PS H' xs es ks := ⟨t.1, fun i e k q r => by
  obtain ⟨p, dx, a, b⟩ := t.2 i e k q r
  exact ⟨p, dx, a, h _ _ b⟩⟩
structure CW (K : PySem.W.Frag) (C : Addr) : Prop where
  cl : Cls K C
  n1 : NoAttr K C "many"
  n2 : NoAttr K C "ties"
  n3 : NoAttr K C "turns"
  n4 : NoAttr K C "rounds"
  n5 : NoAttr K C "sides"
theorem putF_len (k : Str) (v : V) : ∀ fs : List (Str × V), (putF k v fs).length ≤ fs.length + 1
  | [] => Nat.le_refl _
  | (a, b) :: r => by
    show (if a = k then (a, v) :: r else (a, b) :: putF k v r).length ≤ _
    have := putF_len k v r
    split <;> simp only [List.length_cons] <;> omega
def spWInit (K : PySem.W.Frag) : Sp := fun vs H Q _ => ∃ (p C dx qt qh : Addr) (m : Nat) (xs zs : List V) (es : En) (ts : List (List Nat)), vs = [.ref p, .int (m : Int), .ref qt, .ref qh] ∧ H p = some (.ins C dx []) ∧ CW K C ∧ H qt = some (.lst xs) ∧ TiesAt K H xs es ∧ H qh = some (.lst zs) ∧ RowsAt H zs ts ∧ Gr m es ts ∧ 0 < es.length ∧ es.length ≤ 31 ∧
  ∀ (fs : List (Str × V)) (q1 : Addr) (H' : Hp), H' p = some (.ins C dx fs) → fs.lookup ("many" : Str) = some (.int (m : Int)) → fs.lookup ("ties" : Str) = some (.ref q1) → H' q1 = some (.lst xs) → (∀ q o, H q = some o → q ≠ p → H' q = some o) → Q .non H'
theorem TiesAt.keep {K : PySem.W.Frag} {H G : Hp} {xs : List V} {es : En} {p C dx : Addr} (t : TiesAt K H xs es) (hp : H p = some (.ins C dx [])) (k : ∀ q u, q ≠ p → H q = some u → G q = some u) : TiesAt K G xs es := ⟨t.1, fun i e z => by
  obtain ⟨q, C', dx', s, a, b, d⟩ := t.2 i e z
  refine ⟨q, C', dx', s, a, k _ _ (fun z => ?_) b, d⟩
  rw [z, hp] at b
  have e1 : ([] : List (Str × V)) = tf (e.1 : Int) (e.2 : Int) s := by
    injection b with b
    injection b
  have e2 := tf_one (e.1 : Int) (e.2 : Int) s
  rw [← e1] at e2
  cases e2⟩
section
variable {P : Program} {w : World} {K : PySem.W.Frag} {mg : Str → Option Value} {base : Heap}
theorem sc_Web___init : FnScope ["self", "many", "ties", "turns", "rounds"] ["self", "many", "ties", "turns"] (defScope s_Web___init) := ⟨rfl, rfl, rfl, by decide +kernel, rfl, by decide +kernel, by decide +kernel⟩
theorem ok_winit {f f1 f2 f3 f4 f5 : Addr} {fd d1 d2 d3 d4 d5 : FuncData} (F : Fun K "__init__" "Web.__init__" s_Web___init f fd) (T : Txt mg) (G_refuse_ends : Cal P w K mg base 1 "refuse_ends" ["many", "ties"] (spREnds K) f1 d1) (G_refuse_turns : Cal P w K mg base 1 "refuse_turns" ["many", "ties", "turns"] (spRTurns K) f2 d2) (G_refuse_parted : Cal P w K mg base 2 "refuse_parted" ["many", "ties"] (spRPart K) f3 d3) (G_rounds_of : Cal P w K mg base 4 "rounds_of" ["ties", "turns"] (spRounds K) f4 d4) (G_sides_of : Cal P w K mg base 1 "sides_of" ["ties", "rounds"] (spSides K) f5 d5) :
    FnOk P w K mg base CX0 5 f fd ["self", "many", "ties", "turns"] (spWInit K) := by
  refine F.ok sc_Web___init (fun vs H Q E h => ?_) (fun cdv A outer s H vs Q E hr h => ?_)
  · obtain ⟨p, C, dx, qt, qh, m, xs, zs, es, ts, rfl, _⟩ := h
    rfl
  obtain ⟨p, C, dx, qt, qh, m, xs, zs, es, ts, rfl, hp, cw, hqt, hT, hqh, hR, g, e0, few, kk⟩ := h
  have w' := g.w
  have m2 := g.two e0
  have mf := gr_few g
  have hul : xs.length = es.length := hT.1
  have hzl : zs.length = m := by rw [hR.1, w'.len]
  have pl : ∀ {q : Addr} {ys : List V}, H q = some (.lst ys) → q ≠ p := fun {q ys} h z => by rw [z, hp] at h; cases h
  refine ⟨_, (pss_cons (ps_expr (pe_call G_refuse_ends.ok (hr.mono (by decide)) rfl G_refuse_ends.mg G_refuse_ends.kp G_refuse_ends.bn .nil pass0 (pa_cons (pv 1) (pa_cons (pv 2) pa_nil))))
      (pss_cons (ps_expr (pe_call G_refuse_turns.ok (hr.mono (by decide)) rfl G_refuse_turns.mg G_refuse_turns.kp G_refuse_turns.bn .nil pass0 (pa_cons (pv 1) (pa_cons (pv 2) (pa_cons (pv 3) pa_nil)))))
      (pss_cons (ps_expr (pe_call G_refuse_parted.ok (hr.mono (by decide)) rfl G_refuse_parted.mg G_refuse_parted.kp G_refuse_parted.bn .nil pass0 (pa_cons (pv 1) (pa_cons (pv 2) pa_nil))))
      (pss_cons (ps_set (i := 4) sc_Web___init.nd rfl (Or.inl rfl) (pe_call G_rounds_of.ok (hr.mono (by decide)) rfl G_rounds_of.mg G_rounds_of.kp G_rounds_of.bn .nil pass0 (pa_cons (pv 2) (pa_cons (pv 3) pa_nil))))
      (pss_cons (ps_if (pt_cmpR op_ne (pe_op op_add (pe_op op_sub (pv 1) (pe_callB call_len_seq (by rfl) T.n_len bt_len (pa_cons (pv 2) pa_nil))) (pe_callB call_len_seq (by rfl) T.n_len bt_len (pa_cons (pv 4) pa_nil))) pe_int (nomark _)) (pss_one ps_never) pss_nil)
      (pss_cons (ps_fld (pv 0) (pv 1) rfl)
      (pss_cons (ps_fld (pv 0) (pe_callTy call_list_of (by rfl) T.n_list bt_list (pa_cons (pv 2) pa_nil)) rfl)
      (pss_cons (ps_fld (pv 0) (pe_comp rfl (fr := []) (by exact CompOk.plain (by rfl) (by decide +kernel) (by rfl) (by decide +kernel) (by rfl) (by decide +kernel)) (pi_list (pv 3)) (fun C ex s H => (pe_callTy (callK_list (K := K) rfl) (by rfl) T.n_list bt_list (pa_cons (pv 0) pa_nil)))) rfl)
      (pss_cons (ps_fld (pv 0) (pv 4) rfl)
      (pss_one (ps_fld (pv 0) (pe_call G_sides_of.ok (hr.mono (by decide)) rfl G_sides_of.mg G_sides_of.kp G_sides_of.bn .nil pass0 (pa_cons (pv 2) (pa_cons (pv 4) pa_nil))) rfl))))))))))), ?_⟩
  refine ⟨_, rfl, _, rfl, qt, xs, m, es, rfl, SqL.of hqt, hT, fun e he => ⟨(w'.ends e he).1, (w'.ends e he).2.1⟩, ?_⟩
  refine ⟨_, rfl, _, rfl, _, rfl, qt, qh, xs, zs, m, es, ts, rfl, SqL.of hqt, hT, SqL.of hqh, hR, w', few, by omega, fun H1 s1 => ?_⟩
  refine ⟨_, rfl, _, rfl, qt, xs, m, es, ts, rfl, SqL.of (s1 _ _ hqt), hT.mono s1, g, m2, by omega, few, fun H2 s2 => ?_⟩
  have s12 := s1.trans s2
  refine ⟨_, rfl, _, rfl, qt, qh, m, es, ts, rfl, ⟨⟨xs, SqL.of (s12 _ _ hqt), hT.mono s12⟩, ⟨zs, SqL.of (s12 _ _ hqh), hR.mono s12⟩, w', by omega⟩, fun qr vs rs H3 s3 hqr hrs ro => ?_⟩
  have s13 := s12.trans s3
  have cnt : m + rs.length = es.length + 2 := by
    obtain ⟨rs', p', c⟩ := g.part
    rw [← p'.same ro.part]
    exact c
  have hvl : vs.length = rs.length := hrs.1
  refine ⟨_, rfl, _, rfl, qt, xs, rfl, .inl (SqL.of (s13 _ _ hqt)), _, _, rfl, rfl, _, rfl, qr, vs, rfl, .inl (SqL.of hqr), _, _, rfl, rfl, rfl, _, rfl, ?_⟩
  refine iteNS (congrArg V.int (by omega)) ?_
  have hp3 := s13 _ _ hp
  -- self.many
  refine ⟨_, rfl, _, rfl, p, C, dx, [], rfl, hp3, cw.cl, cw.n1, (by show 0 < 1000; decide), ?_⟩
  have keep : ∀ {G : Hp} {o : HO} {q : Addr} {u : HO}, q ≠ p → G q = some u → (upd G p o) q = some u := fun n z => by rw [upd_ne n]; exact z
  -- self.ties = list(ties)
  refine ⟨_, rfl, qt, xs, rfl, .inl (SqL.of (keep (pl hqt) (s13 _ _ hqt))), fun q1 hq1 => ?_⟩
  have n1p : q1 ≠ p := fun z => by rw [z, upd_same] at hq1; cases hq1
  have t4 := same_new hq1 (.lst xs)
  refine ⟨_, rfl, p, C, dx, _, rfl, t4 _ _ upd_same, cw.cl, cw.n2, ?_, ?_⟩
  · have := putF_len "many" (.int (m : Int)) ([] : List (Str × V)); simp only [List.length_nil] at this; omega
  have t1 : ∀ q u, q ≠ p → H3 q = some u → (upd (upd (upd H3 p (.ins C dx (putF "many" (.int (m : Int)) []))) q1 (.lst xs)) p (.ins C dx (putF "ties" (.ref q1) (putF "many" (.int (m : Int)) [])))) q = some u := fun q u n z => keep n (t4 _ _ (keep n z))
  have q1a : (upd (upd (upd H3 p (.ins C dx (putF "many" (.int (m : Int)) []))) q1 (.lst xs)) p (.ins C dx (putF "ties" (.ref q1) (putF "many" (.int (m : Int)) [])))) q1 = some (.lst xs) := keep n1p upd_same
  have pa : (upd (upd (upd H3 p (.ins C dx (putF "many" (.int (m : Int)) []))) q1 (.lst xs)) p (.ins C dx (putF "ties" (.ref q1) (putF "many" (.int (m : Int)) [])))) p = some (.ins C dx (putF "ties" (.ref q1) (putF "many" (.int (m : Int)) []))) := upd_same
  generalize upd (upd (upd H3 p (.ins C dx (putF "many" (.int (m : Int)) []))) q1 (.lst xs)) p (.ins C dx (putF "ties" (.ref q1) (putF "many" (.int (m : Int)) []))) = H4 at t1 q1a pa
  have lk : (putF "ties" (.ref q1) (putF "many" (.int (m : Int)) []) : List (Str × V)).lookup ("ties" : Str) = some (.ref q1) := by rw [lookup_putF, if_pos rfl]
  have ln : (putF "ties" (.ref q1) (putF "many" (.int (m : Int)) []) : List (Str × V)).length ≤ 2 := by
    have a1 := putF_len "many" (.int (m : Int)) ([] : List (Str × V))
    have a2 := putF_len "ties" (.ref q1) (putF "many" (.int (m : Int)) ([] : List (Str × V)))
    simp only [List.length_nil] at a1
    omega
  have lkm : (putF "ties" (.ref q1) (putF "many" (.int (m : Int)) []) : List (Str × V)).lookup ("many" : Str) = some (.int (m : Int)) := by rw [lookup_putF, if_neg (by decide +kernel), lookup_putF, if_pos rfl]
  generalize (putF "ties" (.ref q1) (putF "many" (.int (m : Int)) []) : List (Str × V)) = fs at pa lk ln lkm
  have hqh4 := t1 _ _ (pl hqh) (s13 _ _ hqh)
  -- self.turns
  refine ⟨_, rfl, qh, rfl, ⟨_, SqL.of hqh4⟩, comp_list (K := K) (xs := zs) (fun i _ H5 => Same H4 H5) (Nat.le_of_lt (small1000 (by omega))) (fun _ _ e => e) (fun i _ H5 _ z => SqL.of (z _ _ hqh4)) ?_ ?_⟩
  · intro i x ys H5 hx s5
    have hi : i < ts.length := by rw [← hR.1]; exact (List.getElem?_eq_some_iff.mp hx).1
    obtain ⟨l, hl⟩ : ∃ l, ts[i]? = some l := ⟨_, List.getElem?_eq_getElem hi⟩
    obtain ⟨r, a1, a2⟩ := hR.2 i l hl
    rw [hx] at a1
    cases a1
    exact ⟨_, rfl, r, _, rfl, .inl (SqL.of (s5 _ _ (t1 _ _ (pl a2) (s13 _ _ a2)))), fun g hg => s5.trans (same_new hg _)⟩
  intro ys H5 _ s5 D hD
  have s6 := s5.trans (same_new hD (.lst ys))
  refine ⟨_, rfl, p, C, dx, fs, rfl, s6 _ _ pa, cw.cl, cw.n3, by omega, ?_⟩
  have ln1 := putF_len "turns" (.ref D) fs
  have lk1 : (putF "turns" (.ref D) fs).lookup ("ties" : Str) = some (.ref q1) := by rw [lookup_putF, if_neg (by decide +kernel)]; exact lk
  -- self.rounds
  refine ⟨_, rfl, _, rfl, p, C, dx, _, rfl, upd_same, cw.cl, cw.n4, by omega, ?_⟩
  have ln2 := putF_len "rounds" (.ref qr) (putF "turns" (.ref D) fs)
  have lk2 : (putF "rounds" (.ref qr) (putF "turns" (.ref D) fs)).lookup ("ties" : Str) = some (.ref q1) := by rw [lookup_putF, if_neg (by decide +kernel)]; exact lk1
  have t7 : ∀ q u, q ≠ p → H3 q = some u → (upd (upd (upd H5 D (.lst ys)) p (.ins C dx (putF "turns" (.ref D) fs))) p (.ins C dx (putF "rounds" (.ref qr) (putF "turns" (.ref D) fs)))) q = some u := fun q u n z => keep n (keep n (s6 _ _ (t1 q u n z)))
  have q17 : (upd (upd (upd H5 D (.lst ys)) p (.ins C dx (putF "turns" (.ref D) fs))) p (.ins C dx (putF "rounds" (.ref qr) (putF "turns" (.ref D) fs)))) q1 = some (.lst xs) := keep n1p (keep n1p (s6 _ _ q1a))
  have p7 : (upd (upd (upd H5 D (.lst ys)) p (.ins C dx (putF "turns" (.ref D) fs))) p (.ins C dx (putF "rounds" (.ref qr) (putF "turns" (.ref D) fs)))) p = some (.ins C dx (putF "rounds" (.ref qr) (putF "turns" (.ref D) fs))) := upd_same
  generalize upd (upd (upd H5 D (.lst ys)) p (.ins C dx (putF "turns" (.ref D) fs))) p (.ins C dx (putF "rounds" (.ref qr) (putF "turns" (.ref D) fs))) = H7 at t7 q17 p7
  have pl3 : ∀ {q : Addr} {ys : List V}, H3 q = some (.lst ys) → q ≠ p := fun {q ys} h z => by rw [z, hp3] at h; cases h
  have rs7 : RowsAt H7 vs rs := ⟨hrs.1, fun i l z => by
    obtain ⟨r, a1, a2⟩ := hrs.2 i l z
    exact ⟨r, a1, t7 _ _ (pl3 a2) a2⟩⟩
  have T7 : TiesAt K H7 xs es := (hT.mono s13).keep hp3 t7
  -- self.sides
  refine ⟨_, rfl, _, rfl, qt, qr, xs, vs, es, _, rs, rfl, SqL.of (t7 _ _ (pl hqt) (s13 _ _ hqt)), T7, by omega, SqL.of (t7 _ _ (pl3 hqr) hqr), rs7, ro, fun q5 z5 H8 s8 _ _ => ?_⟩
  refine ⟨_, rfl, p, C, dx, _, rfl, s8 _ _ p7, cw.cl, cw.n5, by omega, ?_⟩
  refine kk _ q1 _ upd_same (by rw [lookup_putF, if_neg (by decide +kernel), lookup_putF, if_neg (by decide +kernel), lookup_putF, if_neg (by decide +kernel)]; exact lkm) (by rw [lookup_putF, if_neg (by decide +kernel)]; exact lk2) (keep n1p (s8 _ _ q17)) fun q o z n => keep n (s8 _ _ (t7 q o n (s13 _ _ z)))
theorem TiesK.at {PL PS : Addr} {H : Hp} {xs : List V} {es : En} {ks : Kn} (t : TiesK PL PS H xs es ks) (kl : ks.length = es.length) (TL : CT K PL) (TS : CT K PS) : TiesAt K H xs es := ⟨t.1, fun i e z => by
  have hi := (List.getElem?_eq_some_iff.mp z).1
  obtain ⟨k, hk⟩ : ∃ k, ks[i]? = some k := ⟨_, List.getElem?_eq_getElem (by omega)⟩
  obtain ⟨p, dx, a, b⟩ := t.2 i e k z hk
  refine ⟨p, _, dx, k.2, a, b, ?_⟩
  unfold cls
  split
  · exact TS
  · exact TL⟩
def spLWeb (PL PS WC : Addr) : Sp := fun vs H Q _ => ∃ (t pe pt pk : Addr) (m : Nat) (es : En) (ts : List (List Nat)) (ks : Kn), vs = [.ref t] ∧ BuiltP H t pe pt pk m es ts ks ∧ 0 < es.length ∧
  ∀ (p dx : Addr) (fs : List (Str × V)) (q1 : Addr) (xs : List V) (H' : Hp), Same H H' → H' p = some (.ins WC dx fs) → fs.lookup ("many" : Str) = some (.int (m : Int)) → fs.lookup ("ties" : Str) = some (.ref q1) → H' q1 = some (.lst xs) → TiesK PL PS H' xs es ks → Q (.ref p) H'
theorem sc_law_web : FnScope ["built", "ties", "k", "end"] ["built"] (defScope s_law_web) := ⟨rfl, rfl, rfl, by decide +kernel, rfl, by decide +kernel, by decide +kernel⟩
theorem ok_lweb {f fI PL PS WC fW : Addr} {fd fdI fdW : FuncData} (F : Fun K "_law_web" "_law_web" s_law_web f fd) (T : Txt mg) (M_Pull : Mak P w K mg base 1 "Pull" ["self", "one", "two", "strength"] (spInit K) PL fI fdI) (M_Push : Mak P w K mg base 1 "Push" ["self", "one", "two", "strength"] (spInit K) PS fI fdI) (TL : CT K PL) (TS : CT K PS)
    (M_Web : Mak P w K mg base 5 "Web" ["self", "many", "ties", "turns"] (spWInit K) WC fW fdW) (cw : CW K WC) : FnOk P w K mg base CX0 7 f fd ["built"] (spLWeb PL PS WC) := by
  refine F.ok sc_law_web (fun vs H Q E h => ?_) (fun cdv A outer s H vs Q E hr h => ?_)
  · obtain ⟨t, pe, pt, pk, m, es, ts, ks, rfl, _⟩ := h
    rfl
  obtain ⟨t, pe, pt, pk, m, es, ts, ks, rfl, bp, e0', kk⟩ := h
  obtain ⟨ht, ⟨⟨ys, hpe, hE⟩, ⟨xs, hpt, hR⟩, g⟩, ⟨ws, hpk, tk⟩, few, kl⟩ := bp
  have hyl : ys.length = es.length := hE.1
  have mf := gr_few g
  have hxm : xs.length = m := by rw [hR.1, g.w.len]
  refine ⟨_, (pss_cons (ps_set (i := 1) sc_law_web.nd rfl (Or.inl rfl) (pe_lst pa_nil))
      (pss_cons (ps_for PassesOwn.never rfl (pi_range1 rfl T.n_range (pa_cons (pe_callB call_len_seq (by rfl) T.n_len bt_len (pa_cons (pe_ix ix_tup (pv 0) pe_int (fun _ _ => rfl)) pa_nil)) pa_nil)) (pg_name (i := 2) sc_law_web.nd rfl (Or.inl rfl)) (pss_cons (ps_set (i := 3) sc_law_web.nd rfl (Or.inl rfl) (pe_ix ix_list (pe_ix ix_tup (pv 0) pe_int (fun _ _ => rfl)) (pv 2) (fun _ _ => rfl)))
      (pss_one (ps_if (pt_cmpR op_eq (pe_ix ix_tup (pe_ix ix_list (pe_ix ix_tup (pv 0) pe_int (fun _ _ => rfl)) (pv 2) (fun _ _ => rfl)) pe_int (fun _ _ => rfl)) pe_int (nomark _)) (pss_one (ps_expr (pe_bm PySem.F.plainAttrs_list PySem.F.slot_list_append PySem.F.type_list_append mt_append (pv 1) (pa_cons (pe_make M_Push.mkc M_Push.ok (hr.mono (by decide)) rfl M_Push.mg M_Push.bn .nil pass0 (pa_cons (pe_ix ix_tup (pv 3) pe_int (fun _ _ => rfl)) (pa_cons (pe_ix ix_tup (pv 3) pe_int (fun _ _ => rfl)) (pa_cons (pe_ix ix_tup (pe_ix ix_list (pe_ix ix_tup (pv 0) pe_int (fun _ _ => rfl)) (pv 2) (fun _ _ => rfl)) pe_int (fun _ _ => rfl)) pa_nil)))) pa_nil)))) (pss_one (ps_expr (pe_bm PySem.F.plainAttrs_list PySem.F.slot_list_append PySem.F.type_list_append mt_append (pv 1) (pa_cons (pe_make M_Pull.mkc M_Pull.ok (hr.mono (by decide)) rfl M_Pull.mg M_Pull.bn .nil pass0 (pa_cons (pe_ix ix_tup (pv 3) pe_int (fun _ _ => rfl)) (pa_cons (pe_ix ix_tup (pv 3) pe_int (fun _ _ => rfl)) (pa_cons (pe_ix ix_tup (pe_ix ix_list (pe_ix ix_tup (pv 0) pe_int (fun _ _ => rfl)) (pv 2) (fun _ _ => rfl)) pe_int (fun _ _ => rfl)) pa_nil)))) pa_nil))))))))
      (pss_one (ps_ret (pe_make M_Web.mkc M_Web.ok (hr.mono (by decide)) rfl M_Web.mg M_Web.bn .nil pass0 (pa_cons (pe_callB call_len_seq (by rfl) T.n_len bt_len (pa_cons (pe_ix ix_tup (pv 0) pe_int (fun _ _ => rfl)) pa_nil)) (pa_cons (pv 1) (pa_cons (pe_comp rfl (fr := []) (by exact CompOk.plain (by rfl) (by decide +kernel) (by rfl) (by decide +kernel) (by rfl) (by decide +kernel)) (pi_list (pe_ix ix_tup (pv 0) pe_int (fun _ _ => rfl))) (fun C ex s H => (pe_callTy (callK_list (K := K) rfl) (by rfl) T.n_list bt_list (pa_cons (pv 0) pa_nil)))) pa_nil)))))))), ?_⟩
  refine ⟨(by show 0 ≤ sizeLine; decide), fun q hq => ?_⟩
  have s1 := same_new hq (.lst [])
  refine ⟨_, rfl, t, _, 0, _, rfl, rfl, SqT.of (s1 _ _ ht), at30, pe, ys, rfl, .inl (SqL.of (s1 _ _ hpe)), _, rfl, by omega, by omega, for_range (n := (ys.length : Int).toNat) (fun i σ H2 => ∃ v2 v3 us, σ = [some (.ref t), some (.ref q), v2, v3] ∧ Same H H2 ∧ H2 q = some (.lst us) ∧ TiesK PL PS H2 us (es.take i) ks) ⟨_, _, [], rfl, s1, upd_same, rfl, fun i e k z => by simp at z⟩ ?_ ?_⟩
  · rintro i σ H2 hi ⟨v2, v3, us, rfl, s2, hq2, tt⟩
    rw [Int.toNat_natCast, hyl] at hi
    have e0 : (0 : Int) + (i : Int) = (i : Int) := Int.zero_add _
    rw [e0]
    obtain ⟨e, he⟩ : ∃ e, es[i]? = some e := ⟨_, List.getElem?_eq_getElem hi⟩
    obtain ⟨k, hk⟩ : ∃ k, ks[i]? = some k := ⟨_, List.getElem?_eq_getElem (by omega)⟩
    obtain ⟨_, _, ne⟩ := g.w.ends e (List.mem_of_getElem? he)
    obtain ⟨p, x1, x2⟩ := (hE.mono s2).2 i e he
    obtain ⟨k1, k2, pk', y1, y2⟩ := (tk.mono s2).2 i k hk
    have ul : us.length = i := by rw [tt.1, List.length_take]; omega
    refine ⟨_, rfl, t, _, 0, _, rfl, rfl, SqT.of (s2 _ _ ht), at30, _, rfl, pe, ys, _, _, rfl, rfl, SqL.of (s2 _ _ hpe), atI_nat x1, ?_⟩
    refine ⟨_, rfl, t, _, 2, _, rfl, rfl, SqT.of (s2 _ _ ht), at32, _, rfl, pk, ws, _, _, rfl, rfl, SqL.of (s2 _ _ hpk), atI_nat y1, pk', _, 0, _, rfl, rfl, SqT.of y2, at0, rfl, _, rfl, ?_⟩
    have fin : ∀ (x dx : Addr) (H' : Hp), Same H2 H' → H' x = some (.ins (cls PL PS (decide (k.1 = 1))) dx (tf (e.1 : Int) (e.2 : Int) k.2)) → ∃ v2 v3 zs, ([some (.ref t), some (.ref q), some (.int (i : Int)), some (.ref p)] : St) = [some (.ref t), some (.ref q), v2, v3] ∧ Same H (upd H' q (.lst (us ++ [.ref x]))) ∧ (upd H' q (.lst (us ++ [.ref x]))) q = some (.lst zs) ∧ TiesK PL PS (upd H' q (.lst (us ++ [.ref x]))) zs (es.take (i + 1)) ks := fun x dx H' s4 h1 => by
      refine ⟨_, _, _, rfl, same_upd (s2.trans s4) hq _, upd_same, by rw [List.length_append, ul, List.length_take]; simp; omega, fun j e' k' hj hk' => ?_⟩
      have hqn : ∀ {b : Addr} {C dx : Addr} {fs : List (Str × V)}, H' b = some (.ins C dx fs) → b ≠ q := fun z y => by rw [y, s4 _ _ hq2] at z; cases z
      rw [List.getElem?_take] at hj
      by_cases z : j < i
      · rw [if_pos (by omega)] at hj
        obtain ⟨p', dx', a1, a2⟩ := (tt.mono s4).2 j e' k' (by rw [List.getElem?_take, if_pos z]; exact hj) hk'
        exact ⟨p', dx', by rw [List.getElem?_append_left (by omega)]; exact a1, by rw [upd_ne (hqn a2)]; exact a2⟩
      · by_cases z2 : j = i
        · subst z2
          rw [if_pos (by omega), he] at hj
          cases hj
          rw [hk] at hk'
          cases hk'
          exact ⟨x, dx, by rw [← ul, List.getElem?_append_right (Nat.le_refl _), Nat.sub_self]; rfl, by rw [upd_ne (hqn h1)]; exact h1⟩
        · rw [if_neg (by omega)] at hj
          cases hj
    refine ite2 (fun c => ?_) (fun c => ?_)
    · have c' : k.1 = 1 := V.int.inj (of_decide_eq_true c)
      refine ⟨_, rfl, .inl ⟨rfl, _, SqL.of hq2⟩, _, rfl, p, _, 0, _, rfl, rfl, SqT.of x2, at0, _, rfl, p, _, 1, _, rfl, rfl, SqT.of x2, at1, _, rfl, t, _, 2, _, rfl, rfl, SqT.of (s2 _ _ ht), at32, _, rfl, pk, ws, _, _, rfl, rfl, SqL.of (s2 _ _ hpk), atI_nat y1, pk', _, 1, _, rfl, rfl, SqT.of y2, at1, ?_⟩
      intro x dx nx ndx nex
      refine ⟨x, PS, dx, _, _, _, rfl, upd_same, TS, by omega, by omega, by omega, k2, fun H' h1 h2 => ?_⟩
      have s4 : Same H2 H' := fun b o z => h2 b o (by rw [upd_ne (ne_of_none z nx), upd_ne (ne_of_none z ndx)]; exact z) (ne_of_none z nx)
      refine ⟨rfl, q, us, _, rfl, rfl, s4 _ _ hq2, small1000 (by omega), fin x dx H' s4 ?_⟩
      rw [decide_eq_true c']
      exact h1
    · have c' : ¬ k.1 = 1 := fun z => c (decide_eq_true (by rw [z]))
      refine ⟨_, rfl, .inl ⟨rfl, _, SqL.of hq2⟩, _, rfl, p, _, 0, _, rfl, rfl, SqT.of x2, at0, _, rfl, p, _, 1, _, rfl, rfl, SqT.of x2, at1, _, rfl, t, _, 2, _, rfl, rfl, SqT.of (s2 _ _ ht), at32, _, rfl, pk, ws, _, _, rfl, rfl, SqL.of (s2 _ _ hpk), atI_nat y1, pk', _, 1, _, rfl, rfl, SqT.of y2, at1, ?_⟩
      intro x dx nx ndx nex
      refine ⟨x, PL, dx, _, _, _, rfl, upd_same, TL, by omega, by omega, by omega, k2, fun H' h1 h2 => ?_⟩
      have s4 : Same H2 H' := fun b o z => h2 b o (by rw [upd_ne (ne_of_none z nx), upd_ne (ne_of_none z ndx)]; exact z) (ne_of_none z nx)
      refine ⟨rfl, q, us, _, rfl, rfl, s4 _ _ hq2, small1000 (by omega), fin x dx H' s4 ?_⟩
      rw [decide_eq_false c']
      exact h1
  rintro σ H2 ⟨v2, v3, us, rfl, s2, hq2, tt⟩
  rw [Int.toNat_natCast, hyl, List.take_length] at tt
  have hpt2 := s2 _ _ hpt
  refine ⟨_, rfl, t, _, 1, _, rfl, rfl, SqT.of (s2 _ _ ht), at31, pt, xs, rfl, .inl (SqL.of hpt2), _, rfl, _, rfl, t, _, 1, _, rfl, rfl, SqT.of (s2 _ _ ht), at31, pt, rfl, ⟨_, SqL.of hpt2⟩, comp_list (K := K) (xs := xs) (fun i zs H3 => Same H2 H3 ∧ RowsAt H3 zs (ts.take i)) (Nat.le_of_lt (small1000 (by omega))) ⟨fun _ _ e => e, rfl, fun i l e => by simp at e⟩ (fun i zs H3 _ z => SqL.of (z.1 _ _ hpt2)) ?_ ?_⟩
  · rintro i x zs H3 hx ⟨s3, rz⟩
    have hi : i < ts.length := by rw [← hR.1]; exact (List.getElem?_eq_some_iff.mp hx).1
    obtain ⟨l, hl⟩ : ∃ l, ts[i]? = some l := ⟨_, List.getElem?_eq_getElem hi⟩
    obtain ⟨p, a1, a2⟩ := (hR.mono (s2.trans s3)).2 i l hl
    rw [hx] at a1
    cases a1
    refine ⟨_, rfl, p, _, rfl, .inl (SqL.of a2), fun g hg => ?_⟩
    have s4 := same_new hg (.lst (l.map iV))
    refine ⟨s3.trans s4, ?_⟩
    rw [show ts.take (i + 1) = ts.take i ++ [l] by rw [List.take_add_one, hl]; rfl]
    exact (rz.mono s4).snoc upd_same
  rintro zs H3 _ ⟨s3, rz⟩ D hD
  rw [hR.1, List.take_length] at rz
  have s4 := same_new hD (.lst zs)
  have s24 := s3.trans s4
  intro x dx nx ndx nex
  have up : ∀ b o, (upd H3 D (.lst zs)) b = some o → (upd (upd (upd H3 D (.lst zs)) dx (.own x)) x (.ins WC dx [])) b = some o := fun b o z => by rw [upd_ne (ne_of_none z nx), upd_ne (ne_of_none z ndx)]; exact z
  refine ⟨x, WC, dx, q, D, m, us, zs, es, ts, (by rw [hxm]; rfl), upd_same, cw, up _ _ (s24 _ _ hq2), ((tt.at kl TL TS).mono s24).mono up, up _ _ upd_same, (rz.mono s4).mono up, g, e0', few, fun fs q1 H' h1 h0 h2 h3 h4 => ⟨rfl, ?_⟩⟩
  have s5 : Same H2 H' := fun b o z => h4 b o (up _ _ (s24 _ _ z)) (ne_of_none (s24 _ _ z) nx)
  exact kk x dx fs q1 us H' (s2.trans s5) h1 h0 h2 h3 (tt.mono s5)
end
end K8


namespace K8
open PySem L2
local macro_rules | `(tactic| walk_at "cc") => `(tactic| first | exact ⟨by decide, by decide⟩ | (show (0 : Int) < _; decide) | (show (0 : Int) < _; omega) | (show (0 : Int) ≤ _; omega) | exact ⟨by decide, by decide, by decide⟩ | exact ⟨by omega, by omega, by decide⟩ | exact Or.inl ⟨by decide, by decide⟩ | exact Or.inl ⟨by omega, by omega⟩)
local macro_rules | `(tactic| walk_at "rd") => `(tactic| repeat (first | refine ⟨_, rfl, ?_⟩ | refine ⟨_, _, rfl, rfl, ?_⟩ | refine ⟨rfl, ?_⟩ | (refine ⟨?cc, ?_⟩; (case cc => walk_at "cc"))))

/-- the sign's bit -/
def bit (l a : Int) : Int := l / 2 ^ a.toNat % 2
theorem bitN (N a : Nat) : bit (N : Int) (a : Int) = if N.testBit a = true then 1 else 0 := by
  unfold bit
  rw [Int.toNat_natCast, Nat.testBit_eq_decide_div_mod_eq]
  have e : ((N : Int) / 2 ^ a % 2) = ((N / 2 ^ a % 2 : Nat) : Int) := by
    rw [Int.natCast_emod, Int.natCast_ediv, Int.natCast_pow]
    rfl
  rw [e]
  by_cases z : N / 2 ^ a % 2 = 1
  · rw [z, decide_eq_true rfl]; rfl
  · rw [decide_eq_false z]
    have : N / 2 ^ a % 2 = 0 := by omega
    rw [this]
    rfl
/-- a web as it lies -/
structure WebAt (PL PS WC : Addr) (H : Hp) (p : Addr) (es : En) (ks : Kn) : Prop where
  w : ∃ dx fs q1 xs, H p = some (.ins WC dx fs) ∧ fs.lookup ("ties" : Str) = some (.ref q1) ∧ H q1 = some (.lst xs) ∧ TiesK PL PS H xs es ks
  kl : ks.length = es.length
  few : es.length ≤ 31
theorem WebAt.mono {PL PS WC : Addr} {H H' : Hp} {p : Addr} {es : En} {ks : Kn} (h : WebAt PL PS WC H p es ks) (s : Same H H') : WebAt PL PS WC H' p es ks := by
  obtain ⟨⟨dx, fs, q1, xs, a, b, c, d⟩, k, f⟩ := h
  exact ⟨⟨dx, fs, q1, xs, s _ _ a, b, s _ _ c, d.mono s⟩, k, f⟩
theorem and1 (x : Int) : Builtin.bitAnd x 1 = x % 2 := PySem.W.kbt_mask x 1
def spWithin (K : PySem.W.Frag) : Sp := fun vs H Q _ => ∃ (p C dx : Addr) (a b s l : Int), vs = [.ref p, .int l] ∧ H p = some (.ins C dx (tf a b s)) ∧ CT K C ∧ 0 ≤ a ∧ 0 ≤ b ∧ Q (.int (bit l a + bit l b)) H
/-! what stands at the front -/
def atF (N x : Nat) (e : Nat × Nat) : Bool := (e.1 == x && !N.testBit e.2) || (e.2 == x && !N.testBit e.1)
def Front (es : En) (N M : Nat) : Prop := ∀ x, M.testBit x = (N.testBit x && es.any (atF N x))
theorem Front.z (N : Nat) : Front [] N 0 := fun x => by rw [Nat.zero_testBit, List.any_nil, Bool.and_false]
theorem two_bit (a b x : Nat) : (2 ^ a ||| 2 ^ b).testBit x = (a == x || b == x) := by
  rw [Nat.testBit_or, Nat.testBit_two_pow, Nat.testBit_two_pow]
  cases h : a == x <;> cases h' : b == x <;> simp_all
theorem Front.put {es : En} {N M : Nat} {e : Nat × Nat} (h : Front es N M) (one : N.testBit e.1 ≠ N.testBit e.2) : Front (es ++ [e]) N (M ||| (N &&& (2 ^ e.1 ||| 2 ^ e.2))) := fun x => by
  rw [Nat.testBit_or, h x, Nat.testBit_and, two_bit, List.any_append, List.any_cons, List.any_nil, Bool.or_false]
  unfold atF
  by_cases h1 : e.1 = x
  · by_cases h2 : e.2 = x
    · rw [h1, h2] at one
      exact absurd rfl one
    · rw [h1] at one
      have e1 : (e.1 == x) = true := by simpa using h1
      have e2 : (e.2 == x) = false := by simpa using h2
      rw [e1, e2]
      cases z : N.testBit x
      · simp
      · rw [z] at one
        have : N.testBit e.2 = false := by cases y : N.testBit e.2 with | false => rfl | true => rw [y] at one; exact absurd rfl one
        rw [this]
        simp
  · have e1 : (e.1 == x) = false := by simpa using h1
    by_cases h2 : e.2 = x
    · rw [h2] at one
      have e2 : (e.2 == x) = true := by simpa using h2
      rw [e1, e2]
      cases z : N.testBit x
      · simp
      · rw [z] at one
        have : N.testBit e.1 = false := by cases y : N.testBit e.1 with | false => rfl | true => rw [y] at one; exact absurd rfl one
        rw [this]
        simp
    · have e2 : (e.2 == x) = false := by simpa using h2
      rw [e1, e2]
      simp
theorem Front.skip {es : En} {N M : Nat} {e : Nat × Nat} (h : Front es N M) (one : N.testBit e.1 = N.testBit e.2) : Front (es ++ [e]) N M := fun x => by
  rw [h x, List.any_append, List.any_cons, List.any_nil, Bool.or_false]
  unfold atF
  cases z : N.testBit x
  · simp
  · by_cases h1 : e.1 = x
    · rw [h1, z] at one
      have : (e.2 == x && !N.testBit e.1) = false := by rw [h1, z]; simp
      rw [this, ← one]
      simp
    · have e1 : (e.1 == x) = false := by simpa using h1
      by_cases h2 : e.2 = x
      · rw [h2, z] at one
        rw [e1, one]
        simp
      · have e2 : (e.2 == x) = false := by simpa using h2
        rw [e1, e2]
        simp
theorem Front.one {es : En} {N M M' : Nat} (h : Front es N M) (h' : Front es N M') : M = M' := Nat.eq_of_testBit_eq fun x => by rw [h x, h' x]
def spFront (PL PS WC : Addr) : Sp := fun vs H Q _ => ∃ (p : Addr) (N m : Nat) (es : En) (ks : Kn), vs = [.ref p, .int (N : Int)] ∧ WebAt PL PS WC H p es ks ∧ m ≤ 40 ∧ (∀ e ∈ es, e.1 < m ∧ e.2 < m) ∧ ∀ M : Nat, Front es N M → Q (.int (M : Int)) H
section
variable {P : Program} {w : World} {K : PySem.W.Frag} {mg : Str → Option Value} {base : Heap}
theorem sc_ends_within : FnScope ["tie", "patch"] ["tie", "patch"] (defScope s_ends_within) := ⟨rfl, rfl, rfl, by decide +kernel, rfl, by decide +kernel, by decide +kernel⟩
theorem ok_within {f : Addr} {fd : FuncData} (F : Fun K "ends_within" "ends_within" s_ends_within f fd) : FnOk P w K mg base CX0 1 f fd ["tie", "patch"] (spWithin K) := by
  refine F.ok sc_ends_within (fun vs H Q E h => ?_) (fun cdv A outer s H vs Q E hr h => ?_)
  · obtain ⟨p, C, dx, a, b, s, l, rfl, _⟩ := h
    rfl
  obtain ⟨p, C, dx, a, b, st, l, rfl, hp, T, ha, hb, kk⟩ := h
  refine ⟨_, (pss_one (ps_ret (pe_op op_add (pe_op op_and (pe_op op_shr (pv 1) (pe_fld (pv 0) rfl)) pe_int) (pe_op op_and (pe_op op_shr (pv 1) (pe_fld (pv 0) rfl)) pe_int)))), ?_⟩
  refine ⟨_, rfl, _, rfl, p, C, dx, _, _, rfl, hp, T.cl, T.n1, tf_one _ _ _, _, _, rfl, rfl, ha, _, _, rfl, rfl, _, rfl, _, rfl, p, C, dx, _, _, rfl, hp, T.cl, T.n2, tf_two _ _ _, _, _, rfl, rfl, hb, _, _, rfl, rfl, _, _, rfl, rfl, ?_⟩
  show Q (V.int (Builtin.bitAnd (l / 2 ^ a.toNat) 1 + Builtin.bitAnd (l / 2 ^ b.toNat) 1)) H
  rw [and1, and1]
  exact kk
theorem sc_law_whole : FnScope ["found"] ["found"] (defScope s_law_whole) := ⟨rfl, rfl, rfl, by decide +kernel, rfl, by decide +kernel, by decide +kernel⟩
theorem ok_whole {f : Addr} {fd : FuncData} (F : Fun K "_law_whole" "_law_whole" s_law_whole f fd) (T : Txt mg) : FnOk P w K mg base CX0 1 f fd ["found"] spNum := by
  refine F.ok sc_law_whole (fun vs H Q E h => ?_) (fun cdv A outer s H vs Q E hr h => ?_)
  · obtain ⟨i, rfl, _⟩ := h
    rfl
  obtain ⟨i, rfl, k⟩ := h
  refine ⟨_, (pss_one (ps_ret (pe_and (pe_callB call_isi (by rfl) T.n_isinstance bt_isinstance (pa_cons (pv 0) (pa_cons (pe_bltn (v := .ty "int") rfl T.n_int bt_int rfl) pa_nil))) (pe_one (pe_not (pe_callB call_isi (by rfl) T.n_isinstance bt_isinstance (pa_cons (pv 0) (pa_cons (pe_bltn (v := .ty "bool") rfl T.n_bool bt_bool rfl) pa_nil)))))))), ?_⟩
  refine ⟨_, rfl, _, _, _, _, _, rfl, TyOf.int i, Or.inl ⟨_, rfl, rfl⟩, kit_ii K, _, rfl, iteT ?_⟩
  exact ⟨_, rfl, _, _, _, _, _, rfl, TyOf.int i, Or.inl ⟨_, rfl, rfl⟩, kit_ib K, _, rfl, k⟩
theorem sc_front_of : FnScope ["web", "behind", "front", "tie"] ["web", "behind"] (defScope s_front_of) := ⟨rfl, rfl, rfl, by decide +kernel, rfl, by decide +kernel, by decide +kernel⟩
theorem ok_front {f fw PL PS WC : Addr} {fd fdw : FuncData} (F : Fun K "front_of" "front_of" s_front_of f fd) (cw : CW K WC) (TL : CT K PL) (TS : CT K PS) (G_ends_within : Cal P w K mg base 1 "ends_within" ["tie", "patch"] (spWithin K) fw fdw) : FnOk P w K mg base CX0 2 f fd ["web", "behind"] (spFront PL PS WC) := by
  refine F.ok sc_front_of (fun vs H Q E h => ?_) (fun cdv A outer s H vs Q E hr h => ?_)
  · obtain ⟨p, N, m, es, ks, rfl, _⟩ := h
    rfl
  obtain ⟨p, N, m, es, ks, rfl, ⟨⟨dx, fs, q1, xs, hp, hlk, hq1, tk⟩, kl, few⟩, m40, hbd, kk⟩ := h
  have hxl : xs.length = es.length := tk.1
  have ct : ∀ b, CT K (cls PL PS b) := fun b => by
    unfold cls
    split
    · exact TS
    · exact TL
  refine ⟨_, (pss_cons (ps_set (i := 2) sc_front_of.nd rfl (Or.inl rfl) pe_int)
      (pss_cons (ps_for PassesOwn.never rfl (pi_list (pe_fld (pv 0) rfl)) (pg_name (i := 3) sc_front_of.nd rfl (Or.inl rfl)) (pss_one (ps_if (pt_cmpR op_eq (pe_call G_ends_within.ok (hr.mono (by decide)) rfl G_ends_within.mg G_ends_within.kp G_ends_within.bn .nil pass0 (pa_cons (pv 3) (pa_cons (pv 1) pa_nil))) pe_int (nomark _)) (pss_one (ps_set (i := 2) sc_front_of.nd rfl (Or.inl rfl) (pe_op op_or (pv 2) (pe_op op_and (pv 1) (pe_op op_or (pe_op op_shl pe_int (pe_fld (pv 3) rfl)) (pe_op op_shl pe_int (pe_fld (pv 3) rfl))))))) pss_nil)))
      (pss_one (ps_ret (pv 2))))), ?_⟩
  refine ⟨_, rfl, p, WC, dx, fs, _, rfl, hp, cw.cl, cw.n2, hlk, q1, rfl, ⟨_, SqL.of hq1⟩, for_list (K := K) (xs := xs) (fun i σ H2 => ∃ v3 M, σ = [some (.ref p), some (.int (N : Int)), some (.int ((M : Nat) : Int)), v3] ∧ H2 = H ∧ Front (es.take i) N M) ⟨_, 0, rfl, rfl, Front.z N⟩ (fun i σ H2 _ ⟨_, _, _, z, _⟩ => by rw [z]; exact SqL.of hq1) ?_ ?_⟩
  · rintro i x σ H2 hx ⟨v3, M, rfl, rfl, fr⟩
    have hi : i < es.length := by rw [← tk.1]; exact (List.getElem?_eq_some_iff.mp hx).1
    obtain ⟨e, he⟩ : ∃ e, es[i]? = some e := ⟨_, List.getElem?_eq_getElem hi⟩
    obtain ⟨k, hk⟩ : ∃ k, ks[i]? = some k := ⟨_, List.getElem?_eq_getElem (by omega)⟩
    obtain ⟨p', dx', x1, x2⟩ := tk.2 i e k he hk
    rw [hx] at x1
    cases x1
    obtain ⟨b1, b2⟩ := hbd e (List.mem_of_getElem? he)
    have et : es.take (i + 1) = es.take i ++ [e] := by rw [List.take_add_one, he]; rfl
    have hin : (bit (N : Int) (e.1 : Int) + bit (N : Int) (e.2 : Int) = 1) ↔ N.testBit e.1 ≠ N.testBit e.2 := by
      rw [bitN, bitN]
      cases N.testBit e.1 <;> cases N.testBit e.2 <;> decide
    refine ⟨_, rfl, _, rfl, p', _, dx', _, _, _, _, rfl, x2, ct _, by omega, by omega, rfl, _, rfl, ?_⟩
    refine ite2 (fun c => ?_) (fun c => ?_)
    · have c' := hin.mp (V.int.inj (of_decide_eq_true c))
      refine ⟨_, rfl, _, rfl, _, rfl, p', _, dx', _, _, rfl, x2, (ct _).cl, (ct _).n1, tf_one _ _ _, _, _, rfl, rfl, ⟨by omega, by omega, by decide⟩, _, rfl, p', _, dx', _, _, rfl, x2, (ct _).cl, (ct _).n2, tf_two _ _ _, _, _, rfl, rfl, ⟨by omega, by omega, by decide⟩, _, _, rfl, rfl, _, _, rfl, rfl, _, _, rfl, rfl, ?_⟩
      refine ⟨some (.ref p'), M ||| (N &&& (2 ^ e.1 ||| 2 ^ e.2)), ?_, rfl, by rw [et]; exact fr.put c'⟩
      have eo : Builtin.bitOr (M : Int) (Builtin.bitAnd (N : Int) (Builtin.bitOr (1 * 2 ^ ((e.1 : Nat) : Int).toNat) (1 * 2 ^ ((e.2 : Nat) : Int).toNat))) = ((M ||| (N &&& (2 ^ e.1 ||| 2 ^ e.2)) : Nat) : Int) := by rw [shlN, shlN, orN, andN, orN]
      show [some (V.ref p), some (V.int (N : Int)), some (V.int (Builtin.bitOr (M : Int) (Builtin.bitAnd (N : Int) (Builtin.bitOr (1 * 2 ^ ((e.1 : Nat) : Int).toNat) (1 * 2 ^ ((e.2 : Nat) : Int).toNat))))), some (V.ref p')] = _
      rw [eo]
    · have c' : N.testBit e.1 = N.testBit e.2 := by
        cases h1 : N.testBit e.1 <;> cases h2 : N.testBit e.2
        · rfl
        · exact absurd (decide_eq_true (congrArg V.int (hin.mpr (by rw [h1, h2]; decide)))) c
        · exact absurd (decide_eq_true (congrArg V.int (hin.mpr (by rw [h1, h2]; decide)))) c
        · rfl
      exact ⟨some (.ref p'), M, rfl, rfl, by rw [et]; exact fr.skip c'⟩
  rintro σ H2 ⟨v3, M, rfl, rfl, fr⟩
  rw [hxl, List.take_length] at fr
  exact ⟨_, rfl, kk M fr⟩
end
end K8


namespace K8
open PySem L2
local macro_rules | `(tactic| walk_at "cc") => `(tactic| first | exact ⟨by decide, by decide⟩ | (show (0 : Int) < _; decide) | (show (0 : Int) < _; omega) | (show (0 : Int) ≤ _; omega) | exact ⟨by decide, by decide, by decide⟩ | exact ⟨by omega, by omega, by decide⟩ | exact Or.inl ⟨by decide, by decide⟩ | exact Or.inl ⟨by omega, by omega⟩)
local macro_rules | `(tactic| walk_at "rd") => `(tactic| repeat (first | refine ⟨_, rfl, ?_⟩ | refine ⟨_, _, rfl, rfl, ?_⟩ | refine ⟨rfl, ?_⟩ | (refine ⟨?cc, ?_⟩; (case cc => walk_at "cc"))))

def rI (m : Nat) : List Int := (List.range m).map fun (i : Nat) => ((i : Nat) : Int)
theorem rI_V (m : Nat) : ((List.range m).map fun (i : Nat) => V.int ((i : Nat) : Int)) = (rI m).map V.int := by unfold rI; rw [List.map_map]; rfl
theorem rI_pw (m : Nat) : (rI m).Pairwise (· ≤ ·) := by
  unfold rI
  refine List.Pairwise.map _ (fun a b h => ?_) List.pairwise_lt_range
  omega
theorem ints_rd {K : PySem.W.Frag} {H : Hp} {a : Addr} {ns : List Int} (h : SqL K H a (ns.map V.int)) : RdD K H (.ref a) (.list (ns.map PyData.int)) := by
  refine RdD.lst h (by rw [List.length_map, List.length_map]) fun i x d e1 e2 => ?_
  rw [List.getElem?_map] at e1 e2
  cases q : ns[i]? with
  | none => rw [q] at e1; cases e1
  | some z => rw [q] at e1 e2; cases e1; cases e2; exact .int _
structure ErrC (K : PySem.W.Frag) (mg : Str → Option Value) (x : Str) (C : Addr) : Prop where
  mg : mg x = some (.ref C)
  ec : ExC K C
/-- the order that is told -/
def Told (m : Nat) (v : V) (H : Hp) (ns : List Int) : Prop := (v = .non ∧ ns = rI m) ∨ ∃ o, v = .ref o ∧ H o = some (.lst (ns.map V.int)) ∧ ns.length ≤ 50
theorem Told.mono {m : Nat} {v : V} {H H' : Hp} {ns : List Int} (h : Told m v H ns) (s : Same H H') : Told m v H' ns := by
  rcases h with h | ⟨o, a, b, c⟩
  · exact .inl h
  · exact .inr ⟨o, a, s _ _ b, c⟩
def spOrdX (BO WC : Addr) : Sp := fun vs H Q E => ∃ (p dx : Addr) (fs : List (Str × V)) (m : Nat) (v : V) (ns : List Int), vs = [.ref p, v] ∧ H p = some (.ins WC dx fs) ∧ fs.lookup ("many" : Str) = some (.int (m : Int)) ∧ m ≤ 40 ∧ Told m v H ns ∧
  (¬ ns.Perm (rI m) → ∀ H', Same H H' → E (.ref BO) none H') ∧ (ns.Perm (rI m) → ∀ q H', Same H H' → H q = none → H' q = some (.lst (ns.map V.int)) → Q (.ref q) H')
/-- the web, with how many places it has -/
def WebM (PL PS WC : Addr) (H : Hp) (p : Addr) (m : Nat) (es : En) (ks : Kn) : Prop := WebAt PL PS WC H p es ks ∧ ∃ dx fs, H p = some (.ins WC dx fs) ∧ fs.lookup ("many" : Str) = some (.int (m : Int))
theorem WebM.mono {PL PS WC p : Addr} {H H' : Hp} {m : Nat} {es : En} {ks : Kn} (h : WebM PL PS WC H p m es ks) (s : Same H H') : WebM PL PS WC H' p m es ks := by
  obtain ⟨a, dx, fs, b, c⟩ := h
  exact ⟨a.mono s, dx, fs, s _ _ b, c⟩
/-- the places of a row, as a mask -/
def mk (l : List Nat) : Nat := l.foldl (fun a x => a ||| 2 ^ x) 0
theorem mk_snoc (l : List Nat) (x : Nat) : mk (l ++ [x]) = mk l ||| 2 ^ x := by unfold mk; rw [List.foldl_append]; rfl
def Fronts (es : En) (od ms : List Nat) : Prop := ms.length = od.length + 1 ∧ ∀ k M, ms[k]? = some M → Front es (mk (od.take k)) M
theorem front0 (es : En) : Front es 0 0 := fun x => by rw [Nat.zero_testBit]; rfl
theorem Fronts.snoc {es : En} {od ms : List Nat} {x M : Nat} (h : Fronts es od ms) (hM : Front es (mk (od ++ [x])) M) : Fronts es (od ++ [x]) (ms ++ [M]) := by
  refine ⟨by rw [List.length_append, List.length_append, h.1]; rfl, fun k N e => ?_⟩
  by_cases hk : k < ms.length
  · rw [List.getElem?_append_left hk] at e
    have hk2 : k ≤ od.length := by have := h.1; omega
    rw [List.take_append_of_le_length hk2]
    exact h.2 k N e
  · rw [List.getElem?_append_right (by omega)] at e
    have hk2 : k = ms.length := by
      have := (List.getElem?_eq_some_iff.mp e).1
      rw [List.length_singleton] at this
      omega
    subst hk2
    rw [Nat.sub_self] at e
    cases e
    rw [List.take_of_length_le (by rw [List.length_append, List.length_singleton, h.1]; exact Nat.le_refl _)]
    exact hM
theorem perm_nat {ns : List Int} {m : Nat} (h : ns.Perm (rI m)) : ∃ od : List Nat, ns = cI od ∧ ∀ x ∈ od, x < m := by
  have hb : ∀ x ∈ ns, 0 ≤ x ∧ x < (m : Int) := fun x hx => by
    have := h.mem_iff.mp hx
    unfold rI at this
    obtain ⟨i, hi, rfl⟩ := List.mem_map.mp this
    have := List.mem_range.mp hi
    omega
  refine ⟨ns.map Int.toNat, ?_, fun x hx => ?_⟩
  · unfold cI
    rw [List.map_map]
    symm
    refine (List.map_congr_left fun x hx => ?_).trans (List.map_id _)
    have := hb x hx
    show ((x.toNat : Nat) : Int) = x
    omega
  · obtain ⟨y, hy, rfl⟩ := List.mem_map.mp hx
    have := hb y hy
    omega
def spFrX (BO PL PS WC : Addr) : Sp := fun vs H Q E => ∃ (p : Addr) (m : Nat) (es : En) (ks : Kn) (v : V) (ns : List Int), vs = [.ref p, v] ∧ WebM PL PS WC H p m es ks ∧ (∀ e ∈ es, e.1 < m ∧ e.2 < m) ∧ m ≤ 40 ∧ Told m v H ns ∧
  (¬ ns.Perm (rI m) → ∀ H', Same H H' → E (.ref BO) none H') ∧ (∀ od : List Nat, ns = cI od → ns.Perm (rI m) → ∀ q ms H', Same H H' → H' q = some (.lst (ms.map iV)) → Fronts es od ms → Q (.ref q) H')
section
variable {P : Program} {w : World} {K : PySem.W.Frag} {mg : Str → Option Value} {base : Heap}
theorem sc_order_of : FnScope ["web", "order", "places"] ["web", "order"] (defScope s_order_of) := ⟨rfl, rfl, rfl, by decide +kernel, rfl, by decide +kernel, by decide +kernel⟩
theorem ok_ord {f BO WC : Addr} {fd : FuncData} (F : Fun K "order_of" "order_of" s_order_of f fd) (T : Txt mg) (cw : CW K WC) (X_BadOrder : ErrC K mg "BadOrder" BO) : FnOk P w K mg base (CXr P w) 1 f fd ["web", "order"] (spOrdX BO WC) := by
  refine F.okX sc_order_of (fun vs H Q E h => ?_) (fun cdv A outer s H vs Q E hr h => ?_)
  · obtain ⟨p, dx, fs, m, v, ns, rfl, _⟩ := h
    rfl
  obtain ⟨p, dx, fs, m, v, ns, rfl, hp, lk, m40, td, kb, k⟩ := h
  have hu64 := hr.units
  refine ⟨_, (pss_cons (ps_set (i := 2) sc_order_of.nd rfl (Or.inl rfl) (pe_listrange rfl rfl T.n_list rfl T.n_range (pe_fld (pv 0) rfl)))
      (pss_cons (ps_if (pt_cmpR op_isN (pv 1) pe_non (nomark _)) (pss_one (ps_ret (pv 2))) pss_nil)
      (pss_cons (ps_if (pt_cmpR (op_neG hu64) (pe_callB call_sorted (by rfl) T.n_sorted bt_sorted (pa_cons (pv 1) pa_nil)) (pv 2) (nomark _)) (pss_one (ps_raiseX X_BadOrder.ec X_BadOrder.mg rfl wsh_cx rfl rfl (pa_cons pe_str pa_nil))) pss_nil)
      (pss_one (ps_ret (pe_callTy call_list_of (by rfl) T.n_list bt_list (pa_cons (pv 1) pa_nil))))))), ?_⟩
  refine ⟨_, rfl, p, WC, dx, fs, _, rfl, hp, cw.cl, cw.n1, lk, m, rfl, by omega, fun q hq => ?_⟩
  rw [rI_V]
  have s1 := same_new hq (.lst ((rI m).map V.int))
  rcases td with ⟨rfl, rfl⟩ | ⟨o, rfl, ho, hl⟩
  · refine ⟨_, rfl, rfl, _, rfl, iteT ?_⟩
    exact ⟨_, rfl, k (List.Perm.refl _) q _ s1 hq upd_same⟩
  refine ⟨_, rfl, rfl, _, rfl, iteF ?_⟩
  refine ⟨_, rfl, o, ns, rfl, SqL.of (s1 _ _ ho), by omega, fun l out hl' hp' hs => ?_⟩
  have s2 := same_new hl' (.lst (out.map V.int))
  have s12 := s1.trans s2
  refine ⟨_, rfl, _, _, ints_rd (SqL.of upd_same), ints_rd (SqL.of (s2 _ _ upd_same)), ints_shaped _, ints_shaped _, _, rfl, ?_⟩
  rw [eqv_ints]
  refine ite2 (fun c => ?_) (fun c => ?_)
  · have c' : out ≠ rI m := fun z => by rw [decide_eq_true z] at c; cases c
    refine ⟨(by decide : (1 : Nat) ≤ sizeLine), kb (fun z => c' (sorted_one (hp'.trans z) hs (rI_pw m))) _ s12⟩
  · have c' : out = rI m := by
      by_cases z : out = rI m
      · exact z
      · exact absurd (by rw [decide_eq_false z]; rfl) c
    refine ⟨_, rfl, o, _, rfl, .inl (SqL.of (s12 _ _ ho)), fun r hr' => ?_⟩
    exact k (c' ▸ hp'.symm) r _ (s12.trans (same_new hr' _)) (by
      cases y : H r with
      | none => rfl
      | some u => rw [s12 _ _ y] at hr'; cases hr') upd_same
theorem sc_fronts : FnScope ["web", "order", "found", "behind", "place"] ["web", "order"] (defScope s_fronts) := ⟨rfl, rfl, rfl, by decide +kernel, rfl, by decide +kernel, by decide +kernel⟩
theorem ok_fronts {f fo ff BO PL PS WC : Addr} {fd fdo fdf : FuncData} (F : FunD K "fronts" "fronts" s_fronts f fd #[.none]) (G_order_of : CalX P w K mg base 1 "order_of" ["web", "order"] (spOrdX BO WC) fo fdo) (G_front_of : Cal P w K mg base 2 "front_of" ["web", "behind"] (spFront PL PS WC) ff fdf) : FnOk P w K mg base (CXr P w) 3 f fd ["web", "order"] (spFrX BO PL PS WC) := by
  refine F.okX sc_fronts (fun vs H Q E h => ?_) (fun cdv A outer s H vs Q E hr h => ?_)
  · obtain ⟨p, m, es, ks, v, ns, rfl, _⟩ := h
    rfl
  obtain ⟨p, m, es, ks, v, ns, rfl, wm, hbd, m40, td, kb, kk⟩ := h
  refine ⟨_, (pss_cons (ps_set (i := 2) sc_fronts.nd rfl (Or.inl rfl) (pe_lst (pa_cons pe_int pa_nil)))
      (pss_cons (ps_set (i := 3) sc_fronts.nd rfl (Or.inl rfl) pe_int)
      (pss_cons (ps_forX rfl (pi_list (pe_callX G_order_of.ok (hr.mono (by decide)) rfl G_order_of.mg G_order_of.kp G_order_of.bn .nil wsh_cx rfl (pa_cons (pv 0) (pa_cons (pv 1) pa_nil)))) (pg_name (i := 4) sc_fronts.nd rfl (Or.inl rfl)) (pss_cons (ps_set (i := 3) sc_fronts.nd rfl (Or.inl rfl) (pe_op op_or (pv 3) (pe_op op_shl pe_int (pv 4))))
      (pss_one (ps_expr (pe_bm PySem.F.plainAttrs_list PySem.F.slot_list_append PySem.F.type_list_append mt_append (pv 2) (pa_cons (pe_call G_front_of.ok (hr.mono (by decide)) rfl G_front_of.mg G_front_of.kp G_front_of.bn .nil pass0 (pa_cons (pv 0) (pa_cons (pv 3) pa_nil))) pa_nil))))))
      (pss_one (ps_ret (pv 2)))))), ?_⟩
  refine ⟨(by show 1 ≤ sizeLine; decide), fun qf hqf => ?_⟩
  have s1 := same_new hqf (.lst [.int 0])
  obtain ⟨dx, fs, hp, lk⟩ := wm.2
  refine ⟨_, rfl, _, rfl, p, dx, fs, m, v, ns, rfl, s1 _ _ hp, lk, m40, td.mono s1, fun z H' s' => kb z _ (s1.trans s'), fun pm q H2 s2 nq hq => ?_⟩
  obtain ⟨od, rfl, ob⟩ := perm_nat pm
  have nqf : q ≠ qf := fun z => by rw [z, upd_same] at nq; cases nq
  have ol : (cI od).length = od.length := by unfold cI; rw [List.length_map]
  have s12 := s1.trans s2
  have ol40 : od.length ≤ 40 := by
    have := pm.length_eq
    unfold rI at this
    rw [ol, List.length_map, List.length_range] at this
    omega
  refine ⟨q, rfl, ⟨_, SqL.of hq⟩, for_list (K := K) (xs := (cI od).map V.int) (fun i σ H3 => ∃ v4 ms, σ = [some (.ref p), some v, some (.ref qf), some (.int ((mk (od.take i) : Nat) : Int)), v4] ∧ Same H H3 ∧ H3 q = some (.lst ((cI od).map V.int)) ∧ H3 qf = some (.lst (ms.map iV)) ∧ Fronts es (od.take i) ms) ⟨_, [0], rfl, s12, hq, s2 _ _ upd_same, rfl, fun k M e => ?_⟩ (fun i σ H3 _ ⟨_, _, _, _, z, _⟩ => SqL.of z) ?_ ?_⟩
  · match k with
    | 0 => cases e; exact front0 es
    | k + 1 => cases e
  · rintro i x σ H3 hx ⟨v4, ms, rfl, s3, hq3, hf3, fr⟩
    rw [List.getElem?_map] at hx
    obtain ⟨y, hy, rfl⟩ := Option.map_eq_some_iff.mp hx
    unfold cI at hy
    rw [List.getElem?_map] at hy
    obtain ⟨pl, hpl, rfl⟩ := Option.map_eq_some_iff.mp hy
    have hb := ob pl (List.mem_of_getElem? hpl)
    have et : od.take (i + 1) = od.take i ++ [pl] := by rw [List.take_add_one, hpl]; rfl
    have ml : ms.length ≤ 41 := by
      have := fr.1
      rw [List.length_take] at this
      omega
    refine ⟨_, rfl, _, rfl, _, _, rfl, rfl, ⟨by omega, by omega, by decide⟩, _, _, rfl, rfl, ?_⟩
    have eo : Builtin.bitOr ((mk (od.take i) : Nat) : Int) (1 * 2 ^ ((pl : Nat) : Int).toNat) = ((mk (od.take (i + 1)) : Nat) : Int) := by rw [et, mk_snoc, shlN, orN]
    refine ⟨_, rfl, .inl ⟨rfl, _, SqL.of hf3⟩, _, rfl, _, rfl, p, mk (od.take (i + 1)), m, es, ks, congrArg (fun z => [V.ref p, V.int z]) eo, (wm.1).mono s3, m40, hbd, fun M hM => ?_⟩
    refine ⟨qf, _, _, rfl, rfl, hf3, small1000 (by rw [List.length_map]; omega), ?_⟩
    refine ⟨some (.int (pl : Int)), ms ++ [M], ?_, same_upd s3 hqf _, by rw [upd_ne nqf]; exact hq3, by rw [upd_same, List.map_append]; rfl, by rw [et] at hM ⊢; exact fr.snoc hM⟩
    show [some (V.ref p), some v, some (V.ref qf), some (V.int (Builtin.bitOr ((mk (od.take i) : Nat) : Int) (1 * 2 ^ ((pl : Nat) : Int).toNat))), some (V.int (pl : Int))] = _
    rw [eo]
  · rintro σ H3 ⟨v4, ms, rfl, s3, hq3, hf3, fr⟩
    rw [List.length_map, ol, List.take_length] at fr
    exact ⟨_, rfl, kk od rfl pm qf ms H3 s3 hf3 fr⟩
end
end K8


namespace K8
open PySem L2
local macro_rules | `(tactic| walk_at "cc") => `(tactic| first | exact ⟨by decide, by decide⟩ | (show (0 : Int) < _; decide) | (show (0 : Int) < _; omega) | (show (0 : Int) ≤ _; omega) | exact ⟨by decide, by decide, by decide⟩ | exact ⟨by omega, by omega, by decide⟩ | exact Or.inl ⟨by decide, by decide⟩ | exact Or.inl ⟨by omega, by omega⟩)
local macro_rules | `(tactic| walk_at "rd") => `(tactic| repeat (first | refine ⟨_, rfl, ?_⟩ | refine ⟨_, _, rfl, rfl, ?_⟩ | refine ⟨rfl, ?_⟩ | (refine ⟨?cc, ?_⟩; (case cc => walk_at "cc"))))

theorem wayF {A B : Prop} {a b : Int} (h : a ≠ b) (k : B) : if decide (V.int a = V.int b) = true then A else B := by
  rw [decide_eq_false (fun z => h (V.int.inj z)), if_neg (by decide)]
  exact k
theorem wayT {A B : Prop} {a b : Int} (h : a = b) (k : A) : if decide (V.int a = V.int b) = true then A else B := by
  rw [decide_eq_true (congrArg V.int h), if_pos rfl]
  exact k
theorem rI_len (m : Nat) : (rI m).length = m := by unfold rI; rw [List.length_map, List.length_range]
theorem rI_nd (m : Nat) : (rI m).Nodup := by
  unfold rI
  refine List.Pairwise.map _ (fun a b h => ?_) List.nodup_range
  exact fun z => h (by omega)
theorem not_len {ns : List Int} {m : Nat} (h : ns.length ≠ m) : ¬ ns.Perm (rI m) := fun z => h (by rw [z.length_eq, rI_len])
theorem not_neg {ns : List Int} {m : Nat} {x : Int} (hx : x ∈ ns) (h : x < 0) : ¬ ns.Perm (rI m) := fun z => by
  have := z.mem_iff.mp hx
  unfold rI at this
  obtain ⟨i, _, rfl⟩ := List.mem_map.mp this
  omega
theorem not_two {ns : List Int} {m i j : Nat} {x : Int} (hi : ns[i]? = some x) (hj : ns[j]? = some x) (h : i ≠ j) : ¬ ns.Perm (rI m) := fun z => by
  have nd : ns.Nodup := (z.nodup_iff).mpr (rI_nd m)
  obtain ⟨h1, e1⟩ := List.getElem?_eq_some_iff.mp hi
  obtain ⟨h2, e2⟩ := List.getElem?_eq_some_iff.mp hj
  rcases Nat.lt_or_gt_of_ne h with z | z
  · exact (List.pairwise_iff_getElem.mp nd i j h1 h2 z) (e1.trans e2.symm)
  · exact (List.pairwise_iff_getElem.mp nd j i h2 h1 z) (e2.trans e1.symm)
theorem seq_nat {k n : Nat} (h : k < n) : seqIndex? (k : Int) n = some k := (ixN_seq (ixN_nat h)).1
def spSpoil : Sp := fun vs H Q _ => ∃ (o : Addr) (ns : List Int) (m way at' : Nat), vs = [.ref o, .int (way : Int), .int (at' : Int)] ∧ H o = some (.lst (ns.map V.int)) ∧ ns.Perm (rI m) ∧ 2 ≤ m ∧ m ≤ 40 ∧ at' < m ∧ way < 6 ∧ ∀ (q : Addr) (ns' : List Int) (H' : Hp), Same H H' → H' q = some (.lst (ns'.map V.int)) → ns'.length ≤ 50 → ¬ ns'.Perm (rI m) → Q (.ref q) H'
section
variable {P : Program} {w : World} {K : PySem.W.Frag} {mg : Str → Option Value} {base : Heap}
theorem sc_law_spoiled : FnScope ["order", "way", "at", "bad"] ["order", "way", "at"] (defScope s_law_spoiled) := ⟨rfl, rfl, rfl, by decide +kernel, rfl, by decide +kernel, by decide +kernel⟩
theorem ok_spoil {f : Addr} {fd : FuncData} (F : Fun K "_law_spoiled" "_law_spoiled" s_law_spoiled f fd) (T : Txt mg) : FnOk P w K mg base CX0 1 f fd ["order", "way", "at"] spSpoil := by
  refine F.ok sc_law_spoiled (fun vs H Q E h => ?_) (fun cdv A outer s H vs Q E hr h => ?_)
  · obtain ⟨o, ns, m, way, at', rfl, _⟩ := h
    rfl
  obtain ⟨o, ns, m, way, at', rfl, ho, pm, m2, m40, ha, hw, kk⟩ := h
  have nl : ns.length = m := by rw [pm.length_eq, rI_len]
  obtain ⟨x, hx⟩ : ∃ x, ns[at']? = some x := ⟨_, List.getElem?_eq_getElem (by omega)⟩
  have x0 : 0 ≤ x := by
    have := pm.mem_iff.mp (List.mem_of_getElem? hx)
    unfold rI at this
    obtain ⟨i, _, rfl⟩ := List.mem_map.mp this
    omega
  have hxV : (ns.map V.int)[at']? = some (.int x) := by rw [List.getElem?_map, hx]; rfl
  have hlV : (ns.map V.int).length = ns.length := List.length_map _
  refine ⟨_, (pss_cons (ps_set (i := 3) sc_law_spoiled.nd rfl (Or.inl rfl) (pe_callTy call_list_of (by rfl) T.n_list bt_list (pa_cons (pv 0) pa_nil)))
      (pss_cons (ps_if (pt_cmpR op_eq (pv 1) pe_int (nomark _)) (pss_one (ps_asg (pe_ix ix_list (pv 3) (pe_op op_mod (pe_op op_add (pv 2) pe_int) (pe_callB call_len_seq (by rfl) T.n_len bt_len (pa_cons (pv 3) pa_nil))) (fun _ _ => rfl)) (pg_sub (pv 3) (pv 2) set_list))) pss_nil)
      (pss_cons (ps_if (pt_cmpR op_eq (pv 1) pe_int (nomark _)) (pss_one (ps_expr (pe_bm PySem.F.plainAttrs_list PySem.F.slot_list_insert PySem.F.type_list_insert mt_insert (pv 3) (pa_cons (pv 2) (pa_cons (pe_callB call_len_seq (by rfl) T.n_len bt_len (pa_cons (pv 0) pa_nil)) pa_nil))))) pss_nil)
      (pss_cons (ps_if (pt_cmpR op_eq (pv 1) pe_int (nomark _)) (pss_one (ps_expr (pe_bm PySem.F.plainAttrs_list PySem.F.slot_list_pop PySem.F.type_list_pop mt_popAt (pv 3) (pa_cons (pv 2) pa_nil)))) pss_nil)
      (pss_cons (ps_if (pt_cmpR op_eq (pv 1) pe_int (nomark _)) (pss_one (ps_asg (pe_op op_sub (pe_un un_neg pe_int) (pe_ix ix_list (pv 3) (pv 2) (fun _ _ => rfl))) (pg_sub (pv 3) (pv 2) set_list))) pss_nil)
      (pss_cons (ps_if (pt_cmpR op_eq (pv 1) pe_int (nomark _)) (pss_one (ps_set (i := 3) sc_law_spoiled.nd rfl (Or.inl rfl) (pe_lst pa_nil))) pss_nil)
      (pss_cons (ps_if (pt_cmpR op_eq (pv 1) pe_int (nomark _)) (pss_one (ps_expr (pe_bm PySem.F.plainAttrs_list PySem.F.slot_list_append PySem.F.type_list_append mt_append (pv 3) (pa_cons (pe_ix ix_list (pv 3) (pv 2) (fun _ _ => rfl)) pa_nil)))) pss_nil)
      (pss_one (ps_ret (pv 3)))))))))), ?_⟩
  refine ⟨_, rfl, o, _, rfl, .inl (SqL.of ho), fun q hq => ?_⟩
  have s1 := same_new hq (.lst (ns.map V.int))
  have u1 : (upd H q (.lst (ns.map V.int))) q = some (.lst (ns.map V.int)) := upd_same
  have ho1 := s1 _ _ ho
  generalize hH : upd H q (.lst (ns.map V.int)) = H1 at s1 u1 ho1
  have fin : ∀ ns' : List Int, Same H (upd H1 q (.lst (ns'.map V.int))) := fun ns' => same_upd s1 hq _
  match way, hw with
  | 0, _ =>
    have hm : (((at' : Nat) : Int) + 1) % ((ns.map V.int).length : Int) = (((at' + 1) % m : Nat) : Int) := by rw [hlV, nl, Int.natCast_emod, Int.natCast_add]; rfl
    obtain ⟨y, hy⟩ : ∃ y, ns[(at' + 1) % m]? = some y := ⟨_, List.getElem?_eq_getElem (by rw [nl]; exact Nat.mod_lt _ (by omega))⟩
    have hyV : (ns.map V.int)[(at' + 1) % m]? = some (.int y) := by rw [List.getElem?_map, hy]; rfl
    have hne : at' ≠ (at' + 1) % m := by
      by_cases z : at' + 1 = m
      · rw [z, Nat.mod_self]; omega
      · rw [Nat.mod_eq_of_lt (by omega)]; omega
    refine ⟨_, rfl, rfl, _, rfl, wayT rfl ?_⟩
    refine ⟨_, rfl, _, rfl, _, _, rfl, rfl, _, rfl, q, _, rfl, .inl (SqL.of u1), _, _, rfl, rfl, (show (0 : Int) < ((ns.map V.int).length : Int) by omega), q, _, _, _, rfl, rfl, SqL.of u1, (show atI (ns.map V.int) ((((at' : Nat) : Int) + 1) % ((ns.map V.int).length : Int)) = some (V.int y) by rw [hm]; exact atI_nat hyV), ?_⟩
    refine ⟨_, rfl, _, rfl, q, _, _, at', rfl, rfl, u1, ixN_nat (by omega), ?_⟩
    rw [← List.map_set]
    refine ⟨_, rfl, rfl, _, rfl, wayF (by decide) ?_⟩
    refine ⟨_, rfl, rfl, _, rfl, wayF (by decide) ?_⟩
    refine ⟨_, rfl, rfl, _, rfl, wayF (by decide) ?_⟩
    refine ⟨_, rfl, rfl, _, rfl, wayF (by decide) ?_⟩
    refine ⟨_, rfl, rfl, _, rfl, wayF (by decide) ?_⟩
    exact ⟨_, rfl, kk q (ns.set at' y) _ (fin _) upd_same (by rw [List.length_set]; omega) (not_two (i := at') (j := (at' + 1) % m) (x := y) (by rw [List.getElem?_set, if_pos rfl, if_pos (by omega)]) (by rw [List.getElem?_set, if_neg hne]; exact hy) hne)⟩
  | 1, _ =>
    refine ⟨_, rfl, rfl, _, rfl, wayF (by decide) ?_⟩
    refine ⟨_, rfl, rfl, _, rfl, wayT rfl ?_⟩
    refine ⟨_, rfl, .inl ⟨rfl, _, SqL.of u1⟩, _, rfl, _, rfl, o, _, rfl, .inl (SqL.of ho1), q, _, _, _, rfl, rfl, u1, by omega, by omega, small1000 (by omega), ?_⟩
    rw [Int.toNat_natCast, ← List.map_take, ← List.map_drop, ← List.map_cons, ← List.map_append]
    refine ⟨_, rfl, rfl, _, rfl, wayF (by decide) ?_⟩
    refine ⟨_, rfl, rfl, _, rfl, wayF (by decide) ?_⟩
    refine ⟨_, rfl, rfl, _, rfl, wayF (by decide) ?_⟩
    refine ⟨_, rfl, rfl, _, rfl, wayF (by decide) ?_⟩
    exact ⟨_, rfl, kk q _ _ (fin _) upd_same (by simp; omega) (not_len (by simp; omega))⟩
  | 2, _ =>
    refine ⟨_, rfl, rfl, _, rfl, wayF (by decide) ?_⟩
    refine ⟨_, rfl, rfl, _, rfl, wayF (by decide) ?_⟩
    refine ⟨_, rfl, rfl, _, rfl, wayT rfl ?_⟩
    refine ⟨_, rfl, .inl ⟨rfl, _, SqL.of u1⟩, _, rfl, q, _, _, at', _, rfl, rfl, u1, by omega, by omega, seq_nat (by omega), hxV, ?_⟩
    rw [show (ns.map V.int).eraseIdx at' = (ns.eraseIdx at').map V.int by simp [List.eraseIdx_eq_take_drop_succ, List.map_take, List.map_drop]]
    refine ⟨_, rfl, rfl, _, rfl, wayF (by decide) ?_⟩
    refine ⟨_, rfl, rfl, _, rfl, wayF (by decide) ?_⟩
    refine ⟨_, rfl, rfl, _, rfl, wayF (by decide) ?_⟩
    exact ⟨_, rfl, kk q _ _ (fin _) upd_same (by rw [List.length_eraseIdx]; split <;> omega) (not_len (by rw [List.length_eraseIdx]; split <;> omega))⟩
  | 3, _ =>
    refine ⟨_, rfl, rfl, _, rfl, wayF (by decide) ?_⟩
    refine ⟨_, rfl, rfl, _, rfl, wayF (by decide) ?_⟩
    refine ⟨_, rfl, rfl, _, rfl, wayF (by decide) ?_⟩
    refine ⟨_, rfl, rfl, _, rfl, wayT rfl ?_⟩
    refine ⟨_, rfl, _, rfl, _, rfl, q, _, _, _, rfl, rfl, SqL.of u1, atI_nat hxV, _, _, rfl, rfl, ?_⟩
    refine ⟨_, rfl, _, rfl, q, _, _, at', rfl, rfl, u1, ixN_nat (by omega), ?_⟩
    rw [← List.map_set]
    refine ⟨_, rfl, rfl, _, rfl, wayF (by decide) ?_⟩
    refine ⟨_, rfl, rfl, _, rfl, wayF (by decide) ?_⟩
    exact ⟨_, rfl, kk q _ _ (fin _) upd_same (by rw [List.length_set]; omega) (not_neg (x := -1 - x) (List.mem_of_getElem? (i := at') (by rw [List.getElem?_set, if_pos rfl, if_pos (by omega)])) (by omega))⟩
  | 4, _ =>
    refine ⟨_, rfl, rfl, _, rfl, wayF (by decide) ?_⟩
    refine ⟨_, rfl, rfl, _, rfl, wayF (by decide) ?_⟩
    refine ⟨_, rfl, rfl, _, rfl, wayF (by decide) ?_⟩
    refine ⟨_, rfl, rfl, _, rfl, wayF (by decide) ?_⟩
    refine ⟨_, rfl, rfl, _, rfl, wayT rfl ?_⟩
    refine ⟨(by show 0 ≤ sizeLine; decide), fun r hr' => ?_⟩
    refine ⟨_, rfl, rfl, _, rfl, wayF (by decide) ?_⟩
    exact ⟨_, rfl, kk r [] _ (s1.trans (same_new hr' _)) upd_same (by decide) (not_len (by show 0 ≠ m; omega))⟩
  | 5, _ =>
    refine ⟨_, rfl, rfl, _, rfl, wayF (by decide) ?_⟩
    refine ⟨_, rfl, rfl, _, rfl, wayF (by decide) ?_⟩
    refine ⟨_, rfl, rfl, _, rfl, wayF (by decide) ?_⟩
    refine ⟨_, rfl, rfl, _, rfl, wayF (by decide) ?_⟩
    refine ⟨_, rfl, rfl, _, rfl, wayF (by decide) ?_⟩
    refine ⟨_, rfl, rfl, _, rfl, wayT rfl ?_⟩
    refine ⟨_, rfl, .inl ⟨rfl, _, SqL.of u1⟩, _, rfl, _, rfl, q, _, _, _, rfl, rfl, SqL.of u1, atI_nat hxV, q, _, _, rfl, rfl, u1, small1000 (by omega), ?_⟩
    rw [show ns.map V.int ++ [V.int x] = (ns ++ [x]).map V.int by rw [List.map_append]; rfl]
    exact ⟨_, rfl, kk q _ _ (fin _) upd_same (by rw [List.length_append]; simp; omega) (not_len (by rw [List.length_append]; simp; omega))⟩
end
end K8


namespace K8
open PySem L2
local macro_rules | `(tactic| walk_at "cc") => `(tactic| first | exact ⟨by decide, by decide⟩ | (show (0 : Int) < _; decide) | (show (0 : Int) < _; omega) | (show (0 : Int) ≤ _; omega) | exact ⟨by decide, by decide, by decide⟩ | exact ⟨by omega, by omega, by decide⟩ | exact Or.inl ⟨by decide, by decide⟩ | exact Or.inl ⟨by omega, by omega⟩)
local macro_rules | `(tactic| walk_at "rd") => `(tactic| repeat (first | refine ⟨_, rfl, ?_⟩ | refine ⟨_, _, rfl, rfl, ?_⟩ | refine ⟨rfl, ?_⟩ | (refine ⟨?cc, ?_⟩; (case cc => walk_at "cc"))))

theorem mk_bit0 : ∀ (l : List Nat) (a p : Nat), (l.foldl (fun a x => a ||| 2 ^ x) a).testBit p = (a.testBit p || decide (p ∈ l))
  | [], a, p => by simp
  | x :: l, a, p => by
    rw [List.foldl_cons, mk_bit0 l, Nat.testBit_or, Nat.testBit_two_pow]
    by_cases h : x = p
    · subst h; simp
    · have : decide (p = x) = false := decide_eq_false fun z => h z.symm
      simp [h, this]
theorem mk_bit (l : List Nat) (p : Nat) : (mk l).testBit p = decide (p ∈ l) := by
  unfold mk
  rw [mk_bit0, Nat.zero_testBit, Bool.false_or]
/-- where each place stands in the order -/
structure Spot (od : List Nat) (m : Nat) (S : Nat → Nat) : Prop where
  len : od.length = m
  at1 : ∀ k p, od[k]? = some p → p < m ∧ S p = k
  at2 : ∀ p, p < m → od[S p]? = some p
theorem Spot.lt {od : List Nat} {m : Nat} {S : Nat → Nat} (h : Spot od m S) {p : Nat} (hp : p < m) : S p < m := by
  rw [← h.len]
  exact (List.getElem?_eq_some_iff.mp (h.at2 p hp)).1
theorem Spot.mem {od : List Nat} {m : Nat} {S : Nat → Nat} (h : Spot od m S) {p k : Nat} (hp : p < m) : (K8.mk (od.take k)).testBit p = decide (S p < k) := by
  rw [mk_bit]
  by_cases z : S p < k
  · rw [decide_eq_true z, decide_eq_true]
    exact List.mem_of_getElem? (i := S p) (by rw [List.getElem?_take, if_pos z]; exact h.at2 p hp)
  · rw [decide_eq_false z, decide_eq_false]
    intro y
    obtain ⟨j, hj⟩ := List.mem_iff_getElem?.mp y
    rw [List.getElem?_take] at hj
    split at hj
    · have := (h.at1 j p hj).2
      omega
    · cases hj
theorem Spot.out {od : List Nat} {m : Nat} {S : Nat → Nat} (h : Spot od m S) {p k : Nat} (hp : ¬ p < m) : (K8.mk (od.take k)).testBit p = false := by
  rw [mk_bit]
  refine decide_eq_false fun y => ?_
  obtain ⟨j, hj⟩ := List.mem_iff_getElem?.mp y
  rw [List.getElem?_take] at hj
  split at hj
  · exact hp (h.at1 j p hj).1
  · cases hj
/-- how long each place stays at the front -/
structure Last (es : En) (m : Nat) (S L : Nat → Nat) : Prop where
  lt : ∀ p, p < m → L p < m
  up : ∀ p, p < m → ∀ k, S p < k → (k ≤ L p ↔ ∃ e ∈ es, (e.1 = p ∧ k ≤ S e.2) ∨ (e.2 = p ∧ k ≤ S e.1))
theorem Last.z {m : Nat} {S : Nat → Nat} (h : ∀ p, p < m → S p < m) : Last [] m S S := ⟨h, fun p _ k hk => ⟨fun z => by omega, fun ⟨_, z, _⟩ => nomatch z⟩⟩
theorem Last.put {es : En} {m : Nat} {S L L' : Nat → Nat} {e : Nat × Nat} (h : Last es m S L) (hS : ∀ p, p < m → S p < m) (b1 : e.1 < m) (b2 : e.2 < m) (ne : e.1 ≠ e.2) (l1 : L' e.1 = max (L e.1) (S e.2)) (l2 : L' e.2 = max (L e.2) (S e.1)) (l3 : ∀ p, p ≠ e.1 → p ≠ e.2 → L' p = L p) : Last (es ++ [e]) m S L' := by
  have s1 := hS _ b1
  have s2 := hS _ b2
  have q1 := h.lt _ b1
  have q2 := h.lt _ b2
  refine ⟨fun p hp => ?_, fun p hp k hk => ?_⟩
  · by_cases z1 : p = e.1
    · rw [z1, l1]; omega
    · by_cases z2 : p = e.2
      · rw [z2, l2]; omega
      · rw [l3 p z1 z2]; exact h.lt p hp
  · have old := h.up p hp k hk
    have sp : (∃ x ∈ es ++ [e], (x.1 = p ∧ k ≤ S x.2) ∨ (x.2 = p ∧ k ≤ S x.1)) ↔ k ≤ L p ∨ (e.1 = p ∧ k ≤ S e.2) ∨ (e.2 = p ∧ k ≤ S e.1) := by
      rw [old]
      constructor
      · rintro ⟨x, hx, y⟩
        rcases List.mem_append.mp hx with z | z
        · exact .inl ⟨x, z, y⟩
        · have : x = e := by simpa using z
          subst this
          exact .inr y
      · rintro (⟨x, hx, y⟩ | y)
        · exact ⟨x, List.mem_append_left _ hx, y⟩
        · exact ⟨e, List.mem_append_right _ (List.mem_singleton.mpr rfl), y⟩
    rw [sp]
    clear sp old
    by_cases z1 : p = e.1
    · subst z1
      rw [l1]
      have n2 : ¬ e.2 = e.1 := fun z => ne z.symm
      constructor
      · intro y
        by_cases u : k ≤ L e.1
        · exact .inl u
        · exact .inr (.inl ⟨rfl, by omega⟩)
      · rintro (y | ⟨_, y⟩ | ⟨y, _⟩)
        · omega
        · omega
        · exact absurd y n2
    · by_cases z2 : p = e.2
      · subst z2
        rw [l2]
        constructor
        · intro y
          by_cases u : k ≤ L e.2
          · exact .inl u
          · exact .inr (.inr ⟨rfl, by omega⟩)
        · rintro (y | ⟨y, _⟩ | ⟨_, y⟩)
          · omega
          · exact absurd y ne
          · omega
      · rw [l3 p z1 z2]
        constructor
        · exact .inl
        · rintro (y | ⟨y, _⟩ | ⟨y, _⟩)
          · exact y
          · exact absurd y.symm z1
          · exact absurd y.symm z2
/-- the fronts by what stands how long -/
theorem front_due {es : En} {od : List Nat} {m k M : Nat} {S L : Nat → Nat} (s : Spot od m S) (l : Last es m S L) (hb : ∀ e ∈ es, e.1 < m ∧ e.2 < m) (h : ∀ x, M.testBit x = decide (x < m ∧ S x < k ∧ k ≤ L x)) : Front es (K8.mk (od.take k)) M := fun x => by
  rw [h x]
  by_cases hx : x < m
  · rw [s.mem hx]
    by_cases z : S x < k
    · rw [decide_eq_true z, Bool.true_and]
      have e2 : es.any (atF (K8.mk (od.take k)) x) = decide (∃ e ∈ es, (e.1 = x ∧ k ≤ S e.2) ∨ (e.2 = x ∧ k ≤ S e.1)) := by
        rw [Bool.eq_iff_iff, List.any_eq_true, decide_eq_true_iff]
        constructor
        · rintro ⟨e, he, y⟩
          refine ⟨e, he, ?_⟩
          unfold atF at y
          rw [s.mem (hb e he).1, s.mem (hb e he).2] at y
          simp at y
          rcases y with ⟨y1, y2⟩ | ⟨y1, y2⟩
          · exact .inl ⟨y1, y2⟩
          · exact .inr ⟨y1, y2⟩
        · rintro ⟨e, he, y⟩
          refine ⟨e, he, ?_⟩
          unfold atF
          rw [s.mem (hb e he).1, s.mem (hb e he).2]
          simp
          rcases y with ⟨y1, y2⟩ | ⟨y1, y2⟩
          · exact .inl ⟨y1, y2⟩
          · exact .inr ⟨y1, y2⟩
      rw [e2]
      have := l.up x hx k z
      exact decide_eq_decide.mpr ⟨fun y => this.mp y.2.2, fun y => ⟨hx, z, this.mpr y⟩⟩
    · rw [decide_eq_false z, Bool.false_and]
      exact decide_eq_false fun y => z y.2.1
  · rw [s.out hx, Bool.false_and]
    exact decide_eq_false fun y => hx y.1
end K8


namespace K8
open PySem L2
local macro_rules | `(tactic| walk_at "cc") => `(tactic| first | exact ⟨by decide, by decide⟩ | (show (0 : Int) < _; decide) | (show (0 : Int) < _; omega) | (show (0 : Int) ≤ _; omega) | exact ⟨by decide, by decide, by decide⟩ | exact ⟨by omega, by omega, by decide⟩ | exact Or.inl ⟨by decide, by decide⟩ | exact Or.inl ⟨by omega, by omega⟩)
local macro_rules | `(tactic| walk_at "rd") => `(tactic| repeat (first | refine ⟨_, rfl, ?_⟩ | refine ⟨_, _, rfl, rfl, ?_⟩ | refine ⟨rfl, ?_⟩ | (refine ⟨?cc, ?_⟩; (case cc => walk_at "cc"))))

structure TxtB (mg : Str → Option Value) (BO : Addr) : Prop extends Txt mg where
  g_BadOrder : mg "BadOrder" = some (.ref BO)
theorem get_fn {l : List Nat} {p : Nat} (h : p < l.length) : l[p]? = some (l.getD p 0) := by
  rw [List.getElem?_eq_getElem h, List.getD_eq_getElem?_getD, List.getElem?_eq_getElem h]; rfl
theorem get_V {l : List Nat} {p : Nat} (h : p < l.length) : (l.map iV)[p]? = some (iV (l.getD p 0)) := by
  rw [List.getElem?_map, get_fn h]; rfl
theorem getD_set {l : List Nat} {i p v : Nat} (h : i < l.length) : (l.set i v).getD p 0 = if p = i then v else l.getD p 0 := by
  rw [List.getD_eq_getElem?_getD, List.getD_eq_getElem?_getD, List.getElem?_set]
  by_cases z : p = i
  · subst z
    rw [if_pos rfl, if_pos h, if_pos rfl]; rfl
  · rw [if_neg (fun y => z y.symm), if_neg z]
theorem max_V (a b : Nat) : V.int (if ((b : Nat) : Int) > ((a : Nat) : Int) then ((b : Nat) : Int) else ((a : Nat) : Int)) = iV (max a b) := by
  show V.int _ = V.int ((max a b : Nat) : Int)
  congr 1
  split <;> omega
theorem due_step {D n : Nat} {A : Nat → Prop} [DecidablePred A] (h : D < 2 ^ n) (b : ∀ x, D.testBit x = decide (x < n ∧ A x)) : D + (if A n then 2 ^ n else 0) < 2 ^ (n + 1) ∧ ∀ x, (D + (if A n then 2 ^ n else 0)).testBit x = decide (x < n + 1 ∧ A x) := by
  by_cases z : A n
  · rw [if_pos z]
    have e : D + 2 ^ n = 2 ^ n * 1 ||| D := by rw [← Nat.two_pow_add_eq_or_of_lt h, Nat.mul_one, Nat.add_comm]
    refine ⟨by rw [Nat.pow_succ]; omega, fun x => ?_⟩
    rw [e, Nat.testBit_or, Nat.mul_one, Nat.testBit_two_pow, b x]
    by_cases y : n = x
    · subst y
      rw [decide_eq_true rfl, Bool.true_or, decide_eq_true ⟨by omega, z⟩]
    · rw [decide_eq_false y, Bool.false_or]
      exact decide_eq_decide.mpr ⟨fun u => ⟨by omega, u.2⟩, fun u => ⟨by omega, u.2⟩⟩
  · rw [if_neg z, Nat.add_zero]
    refine ⟨by rw [Nat.pow_succ]; omega, fun x => ?_⟩
    rw [b x]
    refine decide_eq_decide.mpr ⟨fun u => ⟨by omega, u.2⟩, fun u => ⟨?_, u.2⟩⟩
    by_cases y : x = n
    · subst y; exact absurd u.2 z
    · omega
def spRefd (PL PS WC : Addr) : Sp := fun vs H Q _ => ∃ (p : Addr) (m : Nat) (es : En) (ks : Kn) (o : Addr) (ns : List Int), vs = [.ref p, .ref o] ∧ WebM PL PS WC H p m es ks ∧ (∀ e ∈ es, e.1 < m ∧ e.2 < m) ∧ m ≤ 40 ∧ H o = some (.lst (ns.map V.int)) ∧ ns.length ≤ 50 ∧ ¬ ns.Perm (rI m) ∧ ∀ H', Same H H' → Q (.bl true) H'
def spDue (K : PySem.W.Frag) : Sp := fun vs H Q _ => ∃ (ae ao : Addr) (ys : List V) (es : En) (od : List Nat) (m : Nat), vs = [.ref ae, .ref ao] ∧ SqL K H ae ys ∧ EndsAt H ys es ∧ (∀ e ∈ es, e.1 < m ∧ e.2 < m ∧ e.1 ≠ e.2) ∧ H ao = some (.lst (od.map iV)) ∧ od.Perm (List.range m) ∧ m ≤ 40 ∧ ∀ (q : Addr) (ms : List Nat) (H' : Hp), Same H H' → H' q = some (.lst (ms.map iV)) → Fronts es od ms → Q (.ref q) H'
section
variable {P : Program} {w : World} {K : PySem.W.Frag} {mg : Str → Option Value} {base : Heap}
theorem sc_law_refused : FnScope ["web", "bad", "found", "e"] ["web", "bad"] (defScope s_law_refused) := ⟨rfl, rfl, rfl, by decide +kernel, rfl, by decide +kernel, by decide +kernel⟩
theorem ok_refd {f ff BO FE PL PS WC : Addr} {fd fdf : FuncData} (F : Fun K "_law_refused" "_law_refused" s_law_refused f fd) (T : TxtB mg BO) (X_FloorError : ErrC K mg "FloorError" FE) (X_BadOrder : ErrC K mg "BadOrder" BO) (mBF : PySem.W.mroIn K BO (.ref FE) = some true)
    (G_fronts : CalX P w K mg base 3 "fronts" ["web", "order"] (spFrX BO PL PS WC) ff fdf) : FnOk P w K mg base CX0 4 f fd ["web", "bad"] (spRefd PL PS WC) := by
  have hCs : ∀ c, c = BO → ExC K c ∧ PySem.W.mroIn K c (.ref FE) = some true := fun c hc => by subst hc; exact ⟨X_BadOrder.ec, mBF⟩
  refine F.ok sc_law_refused (fun vs H Q E h => ?_) (fun cdv A outer s H vs Q E hr h => ?_)
  · obtain ⟨p, m, es, ks, o, ns, rfl, _⟩ := h
    rfl
  obtain ⟨p, m, es, ks, o, ns, rfl, wm, hbd, m40, ho, hl, np, k⟩ := h
  refine ⟨_, (pss_cons (ps_set (i := 2) sc_law_refused.nd rfl (Or.inl rfl) pe_non)
      (pss_cons (ps_tryAs (ie := 3) (Cs := (fun c => c = BO)) rfl rfl rfl sc_law_refused.nd rfl rfl rfl X_FloorError.mg X_FloorError.ec hCs (fun pins XE W ws => (pss_one (ps_expr (pe_callT G_fronts.ok (hr.mono (by decide)) rfl G_fronts.mg G_fronts.kp G_fronts.bn .nil ws rfl (pa_cons (pv 0) (pa_cons (pv 1) pa_nil)))))) (fun v => (pss_one (ps_set (i := 2) sc_law_refused.nd rfl (Or.inl rfl) (pv 3)))))
      (pss_one (ps_ret (pe_callB call_isiX (by rfl) T.n_isinstance bt_isinstance (pa_cons (pv 2) (pa_cons (pe_glob (v := .ref _) rfl T.g_BadOrder rfl) pa_nil))))))), ?_⟩
  refine ⟨_, rfl, _, rfl, p, m, es, ks, .ref o, ns, rfl, wm, hbd, m40, .inr ⟨o, rfl, ho, hl⟩, fun _ H' s' => ⟨BO, rfl, rfl, fun x hx => ?_⟩, fun od e pm => absurd pm np⟩
  refine ⟨_, rfl, ?_⟩
  refine ⟨_, rfl, x, BO, rfl, upd_same, ?_⟩
  exact k _ (s'.trans (same_new hx _))
theorem sc_law_due : FnScope ["ends", "order", "spot", "k", "last", "one", "two", "due", "place"] ["ends", "order"] (defScope s_law_due) := ⟨rfl, rfl, rfl, by decide +kernel, rfl, by decide +kernel, by decide +kernel⟩
theorem ok_due {f : Addr} {fd : FuncData} (F : Fun K "_law_due" "_law_due" s_law_due f fd) (T : Txt mg) : FnOk P w K mg base CX0 1 f fd ["ends", "order"] (spDue K) := by
  refine F.ok sc_law_due (fun vs H Q E h => ?_) (fun cdv A outer s H vs Q E hr h => ?_)
  · obtain ⟨ae, ao, ys, es, od, m, rfl, _⟩ := h
    rfl
  obtain ⟨ae, ao, ys, es, od, m, rfl, hS, hE, hbd, ho, pm, m40, kk⟩ := h
  have ol : od.length = m := by rw [pm.length_eq, List.length_range]
  have nd : od.Nodup := pm.nodup_iff.mpr List.nodup_range
  have olV : (od.map iV).length = m := by rw [List.length_map]; exact ol
  have ob : ∀ {k p : Nat}, od[k]? = some p → p < m := fun {k p} h => List.mem_range.mp (pm.mem_iff.mp (List.mem_of_getElem? h))
  refine ⟨_, (pss_cons (ps_setComp (i := 2) rfl sc_law_due.nd rfl rfl (fr := []) (by exact CompOk.plain (by rfl) (by decide +kernel) (by rfl) (by decide +kernel) (by rfl) (by decide +kernel)) (pi_list (pv 1)) (fun C ex s H => pe_int))
      (pss_cons (ps_for PassesOwn.never rfl (pi_range1 rfl T.n_range (pa_cons (pe_callB call_len_seq (by rfl) T.n_len bt_len (pa_cons (pv 1) pa_nil)) pa_nil)) (pg_name (i := 3) sc_law_due.nd rfl (Or.inl rfl)) (pss_one (ps_asg (pv 3) (pg_sub (pv 2) (pe_ix ix_list (pv 1) (pv 3) (fun _ _ => rfl)) set_list))))
      (pss_cons (ps_set (i := 4) sc_law_due.nd rfl (Or.inl rfl) (pe_callTy call_list_of (by rfl) T.n_list bt_list (pa_cons (pv 2) pa_nil)))
      (pss_cons (ps_for PassesOwn.never rfl (pi_list (pv 0)) (pg_tup rfl (pgs_cons (pg_name (i := 5) sc_law_due.nd rfl (Or.inl rfl)) (pgs_cons (pg_name (i := 6) sc_law_due.nd rfl (Or.inl rfl)) pgs_nil))) (pss_cons (ps_asg (pe_callB (call_max2 rfl) (by rfl) T.n_max bt_max (pa_cons (pe_ix ix_list (pv 4) (pv 5) (fun _ _ => rfl)) (pa_cons (pe_ix ix_list (pv 2) (pv 6) (fun _ _ => rfl)) pa_nil))) (pg_sub (pv 4) (pv 5) set_list))
      (pss_one (ps_asg (pe_callB (call_max2 rfl) (by rfl) T.n_max bt_max (pa_cons (pe_ix ix_list (pv 4) (pv 6) (fun _ _ => rfl)) (pa_cons (pe_ix ix_list (pv 2) (pv 5) (fun _ _ => rfl)) pa_nil))) (pg_sub (pv 4) (pv 6) set_list)))))
      (pss_cons (ps_setComp (i := 7) rfl sc_law_due.nd rfl rfl (fr := []) (by exact CompOk.plain (by rfl) (by decide +kernel) (by rfl) (by decide +kernel) (by rfl) (by decide +kernel)) (pi_range1 rfl T.n_range (pa_cons (pe_op op_add (pe_callB call_len_seq (by rfl) T.n_len bt_len (pa_cons (pv 1) pa_nil)) pe_int) pa_nil)) (fun C ex s H => pe_int))
      (pss_cons (ps_for PassesOwn.never rfl (pi_range1 rfl T.n_range (pa_cons (pe_callB call_len_seq (by rfl) T.n_len bt_len (pa_cons (pv 1) pa_nil)) pa_nil)) (pg_name (i := 8) sc_law_due.nd rfl (Or.inl rfl)) (pss_one (ps_for PassesOwn.never rfl (pi_range2 rfl T.n_range (pa_cons (pe_op op_add (pe_ix ix_list (pv 2) (pv 8) (fun _ _ => rfl)) pe_int) (pa_cons (pe_op op_add (pe_ix ix_list (pv 4) (pv 8) (fun _ _ => rfl)) pe_int) pa_nil))) (pg_name (i := 3) sc_law_due.nd rfl (Or.inl rfl)) (pss_one (ps_asg (pe_op op_add (pe_ix ix_list (pv 7) (pv 3) (fun _ _ => rfl)) (pe_op op_shl pe_int (pv 8))) (pg_sub (pv 7) (pv 3) set_list))))))
      (pss_one (ps_ret (pv 7))))))))), ?_⟩
  refine ⟨_, rfl, ao, rfl, ⟨_, SqL.of ho⟩, comp_list (K := K) (xs := od.map iV) (fun i zs H2 => H2 = H ∧ zs = (List.replicate i 0).map iV) (Nat.le_of_lt (small1000 (by omega))) ⟨rfl, rfl⟩ (fun i zs H2 _ z => by rw [z.1]; exact SqL.of ho) ?_ ?_⟩
  · rintro i x zs H2 hx ⟨rfl, rfl⟩
    refine ⟨rfl, ?_⟩
    rw [List.replicate_succ', List.map_append]
    rfl
  rintro zs H2 _ ⟨rfl, rfl⟩ qs hqs
  rw [olV]
  have s1 := same_new hqs (.lst ((List.replicate m 0).map iV))
  refine ⟨_, rfl, ao, _, rfl, .inl (SqL.of (s1 _ _ ho)), _, rfl, by omega, by omega, for_range (n := ((od.map iV).length : Int).toNat) (fun i σ H3 => ∃ v3 ss, σ = [some (.ref ae), some (.ref ao), some (.ref qs), v3, none, none, none, none, none] ∧ Same H2 H3 ∧ H3 qs = some (.lst (ss.map iV)) ∧ ss.length = m ∧ ∀ k p, k < i → od[k]? = some p → ss.getD p 0 = k) ⟨_, List.replicate m 0, rfl, s1, upd_same, List.length_replicate, fun k p z => absurd z (Nat.not_lt_zero _)⟩ ?_ ?_⟩
  · rintro i σ H3 hi ⟨v3, ss, rfl, s3, h3, sl, sp⟩
    rw [Int.toNat_natCast, olV] at hi
    have e0 : (0 : Int) + (i : Int) = (i : Int) := Int.zero_add _
    rw [e0]
    obtain ⟨p, hp⟩ : ∃ p, od[i]? = some p := ⟨_, List.getElem?_eq_getElem (by omega)⟩
    have pb := ob hp
    have hpV : (od.map iV)[i]? = some (iV p) := by rw [List.getElem?_map, hp]; rfl
    refine ⟨_, rfl, _, rfl, _, rfl, _, rfl, ao, _, _, _, rfl, rfl, SqL.of (s3 _ _ ho), atI_nat hpV, qs, _, _, p, rfl, rfl, h3, ixN_nat (by rw [List.length_map]; omega), ?_⟩
    refine ⟨some (.int (i : Int)), ss.set p i, rfl, same_upd s3 hqs _, by rw [upd_same, List.map_set]; rfl, by rw [List.length_set]; exact sl, fun k p' hk hp' => ?_⟩
    rw [getD_set (by omega)]
    by_cases z : k = i
    · subst z
      rw [hp] at hp'
      cases hp'
      rw [if_pos rfl]
    · rw [if_neg]
      · exact sp k p' (by omega) hp'
      · intro y
        subst y
        obtain ⟨h1, e1⟩ := List.getElem?_eq_some_iff.mp hp
        obtain ⟨h2, e2⟩ := List.getElem?_eq_some_iff.mp hp'
        rcases Nat.lt_or_gt_of_ne z with u | u
        · exact (List.pairwise_iff_getElem.mp nd k i h2 h1 u) (e2.trans e1.symm)
        · exact (List.pairwise_iff_getElem.mp nd i k h1 h2 u) (e1.trans e2.symm)
  rintro σ H3 ⟨v3, ss, rfl, s3, h3, sl, sp⟩
  rw [Int.toNat_natCast, olV] at sp
  have spot : Spot od m (fun p => ss.getD p 0) := by
    refine ⟨ol, fun k p h => ⟨ob h, sp k p (by rw [← ol]; exact (List.getElem?_eq_some_iff.mp h).1) h⟩, fun p hp => ?_⟩
    obtain ⟨k, hk⟩ := List.mem_iff_getElem?.mp (pm.mem_iff.mpr (List.mem_range.mpr hp))
    show od[ss.getD p 0]? = some p
    rw [sp k p (by rw [← ol]; exact (List.getElem?_eq_some_iff.mp hk).1) hk]
    exact hk
  have hSm : ∀ p, p < m → ss.getD p 0 < m := fun p hp => spot.lt hp
  refine ⟨_, rfl, qs, _, rfl, .inl (SqL.of h3), fun ql hql => ?_⟩
  have s4 := same_new hql (.lst (ss.map iV))
  have nqs : qs ≠ ql := fun z => by rw [z, hql] at h3; cases h3
  refine ⟨_, rfl, ae, rfl, ⟨_, (s3.trans s4).seq hS⟩, for_list (K := K) (xs := ys) (fun i σ H4 => ∃ (v5 v6 : Option V) (ll : List Nat), σ = [some (.ref ae), some (.ref ao), some (.ref qs), v3, some (.ref ql), v5, v6, none, none] ∧ Same H3 H4 ∧ H4 ql = some (.lst (ll.map iV)) ∧ ll.length = m ∧ Last (es.take i) m (fun p => ss.getD p 0) (fun p => ll.getD p 0)) ⟨_, _, ss, rfl, s4, upd_same, sl, Last.z hSm⟩ (fun i σ H4 _ ⟨_, _, _, _, z, _⟩ => (s3.trans z).seq hS) ?_ ?_⟩
  · rintro i x σ H4 hx ⟨v5, v6, ll, rfl, s5, h5, lln, la⟩
    have hi : i < es.length := by rw [← hE.1]; exact (List.getElem?_eq_some_iff.mp hx).1
    obtain ⟨e, he⟩ : ∃ e, es[i]? = some e := ⟨_, List.getElem?_eq_getElem hi⟩
    obtain ⟨b, x1, x2⟩ := (hE.mono (s3.trans s5)).2 i e he
    rw [hx] at x1
    cases x1
    obtain ⟨b1, b2, ne⟩ := hbd e (List.mem_of_getElem? he)
    have et : es.take (i + 1) = es.take i ++ [e] := by rw [List.take_add_one, he]; rfl
    refine ⟨b, _, rfl, SqT.of x2, rfl, _, _, rfl, _, _, rfl, rfl, ?_⟩
    have h3' := s5 _ _ h3
    refine ⟨_, rfl, _, rfl, ql, _, _, _, rfl, rfl, SqL.of h5, atI_nat (get_V (by omega)), _, rfl, _, rfl, qs, _, _, _, rfl, rfl, SqL.of h3', atI_nat (get_V (by omega)), _, _, rfl, ?_⟩
    refine ⟨_, rfl, _, rfl, ql, _, _, e.1, rfl, rfl, h5, ixN_nat (by rw [List.length_map]; omega), ?_⟩
    rw [max_V, ← List.map_set]
    have s6 : Same H3 (upd H4 ql (.lst ((ll.set e.1 (max (ll.getD e.1 0) (ss.getD e.2 0))).map iV))) := same_upd s5 hql _
    have h6 : (upd H4 ql (.lst ((ll.set e.1 (max (ll.getD e.1 0) (ss.getD e.2 0))).map iV))) ql = some (.lst ((ll.set e.1 (max (ll.getD e.1 0) (ss.getD e.2 0))).map iV)) := upd_same
    generalize upd H4 ql (.lst ((ll.set e.1 (max (ll.getD e.1 0) (ss.getD e.2 0))).map iV)) = H5 at s6 h6
    have l6 : (ll.set e.1 (max (ll.getD e.1 0) (ss.getD e.2 0))).length = m := by rw [List.length_set]; exact lln
    have g6 : (ll.set e.1 (max (ll.getD e.1 0) (ss.getD e.2 0))).getD e.2 0 = ll.getD e.2 0 := by rw [getD_set (by omega), if_neg (fun z => ne z.symm)]
    refine ⟨_, rfl, _, rfl, ql, _, _, _, rfl, rfl, SqL.of h6, atI_nat (get_V (by omega)), _, rfl, _, rfl, qs, _, _, _, rfl, rfl, SqL.of (s6 _ _ h3), atI_nat (get_V (by omega)), _, _, rfl, ?_⟩
    refine ⟨_, rfl, _, rfl, ql, _, _, e.2, rfl, rfl, h6, ixN_nat (by rw [List.length_map]; omega), ?_⟩
    rw [max_V, ← List.map_set, g6]
    refine ⟨_, _, (ll.set e.1 (max (ll.getD e.1 0) (ss.getD e.2 0))).set e.2 (max (ll.getD e.2 0) (ss.getD e.1 0)), rfl, same_upd s6 hql _, upd_same, by rw [List.length_set]; exact l6, ?_⟩
    rw [et]
    refine la.put hSm b1 b2 ne ?_ ?_ fun p n1 n2 => ?_
    · show ((ll.set e.1 _).set e.2 _).getD e.1 0 = _
      rw [getD_set (by omega), if_neg ne, getD_set (by omega), if_pos rfl]
    · show ((ll.set e.1 _).set e.2 _).getD e.2 0 = _
      rw [getD_set (by omega), if_pos rfl]
    · show ((ll.set e.1 _).set e.2 _).getD p 0 = _
      rw [getD_set (by omega), if_neg n2, getD_set (by omega), if_neg n1]
  rintro σ H4 ⟨v5, v6, ll, rfl, s5, h5, lln, la⟩
  rw [hE.1, List.take_length] at la
  have s25 := s3.trans s5
  refine ⟨_, rfl, ao, _, rfl, .inl (SqL.of (s25 _ _ ho)), _, _, rfl, rfl, _, rfl, by omega, by omega, comp_range (n := (((od.map iV).length : Int) + 1).toNat) (fun i zs H5 => H5 = H4 ∧ zs = (List.replicate i 0).map iV) (Nat.le_of_lt (small1000 (by omega))) ⟨rfl, rfl⟩ ?_ ?_⟩
  · rintro i zs H5 hi ⟨rfl, rfl⟩
    refine ⟨rfl, ?_⟩
    rw [List.replicate_succ', List.map_append]
    rfl
  rintro zs H5 _ ⟨rfl, rfl⟩ qd hqd
  have en : (((od.map iV).length : Int) + 1).toNat = m + 1 := by omega
  rw [en]
  have s6 := same_new hqd (.lst ((List.replicate (m + 1) 0).map iV))
  refine ⟨_, rfl, ao, _, rfl, .inl (SqL.of (s6 _ _ (s25 _ _ ho))), _, rfl, by omega, by omega, for_range (n := ((od.map iV).length : Int).toNat) (fun n σ H6 => ∃ (v3 v8 : Option V) (dd : List Nat), σ = [some (.ref ae), some (.ref ao), some (.ref qs), v3, some (.ref ql), v5, v6, some (.ref qd), v8] ∧ Same H5 H6 ∧ H6 qd = some (.lst (dd.map iV)) ∧ dd.length = m + 1 ∧ ∀ k, k ≤ m → dd.getD k 0 < 2 ^ n ∧ ∀ x, (dd.getD k 0).testBit x = decide (x < n ∧ (ss.getD x 0 < k ∧ k ≤ ll.getD x 0))) ⟨_, _, List.replicate (m + 1) 0, rfl, s6, upd_same, List.length_replicate, fun k hk => ?_⟩ ?_ ?_⟩
  · have : (List.replicate (m + 1) 0).getD k 0 = 0 := by rw [List.getD_eq_getElem?_getD, List.getElem?_replicate]; split <;> rfl
    rw [this]
    exact ⟨Nat.one_pos, fun x => by rw [Nat.zero_testBit, decide_eq_false (fun z => absurd z.1 (Nat.not_lt_zero _))]⟩
  · rintro n σ H6 hn ⟨v3, v8, dd, rfl, s7, h7, dl, hd⟩
    rw [Int.toNat_natCast, olV] at hn
    have e0 : (0 : Int) + (n : Int) = (n : Int) := Int.zero_add _
    rw [e0]
    have lL := la.lt n hn
    have lL' : ll.getD n 0 < m := lL
    have sL := hSm n hn
    have h3' := s7 _ _ (s5 _ _ h3)
    have h5' := s7 _ _ h5
    refine ⟨_, rfl, _, rfl, qs, _, _, _, rfl, rfl, SqL.of h3', atI_nat (get_V (by omega)), _, _, rfl, rfl, _, rfl, _, rfl, ql, _, _, _, rfl, rfl, SqL.of h5', atI_nat (get_V (by omega)), _, _, rfl, rfl, _, _, rfl, ⟨by omega, by omega, by omega, by omega⟩, for_range (n := (((ll.getD n 0 : Nat) : Int) + 1 - (((ss.getD n 0 : Nat) : Int) + 1)).toNat) (fun j σ H7 => ∃ (v3 : Option V) (d2 : List Nat), σ = [some (.ref ae), some (.ref ao), some (.ref qs), v3, some (.ref ql), v5, v6, some (.ref qd), some (.int (n : Int))] ∧ Same H5 H7 ∧ H7 qd = some (.lst (d2.map iV)) ∧ d2.length = m + 1 ∧ ∀ k, k ≤ m → d2.getD k 0 = dd.getD k 0 + (if ss.getD n 0 < k ∧ k < ss.getD n 0 + 1 + j then 2 ^ n else 0)) ⟨_, dd, rfl, s7, h7, dl, fun k hk => by rw [if_neg (by omega)]; rfl⟩ ?_ ?_⟩
    · rintro j σ H7 hj ⟨v3, d2, rfl, s8, h8, dl2, hd2⟩
      have e1 : ((ss.getD n 0 : Nat) : Int) + 1 + (j : Int) = ((ss.getD n 0 + 1 + j : Nat) : Int) := by omega
      have hb : ss.getD n 0 + 1 + j < m := by omega
      have e2 : ((d2.getD (ss.getD n 0 + 1 + j) 0 : Nat) : Int) + 1 * 2 ^ ((n : Nat) : Int).toNat = ((d2.getD (ss.getD n 0 + 1 + j) 0 + 2 ^ n : Nat) : Int) := by rw [shlN]; omega
      show gName 3 (V.int (((ss.getD n 0 : Nat) : Int) + 1 + (j : Int))) _ _ _
      rw [e1]
      refine ⟨_, rfl, _, rfl, qd, _, _, _, rfl, rfl, SqL.of h8, atI_nat (get_V (by omega)), _, rfl, _, _, rfl, rfl, ⟨by omega, by omega, by decide⟩, _, _, rfl, rfl, ?_⟩
      refine ⟨_, rfl, _, rfl, qd, _, _, ss.getD n 0 + 1 + j, rfl, rfl, h8, ixN_nat (by rw [List.length_map]; omega), ?_⟩
      refine ⟨_, d2.set (ss.getD n 0 + 1 + j) (d2.getD (ss.getD n 0 + 1 + j) 0 + 2 ^ n), rfl, same_upd s8 hqd _, ?_, by rw [List.length_set]; exact dl2, fun k hk => ?_⟩
      · rw [upd_same, List.map_set]
        show some (HO.lst ((d2.map iV).set _ (V.int (((d2.getD (ss.getD n 0 + 1 + j) 0 : Nat) : Int) + 1 * 2 ^ ((n : Nat) : Int).toNat)))) = _
        rw [e2]
        rfl
      · rw [getD_set (by omega)]
        by_cases z : k = ss.getD n 0 + 1 + j
        · subst z
          rw [if_pos rfl, hd2 _ hk, if_neg (by omega), if_pos (by omega)]
          rfl
        · rw [if_neg z, hd2 k hk]
          by_cases y : ss.getD n 0 < k ∧ k < ss.getD n 0 + 1 + j
          · rw [if_pos y, if_pos (by omega)]
          · rw [if_neg y, if_neg (by omega)]
    · rintro σ H7 ⟨v3, d2, rfl, s8, h8, dl2, hd2⟩
      refine ⟨_, _, d2, rfl, s8, h8, dl2, fun k hk => ?_⟩
      have st := due_step (A := fun x => ss.getD x 0 < k ∧ k ≤ ll.getD x 0) (hd k hk).1 (hd k hk).2
      have ed : d2.getD k 0 = dd.getD k 0 + (if ss.getD n 0 < k ∧ k ≤ ll.getD n 0 then 2 ^ n else 0) := by
        rw [hd2 k hk]
        by_cases y : ss.getD n 0 < k ∧ k ≤ ll.getD n 0
        · rw [if_pos y, if_pos (by omega)]
        · rw [if_neg y, if_neg (by omega)]
      rw [ed]
      exact st
  rintro σ H6 ⟨v3, v8, dd, rfl, s7, h7, dl, hd⟩
  rw [Int.toNat_natCast, olV] at hd
  refine ⟨_, rfl, kk qd dd H6 (s25.trans s7) h7 ⟨by rw [dl, ol], fun k M hk => ?_⟩⟩
  have hkl := (List.getElem?_eq_some_iff.mp hk).1
  have eM : dd.getD k 0 = M := by rw [List.getD_eq_getElem?_getD, hk]; rfl
  have q := (hd k (by omega)).2
  rw [eM] at q
  exact front_due spot la (fun e he => ⟨(hbd e he).1, (hbd e he).2.1⟩) q
end
end K8


namespace K8
open PySem L2
local macro_rules | `(tactic| walk_at "cc") => `(tactic| first | exact ⟨by decide, by decide⟩ | (show (0 : Int) < _; decide) | (show (0 : Int) < _; omega) | (show (0 : Int) ≤ _; omega) | exact ⟨by decide, by decide, by decide⟩ | exact ⟨by omega, by omega, by decide⟩ | exact Or.inl ⟨by decide, by decide⟩ | exact Or.inl ⟨by omega, by omega⟩)
local macro_rules | `(tactic| walk_at "rd") => `(tactic| repeat (first | refine ⟨_, rfl, ?_⟩ | refine ⟨_, _, rfl, rfl, ?_⟩ | refine ⟨rfl, ?_⟩ | (refine ⟨?cc, ?_⟩; (case cc => walk_at "cc"))))

theorem perm_of {o : List Nat} {m : Nat} (ol : o.length = m) (nd : o.Nodup) (ob : ∀ x ∈ o, x < m) : o.Perm (List.range m) := by
  refine (List.perm_ext_iff_of_nodup nd List.nodup_range).mpr fun x => ⟨fun h => List.mem_range.mpr (ob x h), fun h => ?_⟩
  by_cases z : x ∈ o
  · exact z
  · exfalso
    have := len_le (List.nodup_cons.mpr ⟨z, nd⟩) (N := m) fun y hy => by
      rcases List.mem_cons.mp hy with u | u
      · rw [u]; exact List.mem_range.mp h
      · exact ob y u
    rw [List.length_cons] at this
    omega
def restA (PL PS WC : Addr) : TS := fun D σ H => ∃ (a t p qo pe pt pk : Addr) (c : Int) (m : Nat) (es : En) (ts : List (List Nat)) (ks : Kn) (od : List Nat), σ = [some (.ref a), some (.int c), some (.ref t), some (.ref p), some (.int (m : Int)), some (.ref qo), none, none, none, none] ∧
  BuiltP H t pe pt pk m es ts ks ∧ WebM PL PS WC H p m es ks ∧ H qo = some (.lst (od.map iV)) ∧ od.Perm (List.range m) ∧ ((c % 6 = 2 ∨ c % 6 = 3) → od = List.range m) ∧ ∀ H', D.rt (.bl true) H'
def restB : TS := fun D σ H => ∃ (a t qo qh qf pe pt pk : Addr) (v1 v3 v4 : Option V) (m : Nat) (es : En) (ts : List (List Nat)) (ks : Kn) (od ms : List Nat), σ = [some (.ref a), v1, some (.ref t), v3, v4, some (.ref qo), some (.ref qh), some (.ref qf), none, none] ∧
  BuiltP H t pe pt pk m es ts ks ∧ H qo = some (.lst (od.map iV)) ∧ H qh = some (.lst (od.map iV)) ∧ H qf = some (.lst (ms.map iV)) ∧ Fronts es od ms ∧ od.Perm (List.range m) ∧ ∀ H', D.rt (.bl true) H'
theorem Fronts.one {es : En} {od ms ms' : List Nat} (h : Fronts es od ms) (h' : Fronts es od ms') : ms = ms' := by
  refine List.ext_getElem? fun k => ?_
  by_cases hk : k < ms.length
  · have hk' : k < ms'.length := by rw [h'.1, ← h.1]; exact hk
    rw [List.getElem?_eq_getElem hk, List.getElem?_eq_getElem hk', (h.2 k _ (List.getElem?_eq_getElem hk)).one (h'.2 k _ (List.getElem?_eq_getElem hk'))]
  · rw [List.getElem?_eq_none (by omega), List.getElem?_eq_none (by rw [h'.1, ← h.1]; omega)]
section
variable {P : Program} {w : World} {K : PySem.W.Frag} {mg : Str → Option Value} {base : Heap}
theorem sc_law : FnScope ["script", "way", "built", "web", "many", "order", "handed", "found", "due", "k"] ["script"] (defScope s_law) := ⟨rfl, rfl, rfl, by decide +kernel, rfl, by decide +kernel, by decide +kernel⟩
theorem ok_law {f fB fC fo fW fS fR fF fD fn BO PL PS WC : Addr} {fd dB dC do' dW dS dR dF dD dn : FuncData} (F : Fun K "law" "law" s_law f fd) (T : Txt mg) (G_law_built : Cal P w K mg base 5 "_law_built" ["script", "first", "most"] (spLBuilt K) fB dB) (G_law_cell : Cal P w K mg base 1 "_law_cell" ["script", "k"] (spCell K) fC dC) (G_law_order : Cal P w K mg base 1 "_law_order" ["cell", "many"] spOrder fo do')
    (G_law_web : Cal P w K mg base 7 "_law_web" ["built"] (spLWeb PL PS WC) fW dW) (G_law_spoiled : Cal P w K mg base 1 "_law_spoiled" ["order", "way", "at"] spSpoil fS dS) (G_law_refused : Cal P w K mg base 4 "_law_refused" ["web", "bad"] (spRefd PL PS WC) fR dR) (G_fronts : CalX P w K mg base 3 "fronts" ["web", "order"] (spFrX BO PL PS WC) fF dF) (bn1 : Binds K dF ["web", "order"] [.none])
    (G_law_due : Cal P w K mg base 1 "_law_due" ["ends", "order"] (spDue K) fD dD) (G_law_whole : Cal P w K mg base 1 "_law_whole" ["found"] spNum fn dn) : FnOk P w K mg base CX0 8 f fd ["script"] (spLaw K) := by
  refine F.ok sc_law (fun vs H Q E h => ?_) (fun cdv A outer s H vs Q E hr h => ?_)
  · obtain ⟨a, ns, rfl, _⟩ := h
    rfl
  obtain ⟨a, ns, rfl, hS, h63, kk⟩ := h
  have hu64 := hr.units
  refine ⟨_, (pss_cons (ps_set (i := 1) sc_law.nd rfl (Or.inl rfl) (pe_call G_law_cell.ok (hr.mono (by decide)) rfl G_law_cell.mg G_law_cell.kp G_law_cell.bn .nil pass0 (pa_cons (pv 0) (pa_cons pe_int pa_nil))))
      (pss_cons (ps_set (i := 2) sc_law.nd rfl (Or.inl rfl) (pe_call G_law_built.ok (hr.mono (by decide)) rfl G_law_built.mg G_law_built.kp G_law_built.bn .nil pass0 (pa_cons (pv 0) (pa_cons pe_int (pa_cons pe_int pa_nil)))))
      (pss_cons (ps_set (i := 3) sc_law.nd rfl (Or.inl rfl) (pe_call G_law_web.ok (hr.mono (by decide)) rfl G_law_web.mg G_law_web.kp G_law_web.bn .nil pass0 (pa_cons (pv 2) pa_nil)))
      (pss_cons (ps_set (i := 4) sc_law.nd rfl (Or.inl rfl) (pe_callB call_len_seq (by rfl) T.n_len bt_len (pa_cons (pe_ix ix_tup (pv 2) pe_int (fun _ _ => rfl)) pa_nil)))
      (pss_cons (ps_set (i := 5) sc_law.nd rfl (Or.inl rfl) (pe_call G_law_order.ok (hr.mono (by decide)) rfl G_law_order.mg G_law_order.kp G_law_order.bn .nil pass0 (pa_cons (pe_callB (call_sum rfl) (by rfl) T.n_sum bt_sum (pa_cons (pv 0) pa_nil)) (pa_cons (pv 4) pa_nil))))
      (pss_cons (ps_if (pt_cmpR op_eq (pe_op op_mod (pv 1) pe_int) pe_int (nomark _)) (pss_one (ps_ret (pe_call G_law_refused.ok (hr.mono (by decide)) rfl G_law_refused.mg G_law_refused.kp G_law_refused.bn .nil pass0 (pa_cons (pv 3) (pa_cons (pe_call G_law_spoiled.ok (hr.mono (by decide)) rfl G_law_spoiled.mg G_law_spoiled.kp G_law_spoiled.bn .nil pass0 (pa_cons (pv 5) (pa_cons (pe_op op_mod (pe_op op_fdiv (pv 1) pe_int) pe_int) (pa_cons (pe_op op_mod (pe_op op_fdiv (pv 1) pe_int) (pv 4)) pa_nil)))) pa_nil))))) pss_nil)
      (pss_cons (ps_if (PW.pt (pw_or (pt_cmpR op_eq (pe_op op_mod (pv 1) pe_int) pe_int (nomark _)) (pw_or1 (pt_cmpR op_eq (pe_op op_mod (pv 1) pe_int) pe_int (nomark _))))) (pss_one (ps_set (i := 5) sc_law.nd rfl (Or.inl rfl) (pe_listrange rfl rfl T.n_list rfl T.n_range (pv 4)))) pss_nil)
      (pss_imp (t2 := restA PL PS WC) (pss_cons (ps_set (i := 6) sc_law.nd rfl (Or.inl rfl) (pe_callTy call_list_of (by rfl) T.n_list bt_list (pa_cons (pv 5) pa_nil)))
      (pss_cons (ps_if (pt_cmpR op_eq (pe_op op_mod (pv 1) pe_int) pe_int (nomark _)) (pss_one (ps_set (i := 7) sc_law.nd rfl (Or.inl rfl) (pe_call G_fronts.ok (hr.mono (by decide)) rfl G_fronts.mg G_fronts.kp bn1 (dvs := [.non]) (.cons rfl .nil) pass0r (pa_cons (pv 3) pa_nil)))) (pss_one (ps_if (pt_cmpR op_eq (pe_op op_mod (pv 1) pe_int) pe_int (nomark _)) (pss_one (ps_set (i := 7) sc_law.nd rfl (Or.inl rfl) (pe_call G_fronts.ok (hr.mono (by decide)) rfl G_fronts.mg G_fronts.kp G_fronts.bn .nil pass0r (pa_cons (pv 3) (pa_cons pe_non pa_nil))))) (pss_one (ps_set (i := 7) sc_law.nd rfl (Or.inl rfl) (pe_call G_fronts.ok (hr.mono (by decide)) rfl G_fronts.mg G_fronts.kp G_fronts.bn .nil pass0r (pa_cons (pv 3) (pa_cons (pv 6) pa_nil))))))))
      (pss_imp (t2 := restB) (pss_cons (ps_set (i := 8) sc_law.nd rfl (Or.inl rfl) (pe_call G_law_due.ok (hr.mono (by decide)) rfl G_law_due.mg G_law_due.kp G_law_due.bn .nil pass0 (pa_cons (pe_ix ix_tup (pv 2) pe_int (fun _ _ => rfl)) (pa_cons (pv 5) pa_nil))))
      (pss_cons (ps_if (PW.pt (pw_or (pt_cmpR (op_neD hu64) (pv 6) (pv 5) (nomark _)) (pw_or (pt_not (pt_val (pe_callB call_isi (by rfl) T.n_isinstance bt_isinstance (pa_cons (pv 7) (pa_cons (pe_bltn (v := .ty "list") rfl T.n_list bt_list rfl) pa_nil))))) (pw_or1 (pt_cmpR op_ne (pe_callB call_len_seq (by rfl) T.n_len bt_len (pa_cons (pv 7) pa_nil)) (pe_callB call_len_seq (by rfl) T.n_len bt_len (pa_cons (pv 8) pa_nil)) (nomark _)))))) (pss_one (ps_ret pe_bl)) pss_nil)
      (pss_cons (ps_for PassesOwn.never rfl (pi_range1 rfl T.n_range (pa_cons (pe_callB call_len_seq (by rfl) T.n_len bt_len (pa_cons (pv 8) pa_nil)) pa_nil)) (pg_name (i := 9) sc_law.nd rfl (Or.inl rfl)) (pss_one (ps_if (PW.pt (pw_or (pt_not (pt_val (pe_call G_law_whole.ok (hr.mono (by decide)) rfl G_law_whole.mg G_law_whole.kp G_law_whole.bn .nil pass0 (pa_cons (pe_ix ix_list (pv 7) (pv 9) (fun _ _ => rfl)) pa_nil)))) (pw_or1 (pt_cmpR op_ne (pe_ix ix_list (pv 7) (pv 9) (fun _ _ => rfl)) (pe_ix ix_list (pv 8) (pv 9) (fun _ _ => rfl)) (nomark _))))) (pss_one (ps_ret pe_bl)) pss_nil)))
      (pss_one (ps_ret pe_bl))))) (fun D0 S0 H0 h0 => ?rest2)))) (fun D0 S0 H0 h0 => ?rest1))))))))), ?_⟩
  case rest2 =>
    obtain ⟨a, t, qo, qh, qf, pe, pt, pk, v1, v3, v4, m, es, ts, ks, od, ms, rfl, bp, hqo, hqh, hqf, fr, pm, kk⟩ := h0
    have g := bp.w.g
    have mf := gr_few g
    have few := bp.few
    obtain ⟨ht, ⟨⟨ys, hpe, hE⟩, _, _⟩, _, _, _⟩ := bp
    have ol : od.length = m := by rw [pm.length_eq, List.length_range]
    have hbd : ∀ e ∈ es, e.1 < m ∧ e.2 < m ∧ e.1 ≠ e.2 := fun e he => g.w.ends e he
    refine ⟨_, rfl, t, _, 0, _, rfl, rfl, SqT.of ht, at30, _, rfl, pe, qo, ys, es, od, m, rfl, SqL.of hpe, hE, hbd, hqo, pm, by omega, fun qd md H2 s2 hqd fr2 => ?_⟩
    have em := fr.one fr2
    subst em
    have ml : ms.length = m + 1 := by rw [fr.1, ol]
    have hqf2 := s2 _ _ hqf
    refine ⟨_, rfl, _, rfl, _, nats_rd (SqL.of (s2 _ _ hqh)), nats_rd (SqL.of (s2 _ _ hqo)), ints_shaped _, _, rfl, iteF ?_⟩
    refine ⟨_, rfl, _, _, _, _, _, rfl, TyOf.lst hqf2, Or.inl ⟨_, rfl, rfl⟩, kit_ll K, _, rfl, iteF ?_⟩
    refine ⟨_, rfl, qf, _, rfl, .inl (SqL.of hqf2), _, rfl, qd, _, rfl, .inl (SqL.of hqd), rfl, _, rfl, iteNS rfl ?_⟩
    have mlV : (ms.map iV).length = m + 1 := by rw [List.length_map]; exact ml
    refine ⟨_, rfl, qd, _, rfl, .inl (SqL.of hqd), _, rfl, by omega, by omega, for_range (n := ((ms.map iV).length : Int).toNat) (fun i σ H3 => ∃ v9, σ = [some (.ref a), v1, some (.ref t), v3, v4, some (.ref qo), some (.ref qh), some (.ref qf), some (.ref qd), v9] ∧ H3 = H2) ⟨_, rfl, rfl⟩ ?_ ?_⟩
    · rintro i σ H3 hi ⟨v9, rfl, rfl⟩
      rw [Int.toNat_natCast, mlV] at hi
      have e0 : (0 : Int) + (i : Int) = (i : Int) := Int.zero_add _
      rw [e0]
      refine ⟨_, rfl, _, rfl, qf, _, _, _, rfl, rfl, SqL.of hqf2, atI_nat (get_V (by omega)), _, rfl, _, rfl, iteF ?_⟩
      refine ⟨_, rfl, _, rfl, qf, _, _, _, rfl, rfl, SqL.of hqf2, atI_nat (get_V (by omega)), _, rfl, _, rfl, qd, _, _, _, rfl, rfl, SqL.of hqd, atI_nat (get_V (by omega)), rfl, _, rfl, iteNS rfl ?_⟩
      exact ⟨_, rfl, rfl⟩
    · rintro σ H3 ⟨v9, rfl, rfl⟩
      exact kk _
  case rest1 =>
    obtain ⟨a, t, p, qo, pe, pt, pk, c, m, es, ts, ks, od, rfl, bp, wm, hqo, pm, hr2, kk⟩ := h0
    have g := bp.w.g
    have mf := gr_few g
    have few := bp.few
    have hbd : ∀ e ∈ es, e.1 < m ∧ e.2 < m := fun e he => ⟨(g.w.ends e he).1, (g.w.ends e he).2.1⟩
    have ol : od.length = m := by rw [pm.length_eq, List.length_range]
    have pmI : (cI od).Perm (rI m) := pm.map _
    refine ⟨_, rfl, qo, _, rfl, .inl (SqL.of hqo), fun qh hqh => ?_⟩
    have s1 := same_new hqh (.lst (od.map iV))
    have hh1 : (upd H0 qh (.lst (od.map iV))) qh = some (.lst (od.map iV)) := upd_same
    generalize upd H0 qh (.lst (od.map iV)) = H1 at s1 hh1
    have fin : ∀ (qf : Addr) (ms : List Nat) (H2 : Hp), Same H1 H2 → H2 qf = some (.lst (ms.map iV)) → Fronts es od ms → restB D0 [some (.ref a), some (.int c), some (.ref t), some (.ref p), some (.int (m : Int)), some (.ref qo), some (.ref qh), some (.ref qf), none, none] H2 := fun qf ms H2 s2 h2 fr => ⟨a, t, qo, qh, qf, pe, pt, pk, _, _, _, m, es, ts, ks, od, ms, rfl, bp.mono (s1.trans s2), s2 _ _ (s1 _ _ hqo), s2 _ _ hh1, h2, fr, pm, kk⟩
    refine ⟨_, rfl, _, _, rfl, rfl, (by show (0 : Int) < 6; decide), rfl, _, rfl, ?_⟩
    refine ite2 (fun c2 => ?_) (fun c2 => ?_)
    · have eo := hr2 (.inl (V.int.inj (of_decide_eq_true c2)))
      subst eo
      refine ⟨_, rfl, p, m, es, ks, .non, rI m, rfl, wm.mono s1, hbd, by omega, .inl ⟨rfl, rfl⟩, fun z => absurd (List.Perm.refl _) z, fun od' e' _ q ms H2 s2 h2 fr => ?_⟩
      have : od' = List.range m := by
        have : cI (List.range m) = cI od' := e'
        exact (List.map_inj_right (fun x y h => by omega)).mp this.symm
      subst this
      exact fin q ms H2 s2 h2 fr
    · refine ⟨_, rfl, _, _, rfl, rfl, (by show (0 : Int) < 6; decide), rfl, _, rfl, ?_⟩
      refine ite2 (fun c3 => ?_) (fun c3 => ?_)
      · have eo := hr2 (.inr (V.int.inj (of_decide_eq_true c3)))
        subst eo
        refine ⟨_, rfl, p, m, es, ks, .non, rI m, rfl, wm.mono s1, hbd, by omega, .inl ⟨rfl, rfl⟩, fun z => absurd (List.Perm.refl _) z, fun od' e' _ q ms H2 s2 h2 fr => ?_⟩
        have : od' = List.range m := by
          have : cI (List.range m) = cI od' := e'
          exact (List.map_inj_right (fun x y h => by omega)).mp this.symm
        subst this
        exact fin q ms H2 s2 h2 fr
      · refine ⟨_, rfl, _, rfl, p, m, es, ks, .ref qh, cI od, rfl, wm.mono s1, hbd, by omega, .inr ⟨qh, rfl, by rw [cI_V]; exact hh1, by unfold cI; rw [List.length_map]; omega⟩, fun z => absurd pmI z, fun od' e' _ q ms H2 s2 h2 fr => ?_⟩
        have : od' = od := (List.map_inj_right (fun x y h => by omega)).mp e'.symm
        subst this
        exact fin q ms H2 s2 h2 fr
  refine ⟨_, rfl, a, 0, ns, rfl, hS, ?_⟩
  refine ⟨_, rfl, a, ns, rfl, hS, h63, fun t pe pt pk m es ts ks H1 s1 bp => ?_⟩
  have g := bp.w.g
  have few := bp.few
  have kl := bp.kl
  have mf := gr_few g
  obtain ⟨ht, ⟨_, ⟨xs, hpt, hR⟩, _⟩, _, _, _⟩ := id bp
  have hxm : xs.length = m := by rw [hR.1, g.w.len]
  have e0 : 0 < es.length := by
    cases es with
    | nil =>
      exfalso
      obtain ⟨rs, p, c⟩ := g.part
      have : rs.length = 0 ∨ 0 < rs.length := by omega
      rcases this with z | z
      · have m2 : m = 2 := by simpa [z] using c
        have := g.conn (fun x => x = 0) (fun e he => nomatch he) 0 1 (by omega) (by omega) rfl
        cases this
      · obtain ⟨d, hd⟩ := (p.cr _ (List.mem_of_getElem? (List.getElem?_eq_getElem z))).ne
        have := (p.cr _ (List.mem_of_getElem? (List.getElem?_eq_getElem z))).lt d hd
        cases this
    | cons e es => exact Nat.succ_pos _
  have m2 := g.two e0
  have hbd : ∀ e ∈ es, e.1 < m ∧ e.2 < m := fun e he => ⟨(g.w.ends e he).1, (g.w.ends e he).2.1⟩
  refine ⟨_, rfl, t, pe, pt, pk, m, es, ts, ks, rfl, bp, e0, fun p dx fs q1 us H2 s2 w1 w0 w2 w3 w4 => ?_⟩
  have wm : WebM PL PS WC H2 p m es ks := ⟨⟨⟨dx, fs, q1, us, w1, w2, w3, w4⟩, kl, few⟩, dx, fs, w1, w0⟩
  refine ⟨_, rfl, t, _, 1, _, rfl, rfl, SqT.of (s2 _ _ ht), at31, pt, xs, rfl, .inl (SqL.of (s2 _ _ hpt)), ?_⟩
  rw [hxm]
  refine ⟨_, rfl, a, ns, rfl, (s1.trans s2).seq hS, _, rfl, _, m, rfl, by omega, fun qo o H3 s3 nq hqo ol nd ob => ?_⟩
  have pm := perm_of ol nd ob
  refine ⟨_, rfl, _, _, rfl, rfl, (by show (0 : Int) < 6; decide), rfl, _, rfl, ?_⟩
  have wm3 := wm.mono s3
  have bp3 := (bp.mono s2).mono s3
  generalize cellD ns 0 = c
  refine ite2 (fun c1 => ?_) (fun c1 => ?_)
  · obtain ⟨w1', e1, hw1⟩ : ∃ n : Nat, c / 6 % 6 = (n : Int) ∧ n < 6 := ⟨(c / 6 % 6).toNat, by omega, by omega⟩
    obtain ⟨w2', e2, hw2⟩ : ∃ n : Nat, c / 36 % (m : Int) = (n : Int) ∧ n < m := by
      have h1 := Int.emod_nonneg (c / 36) (show (m : Int) ≠ 0 by omega)
      have h2 := Int.emod_lt_of_pos (c / 36) (show (0 : Int) < (m : Int) by omega)
      exact ⟨(c / 36 % (m : Int)).toNat, by omega, by omega⟩
    refine ⟨_, rfl, _, rfl, _, rfl, _, _, rfl, rfl, ⟨by decide, by decide⟩, _, _, rfl, rfl, (by show (0 : Int) < 6; decide), _, rfl, _, _, rfl, rfl, ⟨by decide, by decide⟩, _, rfl, _, _, rfl, rfl, (show (0 : Int) < (m : Int) by omega), qo, cI o, m, w1', w2', (show [V.ref qo, V.int (c / 6 % 6), V.int (c / 36 % (m : Int))] = _ by rw [e1, e2]), by rw [cI_V]; exact hqo, pm.map _, m2, by omega, hw2, hw1, fun q ns' H4 s4 h4 l4 np => ?_⟩
    exact ⟨p, m, es, ks, q, ns', rfl, wm3.mono s4, hbd, by omega, h4, l4, np, fun H' _ => kk _⟩
  have go : ((c % 6 = 2 ∨ c % 6 = 3)) ∨ ¬ ((c % 6 = 2 ∨ c % 6 = 3)) := Decidable.em _
  have fin2 : ∀ qr H4, Same H3 H4 → H4 qr = some (.lst ((List.range m).map iV)) → ∀ D : Ends, D.rt = Q → restA PL PS WC D [some (.ref a), some (.int c), some (.ref t), some (.ref p), some (.int (m : Int)), some (.ref qr), none, none, none, none] H4 := fun qr H4 s4 h4 D hD => ⟨a, t, p, qr, pe, pt, pk, c, m, es, ts, ks, List.range m, rfl, bp3.mono s4, wm3.mono s4, h4, List.Perm.refl _, fun _ => rfl, fun H' => by rw [hD]; exact kk _⟩
  refine ⟨_, rfl, _, _, rfl, rfl, (by show (0 : Int) < 6; decide), rfl, _, rfl, ?_⟩
  refine ite2 (fun c2 => ?_) (fun c2 => ?_)
  · exact ⟨_, rfl, m, rfl, by omega, fun qr hqr => fin2 qr _ (same_new hqr _) upd_same _ rfl⟩
  refine ⟨_, rfl, _, _, rfl, rfl, (by show (0 : Int) < 6; decide), rfl, _, rfl, ?_⟩
  refine ite2 (fun c3 => ?_) (fun c3 => ?_)
  · exact ⟨_, rfl, m, rfl, by omega, fun qr hqr => fin2 qr _ (same_new hqr _) upd_same _ rfl⟩
  refine ⟨a, t, p, qo, pe, pt, pk, c, m, es, ts, ks, o, rfl, bp3, wm3, hqo, pm, fun z => ?_, fun H' => kk _⟩
  rcases z with z | z
  · exact absurd (decide_eq_true (congrArg V.int z)) c2
  · exact absurd (decide_eq_true (congrArg V.int z)) c3
end
end K8

namespace K8
open PySem L2
theorem all_mk {l : PySem.W.OpenLaw} {w : World} {K : PySem.W.Frag} {h : Heap} {mg : Str → Option Value} {fa C_FloorError C_BadOrder C_Pull C_Push C_Web f_head f_leaving f_follower f_round_from f_rounds_of f_sides_of f_Tie___init f_ends_within f_order_of f_front_of f_fronts f_reached f_refuse_ends f_refuse_turns f_refuse_parted f_Web___init f_law_cell f_law_head f_law_behind f_law_round f_law_grown f_law_order f_law_renumbered f_law_built f_law_web f_law_whole f_law_spoiled f_law_refused f_law_due f_law : Addr} (X : K.In h) (G : h.Ns mainGlobals mg) (hfa : mg "law" = some (.ref fa))
    {od_head an_head od_leaving an_leaving od_follower an_follower od_round_from an_round_from od_rounds_of an_rounds_of od_sides_of an_sides_of od_Tie___init an_Tie___init od_ends_within an_ends_within od_order_of an_order_of od_front_of an_front_of od_fronts an_fronts od_reached an_reached od_refuse_ends an_refuse_ends od_refuse_turns an_refuse_turns od_refuse_parted an_refuse_parted od_Web___init an_Web___init od_law_cell an_law_cell od_law_head an_law_head od_law_behind an_law_behind od_law_round an_law_round od_law_grown an_law_grown od_law_order an_law_order od_law_renumbered an_law_renumbered od_law_built an_law_built od_law_web an_law_web od_law_whole an_law_whole od_law_spoiled an_law_spoiled od_law_refused an_law_refused od_law_due an_law_due od_law an_law : Option Addr} {sl_head sl_leaving sl_follower sl_round_from sl_rounds_of sl_sides_of sl_Tie___init sl_ends_within sl_order_of sl_front_of sl_fronts sl_reached sl_refuse_ends sl_refuse_turns sl_refuse_parted sl_Web___init sl_law_cell sl_law_head sl_law_behind sl_law_round sl_law_grown sl_law_order sl_law_renumbered sl_law_built sl_law_web sl_law_whole sl_law_spoiled sl_law_refused sl_law_due sl_law : Array (Option Value)} {oc_head kV_head dc_head pm_head cd_head ct_head oc_leaving kV_leaving dc_leaving pm_leaving cd_leaving ct_leaving oc_follower kV_follower dc_follower pm_follower cd_follower ct_follower oc_round_from kV_round_from dc_round_from pm_round_from cd_round_from ct_round_from oc_rounds_of kV_rounds_of dc_rounds_of pm_rounds_of cd_rounds_of ct_rounds_of oc_sides_of kV_sides_of dc_sides_of pm_sides_of cd_sides_of ct_sides_of oc_Tie___init kV_Tie___init dc_Tie___init pm_Tie___init cd_Tie___init ct_Tie___init oc_ends_within kV_ends_within dc_ends_within pm_ends_within cd_ends_within ct_ends_within oc_order_of kV_order_of dc_order_of pm_order_of cd_order_of ct_order_of oc_front_of kV_front_of dc_front_of pm_front_of cd_front_of ct_front_of oc_fronts kV_fronts dc_fronts pm_fronts cd_fronts ct_fronts oc_reached kV_reached dc_reached pm_reached cd_reached ct_reached oc_refuse_ends kV_refuse_ends dc_refuse_ends pm_refuse_ends cd_refuse_ends ct_refuse_ends oc_refuse_turns kV_refuse_turns dc_refuse_turns pm_refuse_turns cd_refuse_turns ct_refuse_turns oc_refuse_parted kV_refuse_parted dc_refuse_parted pm_refuse_parted cd_refuse_parted ct_refuse_parted oc_Web___init kV_Web___init dc_Web___init pm_Web___init cd_Web___init ct_Web___init oc_law_cell kV_law_cell dc_law_cell pm_law_cell cd_law_cell ct_law_cell oc_law_head kV_law_head dc_law_head pm_law_head cd_law_head ct_law_head oc_law_behind kV_law_behind dc_law_behind pm_law_behind cd_law_behind ct_law_behind oc_law_round kV_law_round dc_law_round pm_law_round cd_law_round ct_law_round oc_law_grown kV_law_grown dc_law_grown pm_law_grown cd_law_grown ct_law_grown oc_law_order kV_law_order dc_law_order pm_law_order cd_law_order ct_law_order oc_law_renumbered kV_law_renumbered dc_law_renumbered pm_law_renumbered cd_law_renumbered ct_law_renumbered oc_law_built kV_law_built dc_law_built pm_law_built cd_law_built ct_law_built oc_law_web kV_law_web dc_law_web pm_law_web cd_law_web ct_law_web oc_law_whole kV_law_whole dc_law_whole pm_law_whole cd_law_whole ct_law_whole oc_law_spoiled kV_law_spoiled dc_law_spoiled pm_law_spoiled cd_law_spoiled ct_law_spoiled oc_law_refused kV_law_refused dc_law_refused pm_law_refused cd_law_refused ct_law_refused oc_law_due kV_law_due dc_law_due pm_law_due cd_law_due ct_law_due oc_law kV_law dc_law pm_law cd_law ct_law : Value}
    {d_fronts : Addr} {dC_fronts : Value} {dD_fronts : Option Addr} {dN_fronts : Nat} {dS_fronts : Array (Option Value)}
    (aC_FloorError : PySem.W.nsIn K mainGlobals "FloorError" = some (some (.ref C_FloorError)))
    (aC_BadOrder : PySem.W.nsIn K mainGlobals "BadOrder" = some (some (.ref C_BadOrder)))
    (aC_Pull : PySem.W.nsIn K mainGlobals "Pull" = some (some (.ref C_Pull)))
    (aC_Push : PySem.W.nsIn K mainGlobals "Push" = some (some (.ref C_Push)))
    (aC_Web : PySem.W.nsIn K mainGlobals "Web" = some (some (.ref C_Web)))
    (me_Pull_init : PySem.W.findIn K (.ref C_Pull) "__init__" = some (some (.ref f_Tie___init)))
    (me_Push_init : PySem.W.findIn K (.ref C_Push) "__init__" = some (some (.ref f_Tie___init)))
    (me_Web_init : PySem.W.findIn K (.ref C_Web) "__init__" = some (some (.ref f_Web___init)))
    (a_head : PySem.W.nsIn K mainGlobals "head" = some (some (.ref f_head)))
    (l_head : K.lookup f_head = some ⟨oc_head, od_head, .func (PySem.W.fnOf "head" "head" (defArgs s_head) (defBody s_head) (defScope s_head) .none kV_head dc_head pm_head an_head cd_head ct_head), sl_head⟩)
    (c_head : PySem.W.codeIn K cd_head "head" = true)
    (k_head : PySem.W.keepIn K (.ref f_head) = true)
    (a_leaving : PySem.W.nsIn K mainGlobals "leaving" = some (some (.ref f_leaving)))
    (l_leaving : K.lookup f_leaving = some ⟨oc_leaving, od_leaving, .func (PySem.W.fnOf "leaving" "leaving" (defArgs s_leaving) (defBody s_leaving) (defScope s_leaving) .none kV_leaving dc_leaving pm_leaving an_leaving cd_leaving ct_leaving), sl_leaving⟩)
    (c_leaving : PySem.W.codeIn K cd_leaving "leaving" = true)
    (k_leaving : PySem.W.keepIn K (.ref f_leaving) = true)
    (a_follower : PySem.W.nsIn K mainGlobals "follower" = some (some (.ref f_follower)))
    (l_follower : K.lookup f_follower = some ⟨oc_follower, od_follower, .func (PySem.W.fnOf "follower" "follower" (defArgs s_follower) (defBody s_follower) (defScope s_follower) .none kV_follower dc_follower pm_follower an_follower cd_follower ct_follower), sl_follower⟩)
    (c_follower : PySem.W.codeIn K cd_follower "follower" = true)
    (k_follower : PySem.W.keepIn K (.ref f_follower) = true)
    (a_round_from : PySem.W.nsIn K mainGlobals "round_from" = some (some (.ref f_round_from)))
    (l_round_from : K.lookup f_round_from = some ⟨oc_round_from, od_round_from, .func (PySem.W.fnOf "round_from" "round_from" (defArgs s_round_from) (defBody s_round_from) (defScope s_round_from) .none kV_round_from dc_round_from pm_round_from an_round_from cd_round_from ct_round_from), sl_round_from⟩)
    (c_round_from : PySem.W.codeIn K cd_round_from "round_from" = true)
    (k_round_from : PySem.W.keepIn K (.ref f_round_from) = true)
    (a_rounds_of : PySem.W.nsIn K mainGlobals "rounds_of" = some (some (.ref f_rounds_of)))
    (l_rounds_of : K.lookup f_rounds_of = some ⟨oc_rounds_of, od_rounds_of, .func (PySem.W.fnOf "rounds_of" "rounds_of" (defArgs s_rounds_of) (defBody s_rounds_of) (defScope s_rounds_of) .none kV_rounds_of dc_rounds_of pm_rounds_of an_rounds_of cd_rounds_of ct_rounds_of), sl_rounds_of⟩)
    (c_rounds_of : PySem.W.codeIn K cd_rounds_of "rounds_of" = true)
    (k_rounds_of : PySem.W.keepIn K (.ref f_rounds_of) = true)
    (a_sides_of : PySem.W.nsIn K mainGlobals "sides_of" = some (some (.ref f_sides_of)))
    (l_sides_of : K.lookup f_sides_of = some ⟨oc_sides_of, od_sides_of, .func (PySem.W.fnOf "sides_of" "sides_of" (defArgs s_sides_of) (defBody s_sides_of) (defScope s_sides_of) .none kV_sides_of dc_sides_of pm_sides_of an_sides_of cd_sides_of ct_sides_of), sl_sides_of⟩)
    (c_sides_of : PySem.W.codeIn K cd_sides_of "sides_of" = true)
    (k_sides_of : PySem.W.keepIn K (.ref f_sides_of) = true)
    (l_Tie___init : K.lookup f_Tie___init = some ⟨oc_Tie___init, od_Tie___init, .func (PySem.W.fnOf "__init__" "Tie.__init__" (defArgs s_Tie___init) (defBody s_Tie___init) (defScope s_Tie___init) .none kV_Tie___init dc_Tie___init pm_Tie___init an_Tie___init cd_Tie___init ct_Tie___init), sl_Tie___init⟩)
    (c_Tie___init : PySem.W.codeIn K cd_Tie___init "Tie.__init__" = true)
    (k_Tie___init : PySem.W.keepIn K (.ref f_Tie___init) = true)
    (i_Tie___init : PySem.W.isFn K (.ref f_Tie___init) = true)
    (a_ends_within : PySem.W.nsIn K mainGlobals "ends_within" = some (some (.ref f_ends_within)))
    (l_ends_within : K.lookup f_ends_within = some ⟨oc_ends_within, od_ends_within, .func (PySem.W.fnOf "ends_within" "ends_within" (defArgs s_ends_within) (defBody s_ends_within) (defScope s_ends_within) .none kV_ends_within dc_ends_within pm_ends_within an_ends_within cd_ends_within ct_ends_within), sl_ends_within⟩)
    (c_ends_within : PySem.W.codeIn K cd_ends_within "ends_within" = true)
    (k_ends_within : PySem.W.keepIn K (.ref f_ends_within) = true)
    (a_order_of : PySem.W.nsIn K mainGlobals "order_of" = some (some (.ref f_order_of)))
    (l_order_of : K.lookup f_order_of = some ⟨oc_order_of, od_order_of, .func (PySem.W.fnOf "order_of" "order_of" (defArgs s_order_of) (defBody s_order_of) (defScope s_order_of) .none kV_order_of dc_order_of pm_order_of an_order_of cd_order_of ct_order_of), sl_order_of⟩)
    (c_order_of : PySem.W.codeIn K cd_order_of "order_of" = true)
    (k_order_of : PySem.W.keepIn K (.ref f_order_of) = true)
    (a_front_of : PySem.W.nsIn K mainGlobals "front_of" = some (some (.ref f_front_of)))
    (l_front_of : K.lookup f_front_of = some ⟨oc_front_of, od_front_of, .func (PySem.W.fnOf "front_of" "front_of" (defArgs s_front_of) (defBody s_front_of) (defScope s_front_of) .none kV_front_of dc_front_of pm_front_of an_front_of cd_front_of ct_front_of), sl_front_of⟩)
    (c_front_of : PySem.W.codeIn K cd_front_of "front_of" = true)
    (k_front_of : PySem.W.keepIn K (.ref f_front_of) = true)
    (a_fronts : PySem.W.nsIn K mainGlobals "fronts" = some (some (.ref f_fronts)))
    (l_fronts : K.lookup f_fronts = some ⟨oc_fronts, od_fronts, .func (PySem.W.fnOf "fronts" "fronts" (defArgs s_fronts) (defBody s_fronts) (defScope s_fronts) (.ref d_fronts) kV_fronts dc_fronts pm_fronts an_fronts cd_fronts ct_fronts), sl_fronts⟩)
    (ld_fronts : K.lookup d_fronts = some ⟨dC_fronts, dD_fronts, .seq #[.none] dN_fronts, dS_fronts⟩)
    (c_fronts : PySem.W.codeIn K cd_fronts "fronts" = true)
    (k_fronts : PySem.W.keepIn K (.ref f_fronts) = true)
    (a_reached : PySem.W.nsIn K mainGlobals "reached" = some (some (.ref f_reached)))
    (l_reached : K.lookup f_reached = some ⟨oc_reached, od_reached, .func (PySem.W.fnOf "reached" "reached" (defArgs s_reached) (defBody s_reached) (defScope s_reached) .none kV_reached dc_reached pm_reached an_reached cd_reached ct_reached), sl_reached⟩)
    (c_reached : PySem.W.codeIn K cd_reached "reached" = true)
    (k_reached : PySem.W.keepIn K (.ref f_reached) = true)
    (a_refuse_ends : PySem.W.nsIn K mainGlobals "refuse_ends" = some (some (.ref f_refuse_ends)))
    (l_refuse_ends : K.lookup f_refuse_ends = some ⟨oc_refuse_ends, od_refuse_ends, .func (PySem.W.fnOf "refuse_ends" "refuse_ends" (defArgs s_refuse_ends) (defBody s_refuse_ends) (defScope s_refuse_ends) .none kV_refuse_ends dc_refuse_ends pm_refuse_ends an_refuse_ends cd_refuse_ends ct_refuse_ends), sl_refuse_ends⟩)
    (c_refuse_ends : PySem.W.codeIn K cd_refuse_ends "refuse_ends" = true)
    (k_refuse_ends : PySem.W.keepIn K (.ref f_refuse_ends) = true)
    (a_refuse_turns : PySem.W.nsIn K mainGlobals "refuse_turns" = some (some (.ref f_refuse_turns)))
    (l_refuse_turns : K.lookup f_refuse_turns = some ⟨oc_refuse_turns, od_refuse_turns, .func (PySem.W.fnOf "refuse_turns" "refuse_turns" (defArgs s_refuse_turns) (defBody s_refuse_turns) (defScope s_refuse_turns) .none kV_refuse_turns dc_refuse_turns pm_refuse_turns an_refuse_turns cd_refuse_turns ct_refuse_turns), sl_refuse_turns⟩)
    (c_refuse_turns : PySem.W.codeIn K cd_refuse_turns "refuse_turns" = true)
    (k_refuse_turns : PySem.W.keepIn K (.ref f_refuse_turns) = true)
    (a_refuse_parted : PySem.W.nsIn K mainGlobals "refuse_parted" = some (some (.ref f_refuse_parted)))
    (l_refuse_parted : K.lookup f_refuse_parted = some ⟨oc_refuse_parted, od_refuse_parted, .func (PySem.W.fnOf "refuse_parted" "refuse_parted" (defArgs s_refuse_parted) (defBody s_refuse_parted) (defScope s_refuse_parted) .none kV_refuse_parted dc_refuse_parted pm_refuse_parted an_refuse_parted cd_refuse_parted ct_refuse_parted), sl_refuse_parted⟩)
    (c_refuse_parted : PySem.W.codeIn K cd_refuse_parted "refuse_parted" = true)
    (k_refuse_parted : PySem.W.keepIn K (.ref f_refuse_parted) = true)
    (l_Web___init : K.lookup f_Web___init = some ⟨oc_Web___init, od_Web___init, .func (PySem.W.fnOf "__init__" "Web.__init__" (defArgs s_Web___init) (defBody s_Web___init) (defScope s_Web___init) .none kV_Web___init dc_Web___init pm_Web___init an_Web___init cd_Web___init ct_Web___init), sl_Web___init⟩)
    (c_Web___init : PySem.W.codeIn K cd_Web___init "Web.__init__" = true)
    (k_Web___init : PySem.W.keepIn K (.ref f_Web___init) = true)
    (i_Web___init : PySem.W.isFn K (.ref f_Web___init) = true)
    (a_law_cell : PySem.W.nsIn K mainGlobals "_law_cell" = some (some (.ref f_law_cell)))
    (l_law_cell : K.lookup f_law_cell = some ⟨oc_law_cell, od_law_cell, .func (PySem.W.fnOf "_law_cell" "_law_cell" (defArgs s_law_cell) (defBody s_law_cell) (defScope s_law_cell) .none kV_law_cell dc_law_cell pm_law_cell an_law_cell cd_law_cell ct_law_cell), sl_law_cell⟩)
    (c_law_cell : PySem.W.codeIn K cd_law_cell "_law_cell" = true)
    (k_law_cell : PySem.W.keepIn K (.ref f_law_cell) = true)
    (a_law_head : PySem.W.nsIn K mainGlobals "_law_head" = some (some (.ref f_law_head)))
    (l_law_head : K.lookup f_law_head = some ⟨oc_law_head, od_law_head, .func (PySem.W.fnOf "_law_head" "_law_head" (defArgs s_law_head) (defBody s_law_head) (defScope s_law_head) .none kV_law_head dc_law_head pm_law_head an_law_head cd_law_head ct_law_head), sl_law_head⟩)
    (c_law_head : PySem.W.codeIn K cd_law_head "_law_head" = true)
    (k_law_head : PySem.W.keepIn K (.ref f_law_head) = true)
    (a_law_behind : PySem.W.nsIn K mainGlobals "_law_behind" = some (some (.ref f_law_behind)))
    (l_law_behind : K.lookup f_law_behind = some ⟨oc_law_behind, od_law_behind, .func (PySem.W.fnOf "_law_behind" "_law_behind" (defArgs s_law_behind) (defBody s_law_behind) (defScope s_law_behind) .none kV_law_behind dc_law_behind pm_law_behind an_law_behind cd_law_behind ct_law_behind), sl_law_behind⟩)
    (c_law_behind : PySem.W.codeIn K cd_law_behind "_law_behind" = true)
    (k_law_behind : PySem.W.keepIn K (.ref f_law_behind) = true)
    (a_law_round : PySem.W.nsIn K mainGlobals "_law_round" = some (some (.ref f_law_round)))
    (l_law_round : K.lookup f_law_round = some ⟨oc_law_round, od_law_round, .func (PySem.W.fnOf "_law_round" "_law_round" (defArgs s_law_round) (defBody s_law_round) (defScope s_law_round) .none kV_law_round dc_law_round pm_law_round an_law_round cd_law_round ct_law_round), sl_law_round⟩)
    (c_law_round : PySem.W.codeIn K cd_law_round "_law_round" = true)
    (k_law_round : PySem.W.keepIn K (.ref f_law_round) = true)
    (a_law_grown : PySem.W.nsIn K mainGlobals "_law_grown" = some (some (.ref f_law_grown)))
    (l_law_grown : K.lookup f_law_grown = some ⟨oc_law_grown, od_law_grown, .func (PySem.W.fnOf "_law_grown" "_law_grown" (defArgs s_law_grown) (defBody s_law_grown) (defScope s_law_grown) .none kV_law_grown dc_law_grown pm_law_grown an_law_grown cd_law_grown ct_law_grown), sl_law_grown⟩)
    (c_law_grown : PySem.W.codeIn K cd_law_grown "_law_grown" = true)
    (k_law_grown : PySem.W.keepIn K (.ref f_law_grown) = true)
    (a_law_order : PySem.W.nsIn K mainGlobals "_law_order" = some (some (.ref f_law_order)))
    (l_law_order : K.lookup f_law_order = some ⟨oc_law_order, od_law_order, .func (PySem.W.fnOf "_law_order" "_law_order" (defArgs s_law_order) (defBody s_law_order) (defScope s_law_order) .none kV_law_order dc_law_order pm_law_order an_law_order cd_law_order ct_law_order), sl_law_order⟩)
    (c_law_order : PySem.W.codeIn K cd_law_order "_law_order" = true)
    (k_law_order : PySem.W.keepIn K (.ref f_law_order) = true)
    (a_law_renumbered : PySem.W.nsIn K mainGlobals "_law_renumbered" = some (some (.ref f_law_renumbered)))
    (l_law_renumbered : K.lookup f_law_renumbered = some ⟨oc_law_renumbered, od_law_renumbered, .func (PySem.W.fnOf "_law_renumbered" "_law_renumbered" (defArgs s_law_renumbered) (defBody s_law_renumbered) (defScope s_law_renumbered) .none kV_law_renumbered dc_law_renumbered pm_law_renumbered an_law_renumbered cd_law_renumbered ct_law_renumbered), sl_law_renumbered⟩)
    (c_law_renumbered : PySem.W.codeIn K cd_law_renumbered "_law_renumbered" = true)
    (k_law_renumbered : PySem.W.keepIn K (.ref f_law_renumbered) = true)
    (a_law_built : PySem.W.nsIn K mainGlobals "_law_built" = some (some (.ref f_law_built)))
    (l_law_built : K.lookup f_law_built = some ⟨oc_law_built, od_law_built, .func (PySem.W.fnOf "_law_built" "_law_built" (defArgs s_law_built) (defBody s_law_built) (defScope s_law_built) .none kV_law_built dc_law_built pm_law_built an_law_built cd_law_built ct_law_built), sl_law_built⟩)
    (c_law_built : PySem.W.codeIn K cd_law_built "_law_built" = true)
    (k_law_built : PySem.W.keepIn K (.ref f_law_built) = true)
    (a_law_web : PySem.W.nsIn K mainGlobals "_law_web" = some (some (.ref f_law_web)))
    (l_law_web : K.lookup f_law_web = some ⟨oc_law_web, od_law_web, .func (PySem.W.fnOf "_law_web" "_law_web" (defArgs s_law_web) (defBody s_law_web) (defScope s_law_web) .none kV_law_web dc_law_web pm_law_web an_law_web cd_law_web ct_law_web), sl_law_web⟩)
    (c_law_web : PySem.W.codeIn K cd_law_web "_law_web" = true)
    (k_law_web : PySem.W.keepIn K (.ref f_law_web) = true)
    (a_law_whole : PySem.W.nsIn K mainGlobals "_law_whole" = some (some (.ref f_law_whole)))
    (l_law_whole : K.lookup f_law_whole = some ⟨oc_law_whole, od_law_whole, .func (PySem.W.fnOf "_law_whole" "_law_whole" (defArgs s_law_whole) (defBody s_law_whole) (defScope s_law_whole) .none kV_law_whole dc_law_whole pm_law_whole an_law_whole cd_law_whole ct_law_whole), sl_law_whole⟩)
    (c_law_whole : PySem.W.codeIn K cd_law_whole "_law_whole" = true)
    (k_law_whole : PySem.W.keepIn K (.ref f_law_whole) = true)
    (a_law_spoiled : PySem.W.nsIn K mainGlobals "_law_spoiled" = some (some (.ref f_law_spoiled)))
    (l_law_spoiled : K.lookup f_law_spoiled = some ⟨oc_law_spoiled, od_law_spoiled, .func (PySem.W.fnOf "_law_spoiled" "_law_spoiled" (defArgs s_law_spoiled) (defBody s_law_spoiled) (defScope s_law_spoiled) .none kV_law_spoiled dc_law_spoiled pm_law_spoiled an_law_spoiled cd_law_spoiled ct_law_spoiled), sl_law_spoiled⟩)
    (c_law_spoiled : PySem.W.codeIn K cd_law_spoiled "_law_spoiled" = true)
    (k_law_spoiled : PySem.W.keepIn K (.ref f_law_spoiled) = true)
    (a_law_refused : PySem.W.nsIn K mainGlobals "_law_refused" = some (some (.ref f_law_refused)))
    (l_law_refused : K.lookup f_law_refused = some ⟨oc_law_refused, od_law_refused, .func (PySem.W.fnOf "_law_refused" "_law_refused" (defArgs s_law_refused) (defBody s_law_refused) (defScope s_law_refused) .none kV_law_refused dc_law_refused pm_law_refused an_law_refused cd_law_refused ct_law_refused), sl_law_refused⟩)
    (c_law_refused : PySem.W.codeIn K cd_law_refused "_law_refused" = true)
    (k_law_refused : PySem.W.keepIn K (.ref f_law_refused) = true)
    (a_law_due : PySem.W.nsIn K mainGlobals "_law_due" = some (some (.ref f_law_due)))
    (l_law_due : K.lookup f_law_due = some ⟨oc_law_due, od_law_due, .func (PySem.W.fnOf "_law_due" "_law_due" (defArgs s_law_due) (defBody s_law_due) (defScope s_law_due) .none kV_law_due dc_law_due pm_law_due an_law_due cd_law_due ct_law_due), sl_law_due⟩)
    (c_law_due : PySem.W.codeIn K cd_law_due "_law_due" = true)
    (k_law_due : PySem.W.keepIn K (.ref f_law_due) = true)
    (a_law : PySem.W.nsIn K mainGlobals "law" = some (some (.ref f_law)))
    (l_law : K.lookup f_law = some ⟨oc_law, od_law, .func (PySem.W.fnOf "law" "law" (defArgs s_law) (defBody s_law) (defScope s_law) .none kV_law dc_law pm_law an_law cd_law ct_law), sl_law⟩)
    (c_law : PySem.W.codeIn K cd_law "law" = true)
    (k_law : PySem.W.keepIn K (.ref f_law) = true)
    (xc_FloorError : PySem.W.excIn K C_FloorError veM "ValueError.__new__" = true)
    (xc_BadOrder : PySem.W.excIn K C_BadOrder veM "ValueError.__new__" = true)
    (mr_BadOrder_FloorError : PySem.W.mroIn K C_BadOrder (.ref C_FloorError) = some true)
    (pg_Pull : PySem.W.plainGet K C_Pull Str.empty = true)
    (hd_Pull : PySem.W.hasDictIn K C_Pull = true)
    (po_Pull : PySem.W.plainOver K C_Pull = true)
    (sa_Pull : PySem.W.findIn K (.ref C_Pull) "__setattr__" = some (some (.builtin "object.__setattr__")))
    (mk_Pull : PySem.W.makesIn K C_Pull = true)
    (kc_Pull : PySem.W.keepIn K (.ref C_Pull) = true)
    (na_Pull_one : PySem.W.findIn K (.ref C_Pull) "one" = some none)
    (na_Pull_two : PySem.W.findIn K (.ref C_Pull) "two" = some none)
    (na_Pull_strength : PySem.W.findIn K (.ref C_Pull) "strength" = some none)
    (pg_Push : PySem.W.plainGet K C_Push Str.empty = true)
    (hd_Push : PySem.W.hasDictIn K C_Push = true)
    (po_Push : PySem.W.plainOver K C_Push = true)
    (sa_Push : PySem.W.findIn K (.ref C_Push) "__setattr__" = some (some (.builtin "object.__setattr__")))
    (mk_Push : PySem.W.makesIn K C_Push = true)
    (kc_Push : PySem.W.keepIn K (.ref C_Push) = true)
    (na_Push_one : PySem.W.findIn K (.ref C_Push) "one" = some none)
    (na_Push_two : PySem.W.findIn K (.ref C_Push) "two" = some none)
    (na_Push_strength : PySem.W.findIn K (.ref C_Push) "strength" = some none)
    (pg_Web : PySem.W.plainGet K C_Web Str.empty = true)
    (hd_Web : PySem.W.hasDictIn K C_Web = true)
    (po_Web : PySem.W.plainOver K C_Web = true)
    (sa_Web : PySem.W.findIn K (.ref C_Web) "__setattr__" = some (some (.builtin "object.__setattr__")))
    (mk_Web : PySem.W.makesIn K C_Web = true)
    (kc_Web : PySem.W.keepIn K (.ref C_Web) = true)
    (na_Web_many : PySem.W.findIn K (.ref C_Web) "many" = some none)
    (na_Web_ties : PySem.W.findIn K (.ref C_Web) "ties" = some none)
    (na_Web_turns : PySem.W.findIn K (.ref C_Web) "turns" = some none)
    (na_Web_rounds : PySem.W.findIn K (.ref C_Web) "rounds" = some none)
    (na_Web_sides : PySem.W.findIn K (.ref C_Web) "sides" = some none)
    (z_len : PySem.W.nsIn K mainGlobals "len" = some none)
    (z_int : PySem.W.nsIn K mainGlobals "int" = some none)
    (z_bool : PySem.W.nsIn K mainGlobals "bool" = some none)
    (z_list : PySem.W.nsIn K mainGlobals "list" = some none)
    (z_tuple : PySem.W.nsIn K mainGlobals "tuple" = some none)
    (z_range : PySem.W.nsIn K mainGlobals "range" = some none)
    (z_enumerate : PySem.W.nsIn K mainGlobals "enumerate" = some none)
    (z_isinstance : PySem.W.nsIn K mainGlobals "isinstance" = some none)
    (z_min : PySem.W.nsIn K mainGlobals "min" = some none)
    (z_sum : PySem.W.nsIn K mainGlobals "sum" = some none)
    (z_sorted : PySem.W.nsIn K mainGlobals "sorted" = some none)
    (z_max : PySem.W.nsIn K mainGlobals "max" = some none)
    : ∃ fd : FuncData, (∀ (s : Shared) (v : Value), BindsTo s fd ⟨[v], []⟩ [("script", v)]) ∧ ∀ base : Heap, K.In base → base.Ns mainGlobals mg → FnOk l.prog w K mg base CX0 8 fa fd ["script"] (spLaw K) := by
  have e := hfa.symm.trans (PySem.W.mg_of X G a_law)
  cases e
  have F_head := fun_mk (st := s_head) l_head c_head k_head
  have b_head := F_head.binds (ps := ["ties", "dart"]) fun _ _ _ _ _ _ us hl => by obtain ⟨x0, x1, rfl⟩ := len_2 hl; rfl
  have F_leaving := fun_mk (st := s_leaving) l_leaving c_leaving k_leaving
  have b_leaving := F_leaving.binds (ps := ["ties", "number", "place"]) fun _ _ _ _ _ _ us hl => by obtain ⟨x0, x1, x2, rfl⟩ := len_3 hl; rfl
  have F_follower := fun_mk (st := s_follower) l_follower c_follower k_follower
  have b_follower := F_follower.binds (ps := ["ties", "turns", "dart"]) fun _ _ _ _ _ _ us hl => by obtain ⟨x0, x1, x2, rfl⟩ := len_3 hl; rfl
  have F_round_from := fun_mk (st := s_round_from) l_round_from c_round_from k_round_from
  have b_round_from := F_round_from.binds (ps := ["ties", "turns", "first"]) fun _ _ _ _ _ _ us hl => by obtain ⟨x0, x1, x2, rfl⟩ := len_3 hl; rfl
  have F_rounds_of := fun_mk (st := s_rounds_of) l_rounds_of c_rounds_of k_rounds_of
  have b_rounds_of := F_rounds_of.binds (ps := ["ties", "turns"]) fun _ _ _ _ _ _ us hl => by obtain ⟨x0, x1, rfl⟩ := len_2 hl; rfl
  have F_sides_of := fun_mk (st := s_sides_of) l_sides_of c_sides_of k_sides_of
  have b_sides_of := F_sides_of.binds (ps := ["ties", "rounds"]) fun _ _ _ _ _ _ us hl => by obtain ⟨x0, x1, rfl⟩ := len_2 hl; rfl
  have F_Tie___init := fun_mk (st := s_Tie___init) l_Tie___init c_Tie___init k_Tie___init
  have b_Tie___init := F_Tie___init.binds (ps := ["self", "one", "two", "strength"]) fun _ _ _ _ _ _ us hl => by obtain ⟨x0, x1, x2, x3, rfl⟩ := len_4 hl; rfl
  have F_ends_within := fun_mk (st := s_ends_within) l_ends_within c_ends_within k_ends_within
  have b_ends_within := F_ends_within.binds (ps := ["tie", "patch"]) fun _ _ _ _ _ _ us hl => by obtain ⟨x0, x1, rfl⟩ := len_2 hl; rfl
  have F_order_of := fun_mk (st := s_order_of) l_order_of c_order_of k_order_of
  have b_order_of := F_order_of.binds (ps := ["web", "order"]) fun _ _ _ _ _ _ us hl => by obtain ⟨x0, x1, rfl⟩ := len_2 hl; rfl
  have F_front_of := fun_mk (st := s_front_of) l_front_of c_front_of k_front_of
  have b_front_of := F_front_of.binds (ps := ["web", "behind"]) fun _ _ _ _ _ _ us hl => by obtain ⟨x0, x1, rfl⟩ := len_2 hl; rfl
  have F_fronts := funD_mk (st := s_fronts) l_fronts c_fronts k_fronts ld_fronts rfl
  have b_fronts := F_fronts.binds (ps := ["web", "order"]) (ds := []) fun _ _ _ _ _ _ _ us hl => match us, hl with | [_, _], _ => ⟨_, rfl, rfl⟩
  have b1_fronts := F_fronts.binds (ps := ["web", "order"]) (ds := [.none]) fun _ _ _ _ _ _ _ us hl => by
    have h1 : us.length = 1 := by simpa using hl
    match us, h1 with | [_], _ => exact ⟨_, rfl, rfl⟩
  have F_reached := fun_mk (st := s_reached) l_reached c_reached k_reached
  have b_reached := F_reached.binds (ps := ["start", "pairs"]) fun _ _ _ _ _ _ us hl => by obtain ⟨x0, x1, rfl⟩ := len_2 hl; rfl
  have F_refuse_ends := fun_mk (st := s_refuse_ends) l_refuse_ends c_refuse_ends k_refuse_ends
  have b_refuse_ends := F_refuse_ends.binds (ps := ["many", "ties"]) fun _ _ _ _ _ _ us hl => by obtain ⟨x0, x1, rfl⟩ := len_2 hl; rfl
  have F_refuse_turns := fun_mk (st := s_refuse_turns) l_refuse_turns c_refuse_turns k_refuse_turns
  have b_refuse_turns := F_refuse_turns.binds (ps := ["many", "ties", "turns"]) fun _ _ _ _ _ _ us hl => by obtain ⟨x0, x1, x2, rfl⟩ := len_3 hl; rfl
  have F_refuse_parted := fun_mk (st := s_refuse_parted) l_refuse_parted c_refuse_parted k_refuse_parted
  have b_refuse_parted := F_refuse_parted.binds (ps := ["many", "ties"]) fun _ _ _ _ _ _ us hl => by obtain ⟨x0, x1, rfl⟩ := len_2 hl; rfl
  have F_Web___init := fun_mk (st := s_Web___init) l_Web___init c_Web___init k_Web___init
  have b_Web___init := F_Web___init.binds (ps := ["self", "many", "ties", "turns"]) fun _ _ _ _ _ _ us hl => by obtain ⟨x0, x1, x2, x3, rfl⟩ := len_4 hl; rfl
  have F_law_cell := fun_mk (st := s_law_cell) l_law_cell c_law_cell k_law_cell
  have b_law_cell := F_law_cell.binds (ps := ["script", "k"]) fun _ _ _ _ _ _ us hl => by obtain ⟨x0, x1, rfl⟩ := len_2 hl; rfl
  have F_law_head := fun_mk (st := s_law_head) l_law_head c_law_head k_law_head
  have b_law_head := F_law_head.binds (ps := ["ends", "dart"]) fun _ _ _ _ _ _ us hl => by obtain ⟨x0, x1, rfl⟩ := len_2 hl; rfl
  have F_law_behind := fun_mk (st := s_law_behind) l_law_behind c_law_behind k_law_behind
  have b_law_behind := F_law_behind.binds (ps := ["ends", "turns", "dart"]) fun _ _ _ _ _ _ us hl => by obtain ⟨x0, x1, x2, rfl⟩ := len_3 hl; rfl
  have F_law_round := fun_mk (st := s_law_round) l_law_round c_law_round k_law_round
  have b_law_round := F_law_round.binds (ps := ["ends", "turns", "dart"]) fun _ _ _ _ _ _ us hl => by obtain ⟨x0, x1, x2, rfl⟩ := len_3 hl; rfl
  have F_law_grown := fun_mk (st := s_law_grown) l_law_grown c_law_grown k_law_grown
  have b_law_grown := F_law_grown.binds (ps := ["cells"]) fun _ _ _ _ _ _ us hl => by obtain ⟨x0, rfl⟩ := len_1 hl; rfl
  have F_law_order := fun_mk (st := s_law_order) l_law_order c_law_order k_law_order
  have b_law_order := F_law_order.binds (ps := ["cell", "many"]) fun _ _ _ _ _ _ us hl => by obtain ⟨x0, x1, rfl⟩ := len_2 hl; rfl
  have F_law_renumbered := fun_mk (st := s_law_renumbered) l_law_renumbered c_law_renumbered k_law_renumbered
  have b_law_renumbered := F_law_renumbered.binds (ps := ["grown", "cell"]) fun _ _ _ _ _ _ us hl => by obtain ⟨x0, x1, rfl⟩ := len_2 hl; rfl
  have F_law_built := fun_mk (st := s_law_built) l_law_built c_law_built k_law_built
  have b_law_built := F_law_built.binds (ps := ["script", "first", "most"]) fun _ _ _ _ _ _ us hl => by obtain ⟨x0, x1, x2, rfl⟩ := len_3 hl; rfl
  have F_law_web := fun_mk (st := s_law_web) l_law_web c_law_web k_law_web
  have b_law_web := F_law_web.binds (ps := ["built"]) fun _ _ _ _ _ _ us hl => by obtain ⟨x0, rfl⟩ := len_1 hl; rfl
  have F_law_whole := fun_mk (st := s_law_whole) l_law_whole c_law_whole k_law_whole
  have b_law_whole := F_law_whole.binds (ps := ["found"]) fun _ _ _ _ _ _ us hl => by obtain ⟨x0, rfl⟩ := len_1 hl; rfl
  have F_law_spoiled := fun_mk (st := s_law_spoiled) l_law_spoiled c_law_spoiled k_law_spoiled
  have b_law_spoiled := F_law_spoiled.binds (ps := ["order", "way", "at"]) fun _ _ _ _ _ _ us hl => by obtain ⟨x0, x1, x2, rfl⟩ := len_3 hl; rfl
  have F_law_refused := fun_mk (st := s_law_refused) l_law_refused c_law_refused k_law_refused
  have b_law_refused := F_law_refused.binds (ps := ["web", "bad"]) fun _ _ _ _ _ _ us hl => by obtain ⟨x0, x1, rfl⟩ := len_2 hl; rfl
  have F_law_due := fun_mk (st := s_law_due) l_law_due c_law_due k_law_due
  have b_law_due := F_law_due.binds (ps := ["ends", "order"]) fun _ _ _ _ _ _ us hl => by obtain ⟨x0, x1, rfl⟩ := len_2 hl; rfl
  have F_law := fun_mk (st := s_law) l_law c_law k_law
  refine ⟨PySem.W.fnOf "law" "law" (defArgs s_law) (defBody s_law) (defScope s_law) .none kV_law dc_law pm_law an_law cd_law ct_law, fun s v => .of_eq rfl, fun base _ _ => ?_⟩
  have m_head := PySem.W.mg_of X G a_head
  have m_leaving := PySem.W.mg_of X G a_leaving
  have m_follower := PySem.W.mg_of X G a_follower
  have m_round_from := PySem.W.mg_of X G a_round_from
  have m_rounds_of := PySem.W.mg_of X G a_rounds_of
  have m_sides_of := PySem.W.mg_of X G a_sides_of
  have m_ends_within := PySem.W.mg_of X G a_ends_within
  have m_order_of := PySem.W.mg_of X G a_order_of
  have m_front_of := PySem.W.mg_of X G a_front_of
  have m_fronts := PySem.W.mg_of X G a_fronts
  have m_reached := PySem.W.mg_of X G a_reached
  have m_refuse_ends := PySem.W.mg_of X G a_refuse_ends
  have m_refuse_turns := PySem.W.mg_of X G a_refuse_turns
  have m_refuse_parted := PySem.W.mg_of X G a_refuse_parted
  have m_law_cell := PySem.W.mg_of X G a_law_cell
  have m_law_head := PySem.W.mg_of X G a_law_head
  have m_law_behind := PySem.W.mg_of X G a_law_behind
  have m_law_round := PySem.W.mg_of X G a_law_round
  have m_law_grown := PySem.W.mg_of X G a_law_grown
  have m_law_order := PySem.W.mg_of X G a_law_order
  have m_law_renumbered := PySem.W.mg_of X G a_law_renumbered
  have m_law_built := PySem.W.mg_of X G a_law_built
  have m_law_web := PySem.W.mg_of X G a_law_web
  have m_law_whole := PySem.W.mg_of X G a_law_whole
  have m_law_spoiled := PySem.W.mg_of X G a_law_spoiled
  have m_law_refused := PySem.W.mg_of X G a_law_refused
  have m_law_due := PySem.W.mg_of X G a_law_due
  have m_law := PySem.W.mg_of X G a_law
  have m_FloorError := PySem.W.mg_of X G aC_FloorError
  have m_BadOrder := PySem.W.mg_of X G aC_BadOrder
  have m_Pull := PySem.W.mg_of X G aC_Pull
  have m_Push := PySem.W.mg_of X G aC_Push
  have m_Web := PySem.W.mg_of X G aC_Web
  have n_len := PySem.W.mg_none_of X G z_len
  have n_int := PySem.W.mg_none_of X G z_int
  have n_bool := PySem.W.mg_none_of X G z_bool
  have n_list := PySem.W.mg_none_of X G z_list
  have n_tuple := PySem.W.mg_none_of X G z_tuple
  have n_range := PySem.W.mg_none_of X G z_range
  have n_enumerate := PySem.W.mg_none_of X G z_enumerate
  have n_isinstance := PySem.W.mg_none_of X G z_isinstance
  have n_min := PySem.W.mg_none_of X G z_min
  have n_sum := PySem.W.mg_none_of X G z_sum
  have n_sorted := PySem.W.mg_none_of X G z_sorted
  have n_max := PySem.W.mg_none_of X G z_max
  have TL : CT K C_Pull := ⟨⟨pg_Pull, hd_Pull, po_Pull, sa_Pull⟩, na_Pull_one, na_Pull_two, na_Pull_strength⟩
  have TS : CT K C_Push := ⟨⟨pg_Push, hd_Push, po_Push, sa_Push⟩, na_Push_one, na_Push_two, na_Push_strength⟩
  have cw : CW K C_Web := ⟨⟨pg_Web, hd_Web, po_Web, sa_Web⟩, na_Web_many, na_Web_ties, na_Web_turns, na_Web_rounds, na_Web_sides⟩
  have T : Txt mg := ⟨n_max, n_len, n_int, n_bool, n_list, n_tuple, n_range, n_enumerate, n_isinstance, n_min, n_sum, n_sorted⟩
  have GI : FnOk l.prog w K mg base CX0 1 f_Tie___init _ _ (spInit K) := ok_init F_Tie___init
  have ML : Mak l.prog w K mg base 1 "Pull" _ (spInit K) C_Pull f_Tie___init _ := ⟨⟨mk_Pull, me_Pull_init, i_Tie___init, kc_Pull⟩, GI, b_Tie___init, m_Pull⟩
  have MS : Mak l.prog w K mg base 1 "Push" _ (spInit K) C_Push f_Tie___init _ := ⟨⟨mk_Push, me_Push_init, i_Tie___init, kc_Push⟩, GI, b_Tie___init, m_Push⟩
  have Gh : Cal l.prog w K mg base 1 "head" _ (spHead K) f_head _ := ⟨ok_head F_head, b_head, m_head, k_head⟩
  have Gl : Cal l.prog w K mg base 1 "leaving" _ (spLeav K) f_leaving _ := ⟨ok_leaving F_leaving, b_leaving, m_leaving, k_leaving⟩
  have Gf : Cal l.prog w K mg base 2 "follower" _ (spFol K) f_follower _ := ⟨ok_follower F_follower T Gh Gl, b_follower, m_follower, k_follower⟩
  have Gr : Cal l.prog w K mg base 3 "round_from" _ (spFrom K) f_round_from _ := ⟨ok_from F_round_from Gf, b_round_from, m_round_from, k_round_from⟩
  have GR : Cal l.prog w K mg base 4 "rounds_of" _ (spRounds K) f_rounds_of _ := ⟨ok_rounds F_rounds_of T Gr, b_rounds_of, m_rounds_of, k_rounds_of⟩
  have GS : Cal l.prog w K mg base 1 "sides_of" _ (spSides K) f_sides_of _ := ⟨ok_sides F_sides_of T, b_sides_of, m_sides_of, k_sides_of⟩
  have Ga : Cal l.prog w K mg base 1 "reached" _ (spReach K) f_reached _ := ⟨ok_reached F_reached, b_reached, m_reached, k_reached⟩
  have R1 : Cal l.prog w K mg base 1 "refuse_ends" _ (spREnds K) f_refuse_ends _ := ⟨ok_rends F_refuse_ends, b_refuse_ends, m_refuse_ends, k_refuse_ends⟩
  have R2 : Cal l.prog w K mg base 1 "refuse_turns" _ (spRTurns K) f_refuse_turns _ := ⟨ok_rturns F_refuse_turns T, b_refuse_turns, m_refuse_turns, k_refuse_turns⟩
  have R3 : Cal l.prog w K mg base 2 "refuse_parted" _ (spRPart K) f_refuse_parted _ := ⟨ok_rpart F_refuse_parted Ga, b_refuse_parted, m_refuse_parted, k_refuse_parted⟩
  have WI : FnOk l.prog w K mg base CX0 5 f_Web___init _ _ (spWInit K) := ok_winit F_Web___init T R1 R2 R3 GR GS
  have MW : Mak l.prog w K mg base 5 "Web" _ (spWInit K) C_Web f_Web___init _ := ⟨⟨mk_Web, me_Web_init, i_Web___init, kc_Web⟩, WI, b_Web___init, m_Web⟩
  have Gc : Cal l.prog w K mg base 1 "_law_cell" _ (spCell K) f_law_cell _ := ⟨ok_cell F_law_cell T, b_law_cell, m_law_cell, k_law_cell⟩
  have L1 : Cal l.prog w K mg base 1 "_law_head" _ (spLHead K) f_law_head _ := ⟨ok_lhead F_law_head, b_law_head, m_law_head, k_law_head⟩
  have L2' : Cal l.prog w K mg base 2 "_law_behind" _ (spBehind K) f_law_behind _ := ⟨ok_lbehind F_law_behind T L1, b_law_behind, m_law_behind, k_law_behind⟩
  have L3 : Cal l.prog w K mg base 3 "_law_round" _ (spLRound K) f_law_round _ := ⟨ok_lround F_law_round L2', b_law_round, m_law_round, k_law_round⟩
  have L4 : Cal l.prog w K mg base 4 "_law_grown" _ (spGrown K) f_law_grown _ := ⟨ok_grown F_law_grown T L3 L1, b_law_grown, m_law_grown, k_law_grown⟩
  have L5 : Cal l.prog w K mg base 1 "_law_order" _ spOrder f_law_order _ := ⟨ok_order F_law_order T, b_law_order, m_law_order, k_law_order⟩
  have L6 : Cal l.prog w K mg base 2 "_law_renumbered" _ spRen f_law_renumbered _ := ⟨ok_ren F_law_renumbered T L5, b_law_renumbered, m_law_renumbered, k_law_renumbered⟩
  have L7 : Cal l.prog w K mg base 5 "_law_built" _ (spLBuilt K) f_law_built _ := ⟨ok_lbuilt F_law_built T L4 L6 Gc, b_law_built, m_law_built, k_law_built⟩
  have L8 : Cal l.prog w K mg base 7 "_law_web" _ (spLWeb C_Pull C_Push C_Web) f_law_web _ := ⟨ok_lweb F_law_web T ML MS TL TS MW cw, b_law_web, m_law_web, k_law_web⟩
  have L9 : Cal l.prog w K mg base 1 "_law_whole" _ spNum f_law_whole _ := ⟨ok_whole F_law_whole T, b_law_whole, m_law_whole, k_law_whole⟩
  have Ge : Cal l.prog w K mg base 1 "ends_within" _ (spWithin K) f_ends_within _ := ⟨ok_within F_ends_within, b_ends_within, m_ends_within, k_ends_within⟩
  have XF : ErrC K mg "FloorError" C_FloorError := ⟨m_FloorError, xc_FloorError⟩
  have XB : ErrC K mg "BadOrder" C_BadOrder := ⟨m_BadOrder, xc_BadOrder⟩
  have TB : TxtB mg C_BadOrder := { T with g_BadOrder := m_BadOrder }
  have Gt : Cal l.prog w K mg base 2 "front_of" _ (spFront C_Pull C_Push C_Web) f_front_of _ := ⟨ok_front F_front_of cw TL TS Ge, b_front_of, m_front_of, k_front_of⟩
  have Go : CalX l.prog w K mg base 1 "order_of" _ (spOrdX C_BadOrder C_Web) f_order_of _ := ⟨ok_ord F_order_of T cw XB, b_order_of, m_order_of, k_order_of⟩
  have GF : CalX l.prog w K mg base 3 "fronts" _ (spFrX C_BadOrder C_Pull C_Push C_Web) f_fronts _ := ⟨ok_fronts F_fronts Go Gt, b_fronts, m_fronts, k_fronts⟩
  have Sp : Cal l.prog w K mg base 1 "_law_spoiled" _ spSpoil f_law_spoiled _ := ⟨ok_spoil F_law_spoiled T, b_law_spoiled, m_law_spoiled, k_law_spoiled⟩
  have Rf : Cal l.prog w K mg base 4 "_law_refused" _ (spRefd C_Pull C_Push C_Web) f_law_refused _ := ⟨ok_refd F_law_refused TB XF XB mr_BadOrder_FloorError GF, b_law_refused, m_law_refused, k_law_refused⟩
  have Du : Cal l.prog w K mg base 1 "_law_due" _ (spDue K) f_law_due _ := ⟨ok_due F_law_due T, b_law_due, m_law_due, k_law_due⟩
  exact ok_law F_law T L7 Gc L5 L8 Sp Rf GF b1_fronts Du L9
theorem walk {l : PySem.W.OpenLaw} {q : Program} {loose : List Str} {XP : (Str → Option Value) → Heap → Prop} {YP : World → Heap → Prop} {d : DefRec} {K : Params → PySem.W.Frag} (hn : l.most = some 63) (hdf : d.params.defaults = [])
    (hY : ∀ (w : World) (h : Heap), YP w h → (K w.params).In h)
    (F : ∀ (w : World) (mg : Str → Option Value) (fa : Addr) (h : Heap), (K w.params).In h → h.Ns mainGlobals mg → mg d.name = some (.ref fa) →
      ∃ fd : FuncData, (∀ (s : Shared) (u : Value), BindsTo s fd ⟨[u], []⟩ [("script", u)]) ∧ ∀ base : Heap, (K w.params).In base → base.Ns mainGlobals mg → FnOk l.prog w (K w.params) mg base CX0 8 fa fd ["script"] (spLaw (K w.params))) :
    PySem.W.WalkO q loose XP YP l.row.toRowW d [] (fun f vs => PySem.call f vs) :=
  L2.walk_of (n := 63) (k := 8) (x := "script") (CX := fun _ => CX0) (sp := fun w => spLaw (K w.params)) hn (by decide) hdf ⟨rfl, by decide, by decide⟩ hY F (fun _ _ a ns hl _ hS => ⟨a, ns, rfl, hS, hl, fun _ => rfl⟩) fun _ _ _ _ _ z => z
end K8


def PySem.W.Fast.tw15628794203740184705 : Nat := 0
def PySem.W.Fast.tw11251585541278460578 : Nat := 0
def PySem.W.Fast.tw3906322117532647011 : Nat := 0
def PySem.W.Fast.tw7004581224713027974 : Nat := 0
def PySem.W.Fast.tw3525347095099336936 : Nat := 0
def PySem.W.Fast.tw16408560040202963784 : Nat := 0
def PySem.W.Fast.tw4998965439646151881 : Nat := 0
def PySem.W.Fast.tw413777325656734413 : Nat := 0
def PySem.W.Fast.tw8912006537193002898 : Nat := 0
def PySem.W.Fast.tw11385350909360518005 : Nat := 0
def PySem.W.Fast.tw3632533156838686743 : Nat := 0
def PySem.W.Fast.tw3495375565486724055 : Nat := 0
def PySem.W.Fast.tw15545685157764512088 : Nat := 0
def PySem.W.Fast.tw11201887114073806456 : Nat := 0
def PySem.W.Fast.tw8636405767202951737 : Nat := 0
def PySem.W.Fast.tw3410808238563249211 : Nat := 0
def PySem.W.Fast.tw12452263553882406203 : Nat := 0
open PySem PySem.W PyProof.Rows
set_option maxRecDepth 100000 in
set_option maxHeartbeats 0 in
theorem PySem.Challenge.cw_spinfloor_k41_fronts_holds : PySem.Challenge.rw_spinfloor_k41_fronts.Holds := by
  w_on; o_law; k_head; (case hw => w_witness2)
  k_fill
  refine K8.walk (l := PySem.Challenge.rw_spinfloor_k41_fronts) rfl rfl (fun w h Y => PySem.W.kIn_of Y) ?F
  case F =>
    intro w mg fa h KX G hmg
    refine' K8.all_mk KX G hmg ?aC_FloorError ?aC_BadOrder ?aC_Pull ?aC_Push ?aC_Web ?me_Pull_init ?me_Push_init ?me_Web_init ?a_head ?l_head ?c_head ?k_head ?a_leaving ?l_leaving ?c_leaving ?k_leaving ?a_follower ?l_follower ?c_follower ?k_follower ?a_round_from ?l_round_from ?c_round_from ?k_round_from ?a_rounds_of ?l_rounds_of ?c_rounds_of ?k_rounds_of ?a_sides_of ?l_sides_of ?c_sides_of ?k_sides_of ?l_Tie___init ?c_Tie___init ?k_Tie___init ?i_Tie___init ?a_ends_within ?l_ends_within ?c_ends_within ?k_ends_within ?a_order_of ?l_order_of ?c_order_of ?k_order_of ?a_front_of ?l_front_of ?c_front_of ?k_front_of ?a_fronts ?l_fronts ?ld_fronts ?c_fronts ?k_fronts ?a_reached ?l_reached ?c_reached ?k_reached ?a_refuse_ends ?l_refuse_ends ?c_refuse_ends ?k_refuse_ends ?a_refuse_turns ?l_refuse_turns ?c_refuse_turns ?k_refuse_turns ?a_refuse_parted ?l_refuse_parted ?c_refuse_parted ?k_refuse_parted ?l_Web___init ?c_Web___init ?k_Web___init ?i_Web___init ?a_law_cell ?l_law_cell ?c_law_cell ?k_law_cell ?a_law_head ?l_law_head ?c_law_head ?k_law_head ?a_law_behind ?l_law_behind ?c_law_behind ?k_law_behind ?a_law_round ?l_law_round ?c_law_round ?k_law_round ?a_law_grown ?l_law_grown ?c_law_grown ?k_law_grown ?a_law_order ?l_law_order ?c_law_order ?k_law_order ?a_law_renumbered ?l_law_renumbered ?c_law_renumbered ?k_law_renumbered ?a_law_built ?l_law_built ?c_law_built ?k_law_built ?a_law_web ?l_law_web ?c_law_web ?k_law_web ?a_law_whole ?l_law_whole ?c_law_whole ?k_law_whole ?a_law_spoiled ?l_law_spoiled ?c_law_spoiled ?k_law_spoiled ?a_law_refused ?l_law_refused ?c_law_refused ?k_law_refused ?a_law_due ?l_law_due ?c_law_due ?k_law_due ?a_law ?l_law ?c_law ?k_law ?xc_FloorError ?xc_BadOrder ?mr_BadOrder_FloorError ?pg_Pull ?hd_Pull ?po_Pull ?sa_Pull ?mk_Pull ?kc_Pull ?na_Pull_one ?na_Pull_two ?na_Pull_strength ?pg_Push ?hd_Push ?po_Push ?sa_Push ?mk_Push ?kc_Push ?na_Push_one ?na_Push_two ?na_Push_strength ?pg_Web ?hd_Web ?po_Web ?sa_Web ?mk_Web ?kc_Web ?na_Web_many ?na_Web_ties ?na_Web_turns ?na_Web_rounds ?na_Web_sides ?z_len ?z_int ?z_bool ?z_list ?z_tuple ?z_range ?z_enumerate ?z_isinstance ?z_min ?z_sum ?z_sorted ?z_max
    (case aC_FloorError => k_is)
    (case aC_BadOrder => k_is)
    (case aC_Pull => k_is)
    (case aC_Push => k_is)
    (case aC_Web => k_is)
    (case me_Pull_init => k_is)
    (case me_Push_init => k_is)
    (case me_Web_init => k_is)
    (case a_head => k_is)
    (case l_head => k_is)
    (case c_head => k_is)
    (case k_head => k_is)
    (case a_leaving => k_is)
    (case l_leaving => k_is)
    (case c_leaving => k_is)
    (case k_leaving => k_is)
    (case a_follower => k_is)
    (case l_follower => k_is)
    (case c_follower => k_is)
    (case k_follower => k_is)
    (case a_round_from => k_is)
    (case l_round_from => k_is)
    (case c_round_from => k_is)
    (case k_round_from => k_is)
    (case a_rounds_of => k_is)
    (case l_rounds_of => k_is)
    (case c_rounds_of => k_is)
    (case k_rounds_of => k_is)
    (case a_sides_of => k_is)
    (case l_sides_of => k_is)
    (case c_sides_of => k_is)
    (case k_sides_of => k_is)
    (case l_Tie___init => k_is)
    (case c_Tie___init => k_is)
    (case k_Tie___init => k_is)
    (case i_Tie___init => k_is)
    (case a_ends_within => k_is)
    (case l_ends_within => k_is)
    (case c_ends_within => k_is)
    (case k_ends_within => k_is)
    (case a_order_of => k_is)
    (case l_order_of => k_is)
    (case c_order_of => k_is)
    (case k_order_of => k_is)
    (case a_front_of => k_is)
    (case l_front_of => k_is)
    (case c_front_of => k_is)
    (case k_front_of => k_is)
    (case a_fronts => k_is)
    (case l_fronts => k_is)
    (case ld_fronts => k_is)
    (case c_fronts => k_is)
    (case k_fronts => k_is)
    (case a_reached => k_is)
    (case l_reached => k_is)
    (case c_reached => k_is)
    (case k_reached => k_is)
    (case a_refuse_ends => k_is)
    (case l_refuse_ends => k_is)
    (case c_refuse_ends => k_is)
    (case k_refuse_ends => k_is)
    (case a_refuse_turns => k_is)
    (case l_refuse_turns => k_is)
    (case c_refuse_turns => k_is)
    (case k_refuse_turns => k_is)
    (case a_refuse_parted => k_is)
    (case l_refuse_parted => k_is)
    (case c_refuse_parted => k_is)
    (case k_refuse_parted => k_is)
    (case l_Web___init => k_is)
    (case c_Web___init => k_is)
    (case k_Web___init => k_is)
    (case i_Web___init => k_is)
    (case a_law_cell => k_is)
    (case l_law_cell => k_is)
    (case c_law_cell => k_is)
    (case k_law_cell => k_is)
    (case a_law_head => k_is)
    (case l_law_head => k_is)
    (case c_law_head => k_is)
    (case k_law_head => k_is)
    (case a_law_behind => k_is)
    (case l_law_behind => k_is)
    (case c_law_behind => k_is)
    (case k_law_behind => k_is)
    (case a_law_round => k_is)
    (case l_law_round => k_is)
    (case c_law_round => k_is)
    (case k_law_round => k_is)
    (case a_law_grown => k_is)
    (case l_law_grown => k_is)
    (case c_law_grown => k_is)
    (case k_law_grown => k_is)
    (case a_law_order => k_is)
    (case l_law_order => k_is)
    (case c_law_order => k_is)
    (case k_law_order => k_is)
    (case a_law_renumbered => k_is)
    (case l_law_renumbered => k_is)
    (case c_law_renumbered => k_is)
    (case k_law_renumbered => k_is)
    (case a_law_built => k_is)
    (case l_law_built => k_is)
    (case c_law_built => k_is)
    (case k_law_built => k_is)
    (case a_law_web => k_is)
    (case l_law_web => k_is)
    (case c_law_web => k_is)
    (case k_law_web => k_is)
    (case a_law_whole => k_is)
    (case l_law_whole => k_is)
    (case c_law_whole => k_is)
    (case k_law_whole => k_is)
    (case a_law_spoiled => k_is)
    (case l_law_spoiled => k_is)
    (case c_law_spoiled => k_is)
    (case k_law_spoiled => k_is)
    (case a_law_refused => k_is)
    (case l_law_refused => k_is)
    (case c_law_refused => k_is)
    (case k_law_refused => k_is)
    (case a_law_due => k_is)
    (case l_law_due => k_is)
    (case c_law_due => k_is)
    (case k_law_due => k_is)
    (case a_law => k_is)
    (case l_law => k_is)
    (case c_law => k_is)
    (case k_law => k_is)
    (case xc_FloorError => k_exc)
    (case xc_BadOrder => k_exc)
    (case mr_BadOrder_FloorError => k_is)
    (case pg_Pull => k_is)
    (case hd_Pull => k_is)
    (case po_Pull => k_is)
    (case sa_Pull => k_is)
    (case mk_Pull => k_is)
    (case kc_Pull => k_is)
    (case na_Pull_one => k_is)
    (case na_Pull_two => k_is)
    (case na_Pull_strength => k_is)
    (case pg_Push => k_is)
    (case hd_Push => k_is)
    (case po_Push => k_is)
    (case sa_Push => k_is)
    (case mk_Push => k_is)
    (case kc_Push => k_is)
    (case na_Push_one => k_is)
    (case na_Push_two => k_is)
    (case na_Push_strength => k_is)
    (case pg_Web => k_is)
    (case hd_Web => k_is)
    (case po_Web => k_is)
    (case sa_Web => k_is)
    (case mk_Web => k_is)
    (case kc_Web => k_is)
    (case na_Web_many => k_is)
    (case na_Web_ties => k_is)
    (case na_Web_turns => k_is)
    (case na_Web_rounds => k_is)
    (case na_Web_sides => k_is)
    (case z_len => k_is)
    (case z_int => k_is)
    (case z_bool => k_is)
    (case z_list => k_is)
    (case z_tuple => k_is)
    (case z_range => k_is)
    (case z_enumerate => k_is)
    (case z_isinstance => k_is)
    (case z_min => k_is)
    (case z_sum => k_is)
    (case z_sorted => k_is)
    (case z_max => k_is)

