import PyProof.Rows.All
import Wide.All
import OpenK.AllK
import Wide.FinOn
import Lean
import PyProof.EqAt
import PyProof.EqKinds
import PyProof.TupleCall
import PySem.Challenge.RW_spinfloor_k26_whole_no_joining_is_cheape
set_option Elab.async false
set_option linter.all false
set_option maxRecDepth 100000
/-! THE HAND LAYER, for ints, bools, texts, own classes, LISTS and tuples (index, slices, in, append, pop ..), calls, loops. Paste it whole ahead of your own text; what your proof does not reach may be deleted. -/
namespace L2
open PySem PySem.Spec PyProof.Rows

/-- a key: an int or a str -/
abbrev Key := Sum Int Str
def keyIs : Key → Value → Bool
  | .inl k, v => Value.isInt k v
  | .inr x, v => Value.isStrOf x v
def keyH (w : World) : Key → Int
  | .inl k => hashInt k
  | .inr x => hashStr w x
theorem keyIs_shape : ∀ {k : Key} {v : Value}, keyIs k v = true → (∃ i t, k = Sum.inl i ∧ v = Value.int i t) ∨ (∃ x t, k = Sum.inr x ∧ v = Value.str x t)
  | .inl i, v, h => by
    obtain ⟨t, e⟩ := Value.isInt_shape (k := i) (v := v) h
    exact .inl ⟨i, t, rfl, e⟩
  | .inr x, v, h => by
    obtain ⟨t, e⟩ := Value.isStrOf_shape (x := x) (v := v) h
    exact .inr ⟨x, t, rfl, e⟩
theorem keyIs_int (i : Int) (t : Tok) : keyIs (.inl i) (.int i t) = true := by simp [keyIs, Value.isInt]
theorem keyIs_str (x : Str) (t : Tok) : keyIs (.inr x) (.str x t) = true := by simp [keyIs, Value.isStrOf]
theorem key_ll (a b : Int) : decide ((Sum.inl a : Key) = Sum.inl b) = (a == b) := by
  by_cases e : a = b
  · subst e; simp
  · have h : ¬ (Sum.inl a : Key) = Sum.inl b := fun q => e (Sum.inl.inj q)
    rw [decide_eq_false h]
    exact (beq_eq_false_iff_ne.mpr e).symm
theorem key_rr (a b : Str) : decide ((Sum.inr a : Key) = Sum.inr b) = decide (a = b) := by
  by_cases e : a = b
  · subst e; simp
  · have h : ¬ (Sum.inr a : Key) = Sum.inr b := fun q => e (Sum.inr.inj q)
    rw [decide_eq_false h, decide_eq_false e]
theorem key_lr (a : Int) (b : Str) : decide ((Sum.inl a : Key) = Sum.inr b) = false := decide_eq_false (fun q => nomatch q)
theorem key_rl (a : Str) (b : Int) : decide ((Sum.inr a : Key) = Sum.inl b) = false := decide_eq_false (fun q => nomatch q)

def mixKind (prog : Program) (w : World) : PySem.KeyKind prog w Key where
  is := keyIs
  hash := keyH w
  inj := fun v a b ha hb => by
    rcases keyIs_shape ha with ⟨i, t, rfl, rfl⟩ | ⟨x, t, rfl, rfl⟩
    · rcases keyIs_shape hb with ⟨j, u, rfl, e⟩ | ⟨y, u, rfl, e⟩
      · injection e with e1 _; rw [e1]
      · exact nomatch e
    · rcases keyIs_shape hb with ⟨j, u, rfl, e⟩ | ⟨y, u, rfl, e⟩
      · exact nomatch e
      · injection e with e1 _; rw [e1]
  byValue := fun k v h => by
    rcases keyIs_shape h with ⟨i, t, rfl, rfl⟩ | ⟨x, t, rfl, rfl⟩ <;> rfl
  pyHash := fun hv h => by
    rcases keyIs_shape hv with ⟨i, t, rfl, rfl⟩ | ⟨x, t, rfl, rfl⟩
    · exact wpAny_pyHash_int h
    · exact wpAny_pyHash_str h
  eqBool := fun hu hv h => by
    rcases keyIs_shape hu with ⟨i, t, rfl, rfl⟩ | ⟨x, t, rfl, rfl⟩
    · rcases keyIs_shape hv with ⟨j, u, rfl, rfl⟩ | ⟨y, u, rfl, rfl⟩
      · rw [key_ll] at h; exact wpAny_eqBool_int h
      · rw [key_lr] at h; exact SeqAt.EqAt.int_str i t y u _ _ _ _ h
    · rcases keyIs_shape hv with ⟨j, u, rfl, rfl⟩ | ⟨y, u, rfl, rfl⟩
      · rw [key_rl] at h; exact SeqAt.EqAt.str_int x t j u _ _ _ _ h
      · rw [key_rr] at h; exact wpAny_eqBool_str h
  «strs» := fun k x t v h => by
    rcases keyIs_shape h with ⟨i, u, rfl, e⟩ | ⟨y, u, rfl, e⟩
    · exact nomatch e
    · injection e with e1 _
      subst e1
      cases v <;> rfl

theorem mixKind_int (prog : Program) (w : World) (i : Int) (t : Tok) : (mixKind prog w).is (.inl i) (.int i t) = true := keyIs_int i t
theorem mixKind_str (prog : Program) (w : World) (x : Str) (t : Tok) : (mixKind prog w).is (.inr x) (.str x t) = true := keyIs_str x t
end L2

namespace L2
open PySem PySem.Spec PyProof.Rows

/-- a value, without the heap -/
inductive V where
  | non | bl (b : Bool) | int (i : Int) | str (x : Str) | byt (b : Array UInt8) | flt (b : UInt64) | ref (a : Addr) | ty (n : String)
  deriving DecidableEq

def RelV : V → Value → Prop
  | .non, u => u = Value.none
  | .bl b, u => u = Value.bool b
  | .int i, u => ∃ t, u = Value.int i t
  | .str x, u => ∃ t, u = Value.str x t
  | .byt b, u => ∃ t, u = Value.bytes b t
  | .flt b, u => ∃ t, u = Value.float b t
  | .ref a, u => u = Value.ref a
  | .ty n, u => u = Value.type n

abbrev Vals : List V → List Value → Prop := Paired RelV
theorem Vals.length {xs : List V} {us : List Value} (r : Vals xs us) : xs.length = us.length := Paired.length r
theorem Vals.get : ∀ {xs : List V} {us : List Value} {i : Nat} {x : V}, Vals xs us → xs[i]? = some x → ∃ u, us[i]? = some u ∧ RelV x u
  | _, _, _, _, .nil, e => by simp at e
  | _, _, 0, _, .cons r _, e => by simp at e; subst e; exact ⟨_, rfl, r⟩
  | _, _, i + 1, x, .cons _ t, e => by
    obtain ⟨u, h1, h2⟩ := Vals.get (i := i) (x := x) t (by simpa using e)
    exact ⟨u, by simpa using h1, h2⟩
theorem Vals.set {x : V} {u : Value} (r : RelV x u) : ∀ {xs : List V} {us : List Value} (i : Nat), Vals xs us → Vals (xs.set i x) (us.set i u)
  | _, _, _, .nil => .nil
  | _, _, 0, .cons _ t => .cons r t
  | _, _, i + 1, .cons q t => .cons q (Vals.set r i t)
theorem Vals.append : ∀ {xs ys : List V} {us ws : List Value}, Vals xs us → Vals ys ws → Vals (xs ++ ys) (us ++ ws)
  | _, _, _, _, .nil, s => s
  | _, _, _, _, .cons r t, s => .cons r (Vals.append t s)
theorem Vals.take : ∀ {xs : List V} {us : List Value} (n : Nat), Vals xs us → Vals (xs.take n) (us.take n)
  | _, _, 0, _ => .nil
  | _, _, _ + 1, .nil => .nil
  | _, _, n + 1, .cons r t => .cons r (Vals.take n t)
theorem Vals.drop : ∀ {xs : List V} {us : List Value} (n : Nat), Vals xs us → Vals (xs.drop n) (us.drop n)
  | _, _, 0, r => r
  | _, _, _ + 1, .nil => .nil
  | _, _, n + 1, .cons _ t => Vals.drop n t

def RelO : Option V → Option Value → Prop
  | some v, some u => RelV v u
  | none, none => True
  | _, _ => False
def KV {κ : Type} : List (κ × V) → List (κ × Value) → Prop := Paired fun (p : κ × V) (q : κ × Value) => p.1 = q.1 ∧ RelV p.2 q.2

/-- a key of a dict (00_mix): an int or a text -/
def kV : Key → V
  | .inl i => .int i
  | .inr x => .str x

/-- what stands at a tracked address -/
inductive HO where
  /-- a list -/
  | lst (xs : List V)
  /-- a tuple (never changes) -/
  | tup (xs : List V)
  /-- a dict whose keys are ints and texts; one whose keys are tuples of ints and texts (the empty one is both) -/
  | dK (kvs : List (Key × V)) | dT (kvs : List (List Key × V))
  /-- a set of ints: its members, its size -/
  | set (S : Int → Bool) (n : Nat)
  /-- an instance of the class at C, its dict at dx, its attributes -/
  | ins (C dx : Addr) (fs : List (Str × V))
  /-- the dict of the instance at x -/
  | own (x : Addr)
  /-- the dict of an exception -/
  | xd (fs : List (Str × V))
  /-- a bound method, f of x -/
  | met (f x : Addr)
  /-- a range object lo, lo + 1, .. below hi -/
  | rng (lo hi : Int)
  /-- a thing that is known to the object (the script; a dict while a loop walks it): read, never written while it is so -/
  | frz (o : Obj) (u : HO)
  /-- a code object's table -/
  | tbl (ps : Array Value)
  /-- any other thing, by what is true of its one object (a def of one's own: SetO a S n := HO.ext fun h => ..) -/
  | ext (φ : Heap → Prop)

abbrev Hp := Addr → Option HO
def upd (H : Hp) (a : Addr) (o : HO) : Hp := fun b => if b = a then some o else H b
theorem upd_same {H : Hp} {a : Addr} {o : HO} : upd H a o a = some o := by unfold upd; rw [if_pos rfl]
theorem upd_ne {H : Hp} {a b : Addr} {o : HO} (h : b ≠ a) : upd H a o b = H b := by unfold upd; rw [if_neg h]
/-- two objects of different content stand apart -/
theorem ne_of {H : Hp} {a b : Addr} {o u : HO} (h : H a = some o) (h' : H b = some u) (d : o ≠ u) : a ≠ b := by
  intro e; subst e; rw [h] at h'; exact d (Option.some.inj h')
theorem ne_of_none {H : Hp} {a b : Addr} {o : HO} (h : H a = some o) (h' : H b = none) : a ≠ b := by
  intro e; subst e; rw [h] at h'; cases h'

section
variable (P : Program) (w : World)
def ObjOk (H : Hp) (h : Heap) (a : Addr) : HO → Prop
  | .lst xs => xs.length ≤ sizeLine ∧ ∃ (its : List Value) (n : Nat), Vals xs its ∧ h.get? a = some { cls := .type "list", data := .seq its.toArray n }
  | .tup xs => xs.length ≤ sizeLine ∧ ∃ its : List Value, Vals xs its ∧ IsTup h a its.toArray
  | .dK kvs => kvs.length ≤ sizeLine ∧ (a == sysModules) = false ∧ ∃ vs, KV kvs vs ∧ h.DictOf (mixKind P w) a vs
  | .dT kvs => kvs.length ≤ sizeLine ∧ (a == sysModules) = false ∧ ∃ xs : List (List Key × Addr × Value),
      Paired (fun (p : List Key × V) (q : List Key × Addr × Value) => p.1 = q.1 ∧ H q.2.1 = some (.tup (p.1.map kV)) ∧ RelV p.2 q.2.2) kvs xs ∧
      ∃ o es ep, h.get? a = some o ∧ o.ExactDict ∧ o.data = .dict es ep ∧ es.toList = xs.map (entryOfKey (tupleKind (mixKind P w))) ∧ (xs.map (·.1)).Nodup
  | .set S n => h.SetOf (intKind P w) a S n
  | .ins C dx fs => H dx = some (.own a) ∧ fs.length ≤ 1000 ∧ dx ≠ a ∧ h.get? a = some (PySem.W.instObj C dx) ∧
      ∃ mA, h.Ns1 dx mA ∧ (∀ f, RelO (fs.lookup f) (mA f)) ∧ PySem.Within mA (fs.map (·.1))
  | .own _ => ∃ o, h.get? a = some o
  | .xd fs => ∃ mA, h.Ns1 a mA ∧ ∀ f, RelO (fs.lookup f) (mA f)
  | .rng lo hi => ∃ t u v, h.get? a = some { cls := .type "range", data := .fields #[.int lo t, .int hi u, .int 1 v] }
  | .frz o u => h.get? a = some o ∧ ObjOk H h a u
  | .tbl ps => h.get? a = some { cls := .none, data := .fields ps }
  | .met f x => h.get? a = some (PySem.W.methodObj (.ref f) (.ref x))
  | .ext φ => φ h ∧ (∃ o, h.get? a = some o) ∧ ∀ h1 h2 : Heap, φ h1 → (∀ o, h1.get? a = some o → h2.get? a = some o) → φ h2
/-- the abstract heap is held -/
def HOk (H : Hp) (h : Heap) : Prop := ∀ a o, H a = some o → ObjOk P w H h a o
end

section
variable {P : Program} {w : World} {H H' : Hp} {h h' : Heap} {a : Addr} {o : HO}
theorem ObjOk.lt (x : ObjOk P w H h a o) : a < h.objs.size := by
  cases o with
  | lst xs => obtain ⟨_, _, _, _, e⟩ := x; exact Heap.lt_size e
  | tup xs => obtain ⟨_, _, _, p⟩ := x; exact p.lt
  | dK kvs => obtain ⟨_, _, _, _, o, _, _, e, _⟩ := x; exact Heap.lt_size e
  | dT kvs => obtain ⟨_, _, _, _, o, _, _, e, _⟩ := x; exact Heap.lt_size e
  | set S n => obtain ⟨o, _, _, _, e, _⟩ := x; exact Heap.lt_size e
  | ins C dx fs => obtain ⟨_, _, _, e, _⟩ := x; exact Heap.lt_size e
  | own y => obtain ⟨_, e⟩ := x; exact Heap.lt_size e
  | xd fs => obtain ⟨_, ⟨_, _, _, e, _⟩, _⟩ := x; exact Heap.lt_size e
  | rng lo hi => obtain ⟨_, _, _, e⟩ := x; exact Heap.lt_size e
  | frz ob u => obtain ⟨e, _⟩ := x; exact Heap.lt_size e
  | tbl ps => exact Heap.lt_size (show h.get? a = some _ from x)
  | met f y => exact Heap.lt_size (show h.get? a = some _ from x)
  | ext φ => obtain ⟨_, ⟨_, e⟩, _⟩ := x; exact Heap.lt_size e
theorem Paired.mapP {α β : Type} {F G : α → β → Prop} : ∀ {l₁ : List α} {l₂ : List β}, Paired F l₁ l₂ → (∀ a b, F a b → G a b) → Paired G l₁ l₂
  | _, _, .nil, _ => .nil
  | _, _, .cons r t, f => .cons (f _ _ r) (Paired.mapP t f)
/-- what an object's description leans on: its own object, its own dict, the tuples -/
theorem ObjOk.stay (x : ObjOk P w H h a o) (k : ∀ b u, (b = a ∨ H b = some (.own a)) → h.get? b = some u → h'.get? b = some u)
    (ho : ∀ b, H b = some (.own a) → H' b = some (.own a)) (ht : ∀ b xs, H b = some (.tup xs) → H' b = some (.tup xs)) : ObjOk P w H' h' a o := by
  induction o with
  | lst xs => obtain ⟨z, its, n, r, e⟩ := x; exact ⟨z, its, n, r, k _ _ (.inl rfl) e⟩
  | tup xs => obtain ⟨z, its, r, ob, e, c⟩ := x; exact ⟨z, its, r, ob, k _ _ (.inl rfl) e, c⟩
  | dK kvs => obtain ⟨z, y, vs, r, ob, es, ep, e, c⟩ := x; exact ⟨z, y, vs, r, ob, es, ep, k _ _ (.inl rfl) e, c⟩
  | dT kvs =>
    obtain ⟨z, y, xs, r, ob, es, ep, e, c⟩ := x
    exact ⟨z, y, xs, Paired.mapP r fun p q z => ⟨z.1, ht _ _ z.2.1, z.2.2⟩, ob, es, ep, k _ _ (.inl rfl) e, c⟩
  | set S n => obtain ⟨ob, es, ep, t, e, c⟩ := x; exact ⟨ob, es, ep, t, k _ _ (.inl rfl) e, c⟩
  | ins C dx fs =>
    obtain ⟨d, z, ne, e, mA, ⟨od, es, ep, e2, c⟩, r⟩ := x
    exact ⟨ho _ d, z, ne, k _ _ (.inl rfl) e, mA, ⟨od, es, ep, k _ _ (.inr d) e2, c⟩, r⟩
  | own y => obtain ⟨ob, e⟩ := x; exact ⟨ob, k _ _ (.inl rfl) e⟩
  | xd fs => obtain ⟨mA, ⟨od, es, ep, e, c⟩, r⟩ := x; exact ⟨mA, ⟨od, es, ep, k _ _ (.inl rfl) e, c⟩, r⟩
  | rng lo hi => obtain ⟨t, u, v, e⟩ := x; exact ⟨t, u, v, k _ _ (.inl rfl) e⟩
  | frz ob u ih => obtain ⟨e, q⟩ := x; exact ⟨k _ _ (.inl rfl) e, ih q⟩
  | tbl ps =>
    have e : h.get? a = some { cls := .none, data := .fields ps } := x
    show h'.get? a = some { cls := .none, data := .fields ps }
    exact k a _ (.inl rfl) e
  | met f y =>
    have e : h.get? a = some (PySem.W.methodObj (.ref f) (.ref y)) := x
    show h'.get? a = some (PySem.W.methodObj (.ref f) (.ref y))
    exact k a _ (.inl rfl) e
  | ext φ => obtain ⟨p, ⟨o, e⟩, st⟩ := x; exact ⟨st _ _ p fun o q => k _ _ (.inl rfl) q, ⟨o, k _ _ (.inl rfl) e⟩, st⟩
theorem HOk.lt (x : HOk P w H h) (e : H a = some o) : a < h.objs.size := (x a o e).lt
theorem HOk.fresh (x : HOk P w H h) (e : h.objs.size ≤ a) : H a = none := by
  cases q : H a with
  | none => rfl
  | some u => exact absurd (Nat.lt_of_lt_of_le (x.lt q) e) (Nat.lt_irrefl _)
/-- every object of the heap is kept -/
theorem HOk.kept (x : HOk P w H h) (k : ∀ b u, h.get? b = some u → h'.get? b = some u) : HOk P w H h' := fun a o e =>
  (x a o e).stay (fun b u _ q => k b u q) (fun _ q => q) fun _ _ q => q
/-- a new object is laid and tracked -/
theorem HOk.laid (x : HOk P w H h) (k : ∀ b u, h.get? b = some u → h'.get? b = some u) (hp : h.objs.size ≤ a) (new : ObjOk P w (upd H a o) h' a o) : HOk P w (upd H a o) h' := fun b u e => by
  have hn := x.fresh hp
  by_cases hb : b = a
  · subst hb; rw [upd_same] at e; cases e; exact new
  · rw [upd_ne hb] at e
    exact (x b u e).stay (fun c v _ q => k c v q) (fun c q => by rw [upd_ne (ne_of_none q hn)]; exact q) fun c xs q => by rw [upd_ne (ne_of_none q hn)]; exact q
end

/-- what may be read as u: it is u, or a known u -/
def Rd (H : Hp) (a : Addr) (u : HO) : Prop := H a = some u ∨ ∃ o, H a = some (.frz o u)
theorem Rd.ok {P : Program} {w : World} {H : Hp} {h : Heap} {a : Addr} {u : HO} (r : Rd H a u) (x : HOk P w H h) : ObjOk P w H h a u := by
  rcases r with r | ⟨o, r⟩
  · exact x a u r
  · obtain ⟨_, q⟩ := x a _ r
    exact q
/-- what may be written -/
def Mut : Option HO → Prop
  | some (.lst _) => True
  | some (.dK _) => True
  | some (.dT _) => True
  | some (.set _ _) => True
  | some (.ins _ _ _) => True
  | some (.ext _) => True
  | _ => False
section
variable {P : Program} {w : World} {H : Hp} {h h' : Heap} {x e : Addr} {o' : HO}
/-- the object at e is changed: x itself, or the dict of the instance x -/
theorem HOk.write (ok : HOk P w H h) (mu : Mut (H x)) (he : e = x ∨ H e = some (.own x)) (k : ∀ b u, b ≠ e → h.get? b = some u → h'.get? b = some u) (heo : ∃ u, h'.get? e = some u)
    (new : ObjOk P w (upd H x o') h' x o') : HOk P w (upd H x o') h' := fun b u q => by
  have nown : ∀ c y, H c = some (.own y) → c ≠ x := fun c y r z => by subst z; rw [r] at mu; exact mu
  have ntup : ∀ c xs, H c = some (.tup xs) → c ≠ x := fun c xs r z => by subst z; rw [r] at mu; exact mu
  by_cases hb : b = x
  · subst hb; rw [upd_same] at q; cases q; exact new
  · rw [upd_ne hb] at q
    by_cases hbe : b = e
    · have q' : H b = some (.own x) := by
        rcases he with z | z
        · exact absurd (hbe.trans z) hb
        · rw [hbe]; exact z
      rw [q] at q'; cases q'
      obtain ⟨v, hv⟩ := heo
      exact ⟨v, by rw [hbe]; exact hv⟩
    · refine (ok b u q).stay (fun c v hc r => k c v ?_ r) (fun c r => by rw [upd_ne (nown c b r)]; exact r) fun c xs r => by rw [upd_ne (ntup c xs r)]; exact r
      rcases hc with rfl | hc
      · exact hbe
      · rintro rfl
        rcases he with z | z
        · exact nown c b hc z
        · rw [hc] at z; cases z; exact hb rfl
end

/-! ### kept unless tracked; of the frames at fs (the callers') the slots may change (an exception that passes writes there); of the records at ex (iterators) nothing is said -/
structure Un (fs ex : List Addr) (H H' : Hp) (h h' : Heap) : Prop where
  keep : ∀ b o, h.get? b = some o → H b = none → b ∉ fs → b ∉ ex → h'.get? b = some o
  slot : ∀ b o, h.get? b = some o → H b = none → b ∈ fs → b ∉ ex → ∃ sl, h'.get? b = some { o with slots := sl }
  free : ∀ b o, h.get? b = some o → H b = none → b ∉ ex → H' b = none
  there : ∀ b o, h.get? b = some o → b ∉ ex → ∃ o', h'.get? b = some o'
  tups : ∀ b xs, H b = some (.tup xs) → H' b = some (.tup xs)
  frzs : ∀ b o u, H b = some (.frz o u) → H' b = some (.frz o u)
  tbls : ∀ b ps, H b = some (.tbl ps) → ∃ more, H' b = some (.tbl (ps ++ more))
section
variable {fs fs' ex ex' : List Addr} {H H1 H2 : Hp} {h h1 h2 h' : Heap} {a x e : Addr} {o : HO}
theorem Un.any (u : Un fs ex H H1 h h1) {b : Addr} {ob : Obj} (q : h.get? b = some ob) (n : H b = none) (hx : b ∉ ex) : ∃ sl, h1.get? b = some { ob with slots := sl } := by
  by_cases hb : b ∈ fs
  · exact u.slot b ob q n hb hx
  · exact ⟨ob.slots, u.keep b ob q n hb hx⟩
theorem Un.kept (k : ∀ b u, h.get? b = some u → h'.get? b = some u) : Un fs ex H H h h' :=
  ⟨fun b ob q _ _ _ => k b ob q, fun b ob q _ _ _ => ⟨ob.slots, k b ob q⟩, fun _ _ _ n _ => n, fun b ob q _ => ⟨ob, k b ob q⟩, fun _ _ q => q, fun _ _ _ q => q, fun _ ps q => ⟨#[], by rw [q]; simp⟩⟩
theorem Un.refl : Un fs ex H H h h := Un.kept fun _ _ q => q
theorem Un.laid (k : ∀ b u, h.get? b = some u → h'.get? b = some u) (hp : h.objs.size ≤ a) (hn : H a = none) : Un fs ex H (upd H a o) h h' where
  keep := fun b u q _ _ _ => k b u q
  slot := fun b u q _ _ _ => ⟨u.slots, k b u q⟩
  free := fun b u q n _ => by rw [upd_ne (Nat.ne_of_lt (Nat.lt_of_lt_of_le (Heap.lt_size q) hp))]; exact n
  there := fun b u q _ => ⟨u, k b u q⟩
  tups := fun b xs q => by rw [upd_ne (ne_of_none q hn)]; exact q
  frzs := fun b u xs q => by rw [upd_ne (ne_of_none q hn)]; exact q
  tbls := fun b ps q => ⟨#[], by rw [upd_ne (ne_of_none q hn), q]; simp⟩
theorem Un.write (mu : Mut (H x)) (he : e = x ∨ H e = some (.own x)) (k : ∀ b u, b ≠ e → h.get? b = some u → h'.get? b = some u) (heo : ∃ u, h'.get? e = some u) : Un fs ex H (upd H x o) h h' := by
  have hx : ∀ b, H b = none → b ≠ x := fun b n z => by subst z; rw [n] at mu; exact mu
  have hb : ∀ b, H b = none → b ≠ e := fun b n z => by
    subst z
    rcases he with r | r
    · exact hx b n r
    · rw [n] at r; cases r
  have hm : ∀ b u, H b = some u → ¬ Mut (some u) → b ≠ x := fun b u q nm z => by subst z; rw [q] at mu; exact nm mu
  refine ⟨fun b u q n _ _ => k b u (hb b n) q, fun b u q n _ _ => ⟨u.slots, k b u (hb b n) q⟩, fun b u q n _ => by rw [upd_ne (hx b n)]; exact n, fun b u q _ => ?_,
    fun b xs q => by rw [upd_ne (hm b _ q fun z => z)]; exact q, fun b u xs q => by rw [upd_ne (hm b _ q fun z => z)]; exact q, fun b ps q => ⟨#[], by rw [upd_ne (hm b _ q fun z => z), q]; simp⟩⟩
  by_cases hbe : b = e
  · subst hbe; exact heo
  · exact ⟨u, k b u hbe q⟩
end

/-! ### the heap without what is tracked -/
def trk (h : Heap) (H : Hp) : List Addr := (List.range h.objs.size).filter fun a => (H a).isSome
def hidT (h : Heap) (H : Hp) : Heap := PySem.W.hideAll h (trk h H)
theorem hidT_size (h : Heap) (H : Hp) : (hidT h H).objs.size = h.objs.size := PySem.W.hideAll_size _ _
theorem hidT_get {h : Heap} {H : Hp} {b : Addr} {o : Obj} (e : h.get? b = some o) (n : H b = none) : (hidT h H).get? b = some o :=
  PySem.W.hideAll_get _ e fun hm => by
    have q : (H b).isSome = true := (List.mem_filter.mp hm).2
    rw [n] at q; simp at q
theorem of_hidT {h : Heap} {H : Hp} {b : Addr} {o : Obj} (e : (hidT h H).get? b = some o) : h.get? b = some o ∧ H b = none := by
  have e' : h.get? b = some o := PySem.W.of_hideAll (trk h H) e
  refine ⟨e', ?_⟩
  cases q : H b with
  | none => rfl
  | some x =>
    have hm : b ∈ trk h H := List.mem_filter.mpr ⟨List.mem_range.mpr (Heap.lt_size e'), by simp [q]⟩
    have z : (hidT h H).get? b = none := PySem.W.hideAll_none (trk h H) hm
    rw [z] at e; cases e

/-! ### OpenK's ledger, filled with every new object but one -/
end L2

namespace L2
open PySem PySem.Spec PyProof.Rows

/-- the module's facts, over the base: the heap at the law's entry without what is tracked there -/
structure Mod (K : PySem.W.Frag) (mg : Str → Option Value) (base : Heap) : Prop where
  kin : K.In base
  glob : base.Ns mainGlobals mg
  blt : ∃ mb, base.Ns builtinsNs mb ∧ ∀ x : Str, x ≠ "__name__" → mb x = bootBuiltins x
  nolimit : base.NoLimit

/-- the context: a def's body (or a comprehension's block) running. base: fixed through the whole law; s₀, H₀: the entry; outer: the frames whose slots others may change (a def's callers); stack: all frames that run;
   ex: iterators that were made ahead of the entry and are walked here (a comprehension's); fn: the names whose cells were made at the entry (a def: all; a comprehension's block: its own); calm: not within an except suite; pn: pins that every state bears; xe: what is wanted of an exception that leaves the code -/
structure Cx where
  prog : Program
  w : World
  K : PySem.W.Frag
  mg : Str → Option Value
  base : Heap
  A : Around
  N : List Str
  s₀ : Shared
  H₀ : Hp
  env : Env
  outer : List Env
  stack : List Env
  ex : List Addr
  fn : Str → Bool
  calm : Bool
  pn : List (Addr × Obj)
  xe : Value → Shared → Prop
/-- the callers' frames -/
def frs (l : List Env) : List Addr := l.filterMap (·.frame)
abbrev Cx.fs (X : Cx) : List Addr := frs X.outer

def Vis (sc : Scope) (x : Str) : Prop := sc.names.lookup x = some .local ∨ sc.names.lookup x = some .cell ∨ sc.names.lookup x = some .free
def Loc (sc : Scope) (x : Str) : Prop := sc.names.lookup x = some .local ∨ sc.names.lookup x = some .cell
def Look (env : Env) (h : Heap) (m : Str → Option Value) (x : Str) (u : Value) : Prop :=
  (env.kindOf x = some .local ∧ m x = some u) ∨ ((env.kindOf x = some .cell ∨ env.kindOf x = some .free) ∧ ∃ c, env.cells.lookup x = some c ∧ h.IsCell c (some u))

structure Cx.Ok (X : Cx) : Prop where
  mod : Mod X.K X.mg X.base
  kind : X.env.scope.kind = .function
  glob : X.env.globals = mainGlobals
  blt : X.env.builtins = builtinsNs
  above : X.s₀.heap.objs.size ≤ X.env.locals
  inj : ∀ x y c, X.env.cells.lookup x = some c → X.env.cells.lookup y = some c → x = y
  has : ∀ x, (X.env.kindOf x = some .cell ∨ X.env.kindOf x = some .free) → ∃ c, X.env.cells.lookup x = some c
  cab : ∀ x c, X.fn x = true → X.env.cells.lookup x = some c → X.s₀.heap.objs.size ≤ c
  hd : X.calm = true → X.A.handled = none
  frames : X.A.frames = some X.stack
  stk : X.stack = X.outer ∨ (X.stack = X.env :: X.outer ∧ X.env.frame = some X.env.locals)
  exf : ∀ b ∈ X.ex, b ≠ X.env.locals ∧ ∀ x c, X.env.cells.lookup x = some c → c ≠ b
  bs : ∀ b o, X.base.get? b = some o → X.s₀.heap.get? b = some o ∧ X.H₀ b = none
  bsz : X.base.objs.size ≤ X.s₀.heap.objs.size
  noex : ∀ b o, X.base.get? b = some o → b ∉ X.ex
  exfs : ∀ b ∈ X.ex, b ∉ X.fs
  funs : X.s₀.heap.FunFrames X.base X.outer
  frf : ∀ b ∈ X.fs, X.H₀ b = none

structure Inv (X : Cx) (pins : List (Addr × Obj)) (σ : List (Option V)) (H : Hp) (s : Shared) : Prop where
  ok : X.Ok
  os : s.os = X.s₀.os
  bare : AllBare s.gens
  base : Un X.fs X.ex X.H₀ H X.s₀.heap s.heap
  loc : ∃ m, s.heap.Ns X.env.locals m ∧ ∀ (i : Nat) (x : Str) (v : V), X.N[i]? = some x → σ[i]? = some (some v) → Vis X.env.scope x → ∃ u, RelV v u ∧ Look X.env s.heap m x u
  cell : ∀ x c, X.env.cells.lookup x = some c → ∃ v, s.heap.IsCell c v
  free : H X.env.locals = none
  freeC : ∀ x c, X.env.cells.lookup x = some c → H c = none
  pin : ∀ p ∈ X.pn ++ pins, s.heap.get? p.1 = some p.2 ∧ H p.1 = none ∧ p.1 ≠ X.env.locals ∧ p.1 ∉ X.fs ∧ ∀ v, p.2.data ≠ .cell v
  hok : HOk X.prog X.w H s.heap
  len : σ.length = X.N.length

section
variable {X : Cx} {pins : List (Addr × Obj)} {σ : List (Option V)} {H H' : Hp} {s : Shared} {h' : Heap}

theorem Cx.Ok.nofr (ok : X.Ok) {b : Addr} {o : Obj} (e : X.base.get? b = some o) : b ∉ X.fs := fun hb => by
  have := (ok.funs.mem hb).1
  rw [e] at this; cases this
theorem Inv.bs (I : Inv X pins σ H s) : ∀ b o, X.base.get? b = some o → s.heap.get? b = some o ∧ H b = none := fun b o e =>
  ⟨I.base.keep b o (I.ok.bs b o e).1 (I.ok.bs b o e).2 (I.ok.nofr e) (I.ok.noex b o e), I.base.free b o (I.ok.bs b o e).1 (I.ok.bs b o e).2 (I.ok.noex b o e)⟩
theorem Inv.bk (I : Inv X pins σ H s) : ∀ b o, X.base.get? b = some o → s.heap.get? b = some o := fun b o e => (I.bs b o e).1
theorem Inv.mod (I : Inv X pins σ H s) : Mod X.K X.mg X.base := I.ok.mod
theorem Inv.kIn (I : Inv X pins σ H s) : X.K.In s.heap := I.ok.mod.kin.keeps I.bk
theorem Inv.nolimit (I : Inv X pins σ H s) : s.heap.NoLimit := I.ok.mod.nolimit.keeps I.bk
theorem Inv.lt (I : Inv X pins σ H s) : X.env.locals < s.heap.objs.size := let ⟨_, hn, _⟩ := I.loc; hn.lt
theorem Inv.sz (I : Inv X pins σ H s) : X.s₀.heap.objs.size ≤ s.heap.objs.size := Nat.le_trans I.ok.above (Nat.le_of_lt I.lt)
theorem Inv.nofs (I : Inv X pins σ H s) {a : Addr} (h : s.heap.objs.size ≤ a) : a ∉ X.fs := fun hb => by
  obtain ⟨_, o, ho, _⟩ := I.ok.funs.mem hb
  exact absurd (Nat.lt_of_lt_of_le (Heap.lt_size ho) (Nat.le_trans I.sz h)) (Nat.lt_irrefl _)
theorem Inv.cne (I : Inv X pins σ H s) : ∀ x c, X.env.cells.lookup x = some c → c ≠ X.env.locals := fun x c e z => by
  obtain ⟨v, o, ho, hd⟩ := I.cell x c e
  obtain ⟨m, ⟨o', es, ep, ho', hd', _⟩, _⟩ := I.loc
  rw [z, ho'] at ho; cases ho; rw [hd'] at hd; cases hd
theorem Inv.funs (I : Inv X pins σ H s) : s.heap.FunFrames X.base X.outer := by
  have all : ∀ (l : List Env), (∀ b ∈ frs l, b ∈ X.fs) → X.s₀.heap.FunFrames X.base l → s.heap.FunFrames X.base l := by
    intro l
    induction l with
    | nil => intro _ _; trivial
    | cons env r ih =>
      intro hs hl
      obtain ⟨hk, ⟨L, o, hf, hn, ho, hd⟩, hr⟩ := hl
      have hL : L ∈ X.fs := hs L (by unfold frs; rw [List.filterMap_cons, hf]; exact List.mem_cons_self)
      obtain ⟨sl, e⟩ := I.base.slot L o ho (I.ok.frf L hL) hL fun z => I.ok.exfs L z hL
      exact ⟨hk, ⟨L, _, hf, hn, e, hd⟩, ih (fun b hb => hs b (by unfold frs; rw [List.filterMap_cons, hf]; exact List.mem_cons_of_mem _ hb)) hr⟩
  exact all X.outer (fun _ hb => hb) I.ok.funs

/-- the frames that run, for a call -/
theorem Inv.stack (I : Inv X pins σ H s) : s.heap.FunFrames X.base X.stack := by
  rcases I.ok.stk with e | ⟨e, hf⟩
  · rw [e]; exact I.funs
  · rw [e]
    obtain ⟨m, hn, _⟩ := I.loc
    refine .cons (by rw [I.ok.kind]; decide) hf hn ?_ I.funs
    exact Heap.get?_none_of_le (Nat.le_trans I.ok.bsz I.ok.above)
theorem Inv.stkSub (I : Inv X pins σ H s) : ∀ b ∈ frs X.stack, b ∈ X.env.locals :: X.fs := fun b hb => by
  rcases I.ok.stk with e | ⟨e, hf⟩
  · rw [e] at hb; exact List.mem_cons_of_mem _ hb
  · rw [e] at hb
    unfold frs at hb
    rw [List.filterMap_cons, hf] at hb
    exact hb
theorem Inv.stkFree (I : Inv X pins σ H s) : ∀ b ∈ frs X.stack, H b = none := fun b hb => by
  rcases List.mem_cons.mp (I.stkSub b hb) with e | hb
  · rw [e]; exact I.free
  · obtain ⟨_, o, ho, _⟩ := I.ok.funs.mem hb
    exact I.base.free b o ho (I.ok.frf b hb) fun z => I.ok.exfs b z hb

/-- THE STEP: the untracked objects but the frame and the records at ch are kept (the callers' frames up to slots), the frame's map is kept, the new abstract heap is held -/
theorem Inv.step {g' : Array GenState} {t' : Nat} {d' : Drawn} {ch : List Addr} (I : Inv X pins σ H s)
    (hch : ∀ b ∈ ch, (b ∈ X.ex ∨ X.s₀.heap.objs.size ≤ b) ∧ b ≠ X.env.locals ∧ (∀ x c, X.env.cells.lookup x = some c → c ≠ b) ∧ ∀ p ∈ X.pn ++ pins, p.1 ≠ b)
    (keep : ∀ b o, b ≠ X.env.locals → b ∉ X.fs → b ∉ ch → s.heap.get? b = some o → H b = none → h'.get? b = some o)
    (slot : ∀ b o, b ≠ X.env.locals → b ∈ X.fs → b ∉ ch → s.heap.get? b = some o → H b = none → ∃ sl, h'.get? b = some { o with slots := sl }) (free : ∀ b o, b ∉ ch → s.heap.get? b = some o → H b = none → H' b = none)
    (there : ∀ b o, b ∉ ch → s.heap.get? b = some o → ∃ o', h'.get? b = some o')
    (tups : ∀ b xs, H b = some (.tup xs) → H' b = some (.tup xs)) (frzs : ∀ b o u, H b = some (.frz o u) → H' b = some (.frz o u)) (tbls : ∀ b ps, H b = some (.tbl ps) → ∃ more, H' b = some (.tbl (ps ++ more)))
    (ns : ∀ m, s.heap.Ns X.env.locals m → h'.Ns X.env.locals m) (hok : HOk X.prog X.w H' h') (hg : AllBare g') :
    Inv X pins σ H' { s with heap := h', gens := g', drawn := d', toks := t' } := by
  have neL : ∀ b o, X.s₀.heap.get? b = some o → b ≠ X.env.locals := fun b o e => Nat.ne_of_lt (Nat.lt_of_lt_of_le (Heap.lt_size e) I.ok.above)
  have neC : ∀ b o, X.s₀.heap.get? b = some o → b ∉ X.ex → b ∉ ch := fun b o e hx hb => by
    rcases (hch b hb).1 with z | z
    · exact hx z
    · exact absurd (Nat.lt_of_lt_of_le (Heap.lt_size e) z) (Nat.lt_irrefl _)
  have cellK : ∀ x c, X.env.cells.lookup x = some c → ∀ v, s.heap.IsCell c v → h'.IsCell c v := fun x c e v ⟨o, ho, hd⟩ => by
    have nch : c ∉ ch := fun z => (hch c z).2.2.1 x c e rfl
    by_cases hc : c ∈ X.fs
    · obtain ⟨sl, q⟩ := slot c o (I.cne x c e) hc nch ho (I.freeC x c e)
      exact ⟨_, q, hd⟩
    · exact ⟨o, keep c o (I.cne x c e) hc nch ho (I.freeC x c e), hd⟩
  refine ⟨I.ok, I.os, hg, ⟨fun b o e n hb hx => ?_, fun b o e n hb hx => ?_, fun b o e n hx => ?_, fun b o e hx => ?_, fun b xs e => tups b xs (I.base.tups b xs e), fun b o xs e => frzs b o xs (I.base.frzs b o xs e), fun b ps e => ?_⟩, ?_, fun x c e => ?_, ?_, fun x c e => ?_, fun p hp => ?_, hok, I.len⟩
  · exact keep b o (neL b o e) hb (neC b o e hx) (I.base.keep b o e n hb hx) (I.base.free b o e n hx)
  · obtain ⟨sl, e1⟩ := I.base.slot b o e n hb hx
    obtain ⟨sl', e2⟩ := slot b _ (neL b o e) hb (neC b o e hx) e1 (I.base.free b o e n hx)
    exact ⟨sl', e2⟩
  · obtain ⟨o', e1⟩ := I.base.there b o e hx
    exact free b o' (neC b o e hx) e1 (I.base.free b o e n hx)
  · obtain ⟨o', e1⟩ := I.base.there b o e hx
    exact there b o' (neC b o e hx) e1
  · obtain ⟨m1, e1⟩ := I.base.tbls b ps e
    obtain ⟨m2, e2⟩ := tbls b _ e1
    exact ⟨m1 ++ m2, by rw [e2, Array.append_assoc]⟩
  · obtain ⟨m, hn, hl⟩ := I.loc
    refine ⟨m, ns m hn, fun i x v e1 e2 e3 => ?_⟩
    obtain ⟨u, r, l⟩ := hl i x v e1 e2 e3
    refine ⟨u, r, ?_⟩
    rcases l with l | ⟨k, c, e, z⟩
    · exact .inl l
    · exact .inr ⟨k, c, e, cellK x c e _ z⟩
  · obtain ⟨v, z⟩ := I.cell x c e
    exact ⟨v, cellK x c e v z⟩
  · obtain ⟨m, ⟨o, _, _, ho, _⟩, _⟩ := I.loc
    exact free _ o (fun z => (hch _ z).2.1 rfl) ho I.free
  · obtain ⟨v, o, ho, hd⟩ := I.cell x c e
    exact free c o (fun z => (hch c z).2.2.1 x c e rfl) ho (I.freeC x c e)
  · obtain ⟨e, n, ne, nf, d⟩ := I.pin p hp
    have nch : p.1 ∉ ch := fun z => (hch p.1 z).2.2.2 p hp rfl
    exact ⟨keep p.1 p.2 ne nf nch e n, free p.1 p.2 nch e n, ne, nf, d⟩
/-- .. where the frame's own object is kept too -/
theorem Inv.un {t' : Nat} (I : Inv X pins σ H s) (u : Un X.fs [] H H' s.heap h') (hok : HOk X.prog X.w H' h') : Inv X pins σ H' { s with heap := h', toks := t' } := by
  obtain ⟨m, ⟨o, es, ep, ho, r⟩, _⟩ := id I.loc
  obtain ⟨sl, hL⟩ := u.any ho I.free (by simp)
  exact I.step (g' := s.gens) (d' := s.drawn) (ch := []) (fun _ z => nomatch z) (fun b o _ hb _ e n => u.keep b o e n hb (by simp)) (fun b o _ hb _ e n => u.slot b o e n hb (by simp)) (fun b o _ e n => u.free b o e n (by simp)) (fun b o _ e => u.there b o e (by simp)) u.tups u.frzs u.tbls (fun m' hm => by
    obtain ⟨o', es', ep', ho', r'⟩ := hm
    rw [ho] at ho'; cases ho'
    exact ⟨_, es', ep', hL, r'⟩) hok I.bare
/-- behind a call (or a comprehension's block): the slots of this frame may have changed too, the records at ch may have turned -/
theorem Inv.call {g' : Array GenState} {t' : Nat} {d' : Drawn} {ch : List Addr} (I : Inv X pins σ H s) (u : Un (frs X.stack) ch H H' s.heap h') (hok : HOk X.prog X.w H' h') (hg : AllBare g')
    (hch : ∀ b ∈ ch, (b ∈ X.ex ∨ X.s₀.heap.objs.size ≤ b) ∧ b ≠ X.env.locals ∧ (∀ x c, X.env.cells.lookup x = some c → c ≠ b) ∧ ∀ p ∈ X.pn ++ pins, p.1 ≠ b) :
    Inv X pins σ H' { s with heap := h', gens := g', drawn := d', toks := t' } := by
  obtain ⟨m, ⟨o, es, ep, ho, r⟩, _⟩ := id I.loc
  obtain ⟨sl, hL⟩ := u.any ho I.free fun z => (hch _ z).2.1 rfl
  exact I.step (ch := ch) hch (fun b o hL hb hc e n => u.keep b o e n (fun z => (List.mem_cons.mp (I.stkSub b z)).elim hL hb) hc) (fun b o _ _ hc e n => u.any e n hc) (fun b o hc e n => u.free b o e n hc) (fun b o hc e => u.there b o e hc) u.tups u.frzs u.tbls (fun m' hm => by
    obtain ⟨o', es', ep', ho', r'⟩ := hm
    rw [ho] at ho'; cases ho'
    exact ⟨_, es', ep', hL, r'⟩) hok hg
/-- an untracked record of ours (an iterator) has turned -/
theorem Inv.turned {t' : Nat} {it : Addr} (I : Inv X pins σ H s) (k : ∀ b o, b ≠ it → s.heap.get? b = some o → h'.get? b = some o) (hn : H it = none) (hL : it ≠ X.env.locals)
    (h1 : it ∈ X.ex ∨ X.s₀.heap.objs.size ≤ it) (h2 : ∀ x c, X.env.cells.lookup x = some c → c ≠ it) (h3 : ∀ p ∈ X.pn ++ pins, p.1 ≠ it) : Inv X pins σ H { s with heap := h', toks := t' } := by
  have nit : ∀ b u, H b = some u → b ≠ it := fun b u e z => by rw [z, hn] at e; cases e
  refine I.step (g' := s.gens) (d' := s.drawn) (ch := [it]) (fun b hb => ?_) (fun b o _ _ hc e _ => k b o (fun z => hc (by simp [z])) e) (fun b o _ _ hc e _ => ⟨o.slots, k b o (fun z => hc (by simp [z])) e⟩) (fun _ _ _ _ n => n)
    (fun b o hc e => ⟨o, k b o (fun z => hc (by simp [z])) e⟩) (fun _ _ e => e) (fun _ _ _ e => e) (fun b ps e => ⟨#[], by rw [e]; simp⟩) (fun m hm => ?_) (fun b u e => ?_) I.bare
  · have e : b = it := by simpa using hb
    subst e
    exact ⟨h1, hL, h2, h3⟩
  · obtain ⟨o, es, ep, ho, r⟩ := hm
    exact ⟨o, es, ep, k _ o (Ne.symm hL) ho, r⟩
  · refine (I.hok b u e).stay (fun c v hc q => k c v ?_ q) (fun _ q => q) fun _ _ q => q
    rcases hc with z | z
    · rw [z]; exact nit b u e
    · exact nit c _ z
theorem Inv.tok (I : Inv X pins σ H s) (t : Nat) : Inv X pins σ H { s with toks := t } := I.un (h' := s.heap) (t' := t) Un.refl I.hok
/-- all objects kept -/
theorem Inv.kept {t' : Nat} (I : Inv X pins σ H s) (k : ∀ b u, s.heap.get? b = some u → h'.get? b = some u) : Inv X pins σ H { s with heap := h', toks := t' } := I.un (Un.kept k) (I.hok.kept k)
/-- a new object laid and tracked -/
theorem Inv.laid {a : Addr} {o : HO} {t' : Nat} (I : Inv X pins σ H s) (k : ∀ b u, s.heap.get? b = some u → h'.get? b = some u) (hp : s.heap.objs.size ≤ a) (new : ObjOk X.prog X.w (upd H a o) h' a o) :
    Inv X pins σ (upd H a o) { s with heap := h', toks := t' } := I.un (Un.laid k hp (I.hok.fresh hp)) (I.hok.laid k hp new)
/-- an object written -/
theorem Inv.write {x e : Addr} {o : HO} {t' : Nat} (I : Inv X pins σ H s) (mu : Mut (H x)) (he : e = x ∨ H e = some (.own x)) (k : ∀ b u, b ≠ e → s.heap.get? b = some u → h'.get? b = some u) (heo : ∃ u, h'.get? e = some u)
    (new : ObjOk X.prog X.w (upd H x o) h' x o) : Inv X pins σ (upd H x o) { s with heap := h', toks := t' } := I.un (Un.write mu he k heo) (I.hok.write mu he k heo new)
/-- forgetting slots, pins -/
theorem Inv.weak {σ' : List (Option V)} (I : Inv X pins σ H s) (hl : σ'.length = σ.length) (w : ∀ (i : Nat) v, σ'[i]? = some (some v) → σ[i]? = some (some v)) : Inv X pins σ' H s :=
  ⟨I.ok, I.os, I.bare, I.base, let ⟨m, hn, hl'⟩ := I.loc; ⟨m, hn, fun i x v e1 e2 e3 => hl' i x v e1 (w i v e2) e3⟩, I.cell, I.free, I.freeC, I.pin, I.hok, hl.trans I.len⟩
theorem Inv.pins_of {pins' : List (Addr × Obj)} (I : Inv X pins σ H s) (h : ∀ p ∈ pins', s.heap.get? p.1 = some p.2 ∧ H p.1 = none ∧ p.1 ≠ X.env.locals ∧ p.1 ∉ X.fs ∧ ∀ v, p.2.data ≠ .cell v) : Inv X pins' σ H s :=
  ⟨I.ok, I.os, I.bare, I.base, I.loc, I.cell, I.free, I.freeC, fun p hp => (List.mem_append.mp hp).elim (fun z => I.pin p (List.mem_append_left _ z)) (h p), I.hok, I.len⟩

theorem nodup_ix {N : List Str} (hN : N.Nodup) {i j : Nat} {x : Str} (a : N[i]? = some x) (b : N[j]? = some x) : i = j := by
  obtain ⟨h1, e1⟩ := List.getElem?_eq_some_iff.mp a
  obtain ⟨h2, e2⟩ := List.getElem?_eq_some_iff.mp b
  exact (List.getElem_inj hN).mp (e1.trans e2.symm)

/-- a name is stored; what changed -/
theorem store_ok2 {M : Model} {A : Around} {E : Value → Shared → Prop} {i : Nat} {x : Str} {v : V} {u : Value} {Q : Unit → Shared → Prop} (I : Inv X pins σ H s) (hN : X.N.Nodup) (hi : X.N[i]? = some x) (hx : Loc X.env.scope x) (r : RelV v u)
    (h : ∀ s', Inv X pins (σ.set i (some v)) H s' → (∃ a, Heap.SameBut a s.heap s'.heap ∧ (a = X.env.locals ∨ X.env.cells.lookup x = some a)) → Q () s') (hf : X.fn x = true ∨ X.env.scope.names.lookup x = some .local := by first | exact .inl rfl | exact .inr rfl | assumption) : wpAny M A (storeName X.env x u) Q E s := by
  obtain ⟨m, hn, hl⟩ := id I.loc
  have hcls : (X.env.scope.kind == .class || (X.env.scope.kind == .module && X.env.locals != X.env.globals)) = false := by rw [I.ok.kind]; rfl
  have hiσ : i < σ.length := by rw [I.len]; exact (List.getElem?_eq_some_iff.mp hi).1
  have cne := I.cne
  have tracked : ∀ {a : Addr} {h' : Heap}, (∃ o, s.heap.get? a = some o ∧ H a = none) → Heap.SameBut a s.heap h' → HOk X.prog X.w H h' := fun {a h'} ha hs b ob e => by
    obtain ⟨_, _, hfree⟩ := ha
    refine (I.hok b ob e).stay (fun c w' hc q => (hs.2 c ?_).trans q) (fun _ q => q) fun _ _ q => q
    rintro rfl
    rcases hc with rfl | hc
    · rw [hfree] at e; cases e
    · rw [hfree] at hc; cases hc
  rcases hx with hk | hk
  · refine wpAny_storeName_local hk hn (fun h' hn' hs => ?_) hcls
    obtain ⟨oL, _, _, hoL, _⟩ := id hn
    refine h _ ⟨I.ok, I.os, I.bare, ⟨fun b o e n hb hx => ?_, fun b o e n hb hx => ?_, I.base.free, fun b o e hx => ?_, I.base.tups, I.base.frzs, I.base.tbls⟩, ⟨_, hn', fun j y v' e1 e2 e3 => ?_⟩, fun y c e => ?_, I.free, I.freeC, fun p hp => ?_, tracked ⟨oL, hoL, I.free⟩ hs, by simpa using I.len⟩ ⟨_, hs, .inl rfl⟩
    · exact (hs.2 b (Nat.ne_of_lt (Nat.lt_of_lt_of_le (Heap.lt_size e) I.ok.above))).trans (I.base.keep b o e n hb hx)
    · obtain ⟨sl, e1⟩ := I.base.slot b o e n hb hx
      exact ⟨sl, (hs.2 b (Nat.ne_of_lt (Nat.lt_of_lt_of_le (Heap.lt_size e) I.ok.above))).trans e1⟩
    · obtain ⟨o', e1⟩ := I.base.there b o e hx
      exact ⟨o', (hs.2 b (Nat.ne_of_lt (Nat.lt_of_lt_of_le (Heap.lt_size e) I.ok.above))).trans e1⟩
    · by_cases hj : j = i
      · subst hj
        rw [hi] at e1; cases e1
        rw [List.getElem?_set_self hiσ] at e2
        cases e2
        exact ⟨u, r, .inl ⟨hk, by simp⟩⟩
      · rw [List.getElem?_set_ne (Ne.symm hj)] at e2
        obtain ⟨u', r', q⟩ := hl j y v' e1 e2 e3
        refine ⟨u', r', ?_⟩
        rcases q with ⟨k, e⟩ | ⟨k, c, e, z⟩
        · refine .inl ⟨k, ?_⟩
          have : y ≠ x := fun e => hj (nodup_ix hN e1 (e ▸ hi))
          simp [this, e]
        · exact .inr ⟨k, c, e, z.sameBut hs (cne y c e)⟩
    · obtain ⟨w', z⟩ := I.cell y c e
      exact ⟨w', z.sameBut hs (cne y c e)⟩
    · obtain ⟨e, n, ne, nf, d⟩ := I.pin p hp
      exact ⟨(hs.2 p.1 ne).trans e, n, ne, nf, d⟩
  · have hfn : X.fn x = true := by
      rcases hf with z | z
      · exact z
      · rw [z] at hk; cases hk
    obtain ⟨c, hc⟩ := I.ok.has x (.inl hk)
    obtain ⟨w', z⟩ := I.cell x c hc
    refine wpAny_storeName_cell I.ok.kind hk hc z (fun h' hc' hs => ?_)
    obtain ⟨oc, hoc, hocd⟩ := id z
    refine h { s with heap := h' } ⟨I.ok, I.os, I.bare, ⟨fun b o e n hb hx => ?_, fun b o e n hb hx => ?_, I.base.free, fun b o e hx => ?_, I.base.tups, I.base.frzs, I.base.tbls⟩, ⟨m, hn.sameBut hs (Ne.symm (cne x c hc)), fun j y v' e1 e2 e3 => ?_⟩, fun y c' e => ?_, I.free, I.freeC, fun p hp => ?_, tracked ⟨oc, hoc, I.freeC x c hc⟩ hs, by simpa using I.len⟩ ⟨c, hs, .inr hc⟩
    · exact (hs.2 b (Nat.ne_of_lt (Nat.lt_of_lt_of_le (Heap.lt_size e) (I.ok.cab x c hfn hc)))).trans (I.base.keep b o e n hb hx)
    · obtain ⟨sl, e1⟩ := I.base.slot b o e n hb hx
      exact ⟨sl, (hs.2 b (Nat.ne_of_lt (Nat.lt_of_lt_of_le (Heap.lt_size e) (I.ok.cab x c hfn hc)))).trans e1⟩
    · obtain ⟨o', e1⟩ := I.base.there b o e hx
      exact ⟨o', (hs.2 b (Nat.ne_of_lt (Nat.lt_of_lt_of_le (Heap.lt_size e) (I.ok.cab x c hfn hc)))).trans e1⟩
    · by_cases hj : j = i
      · subst hj
        rw [hi] at e1; cases e1
        rw [List.getElem?_set_self hiσ] at e2
        cases e2
        exact ⟨u, r, .inr ⟨.inl hk, c, hc, hc'⟩⟩
      · rw [List.getElem?_set_ne (Ne.symm hj)] at e2
        obtain ⟨u', r', q⟩ := hl j y v' e1 e2 e3
        refine ⟨u', r', ?_⟩
        rcases q with q | ⟨k, c', e, z'⟩
        · exact .inl q
        · refine .inr ⟨k, c', e, z'.sameBut hs ?_⟩
          rintro rfl
          exact hj (nodup_ix hN e1 (I.ok.inj _ _ _ e hc ▸ hi))
    · by_cases hcc : c' = c
      · subst hcc; exact ⟨_, hc'⟩
      · obtain ⟨w2, z2⟩ := I.cell y c' e
        exact ⟨w2, z2.sameBut hs hcc⟩
    · obtain ⟨e, n, ne, nf, d⟩ := I.pin p hp
      refine ⟨(hs.2 p.1 ?_).trans e, n, ne, nf, d⟩
      intro q
      rw [q, hoc] at e
      have q' : oc = p.2 := Option.some.inj e
      exact d w' (by rw [← q']; exact hocd)
theorem store_ok {M : Model} {A : Around} {E : Value → Shared → Prop} {i : Nat} {x : Str} {v : V} {u : Value} {Q : Unit → Shared → Prop} (I : Inv X pins σ H s) (hN : X.N.Nodup) (hi : X.N[i]? = some x) (hx : Loc X.env.scope x) (r : RelV v u)
    (h : ∀ s', Inv X pins (σ.set i (some v)) H s' → Q () s') (hf : X.fn x = true ∨ X.env.scope.names.lookup x = some .local := by first | exact .inl rfl | exact .inr rfl | assumption) : wpAny M A (storeName X.env x u) Q E s :=
  store_ok2 I hN hi hx r (fun s' I' _ => h s' I') hf
/-- behind a call or a block, the state as it is -/
theorem Inv.call' {s' : Shared} {ch : List Addr} (I : Inv X pins σ H s) (ho : s'.os = s.os) (u : Un (frs X.stack) ch H H' s.heap s'.heap) (hok : HOk X.prog X.w H' s'.heap) (hg : AllBare s'.gens)
    (hch : ∀ b ∈ ch, (b ∈ X.ex ∨ X.s₀.heap.objs.size ≤ b) ∧ b ≠ X.env.locals ∧ (∀ x c, X.env.cells.lookup x = some c → c ≠ b) ∧ ∀ p ∈ X.pn ++ pins, p.1 ≠ b) : Inv X pins σ H' s' := by
  obtain ⟨h', g', d', t', o'⟩ := s'
  have e : o' = s.os := ho
  subst e
  exact I.call (g' := g') (t' := t') (d' := d') u hok hg hch
end

/-! ### the judgements -/
/-- an exception: its class, its own dict's address (where it has one), the abstract heap behind it -/
abbrev XK := Value → Option Addr → Hp → Prop
abbrev St := List (Option V)
abbrev VK := V → Hp → Prop
/-- an expression's reading; a test's; an argument list's -/
abbrev TE := St → Hp → VK → Prop
abbrev TT := St → Hp → (Bool → Hp → Prop) → Prop
abbrev TA := St → Hp → (List V → Hp → Prop) → Prop
/-- what is wanted behind a statement -/
structure Ends where
  nx : St → Hp → Prop
  rt : VK
  bk : St → Hp → Prop := fun _ _ => False
  ct : St → Hp → Prop := fun _ _ => False
abbrev TS := Ends → St → Hp → Prop

def EP (X : Cx) (pins : List (Addr × Obj)) (σ : St) (Q : VK) (u : Value) (s' : Shared) : Prop := ∃ v H', Inv X pins σ H' s' ∧ RelV v u ∧ Q v H'
def TP (X : Cx) (pins : List (Addr × Obj)) (σ : St) (Q : Bool → Hp → Prop) (b : Bool) (s' : Shared) : Prop := ∃ H', Inv X pins σ H' s' ∧ Q b H'
def AP (X : Cx) (pins : List (Addr × Obj)) (σ : St) (Q : List V → Hp → Prop) (us : List Value) (s' : Shared) : Prop := ∃ vs H', Inv X pins σ H' s' ∧ Vals vs us ∧ Q vs H'
def SP (X : Cx) (pins : List (Addr × Obj)) (D : Ends) (f : Flow) (s' : Shared) : Prop :=
  match f with
  | .next => ∃ σ' H', Inv X pins σ' H' s' ∧ D.nx σ' H'
  | .brk => ∃ σ' H', Inv X pins σ' H' s' ∧ D.bk σ' H'
  | .cont => ∃ σ' H', Inv X pins σ' H' s' ∧ D.ct σ' H'
  | .ret u => ∃ v σ' H', Inv X pins σ' H' s' ∧ RelV v u ∧ D.rt v H'

def PE (X : Cx) (e : Expr) (t : TE) : Prop :=
  ∀ (pins : List (Addr × Obj)) (s : Shared) (σ : St) (H : Hp) (Q : VK), Inv X pins σ H s → t σ H Q → wpAny (model X.prog X.w) X.A (eval e X.env) (EP X pins σ Q) X.xe s
def PT (X : Cx) (e : Expr) (t : TT) : Prop :=
  ∀ (pins : List (Addr × Obj)) (s : Shared) (σ : St) (H : Hp) (Q : Bool → Hp → Prop), Inv X pins σ H s → t σ H Q → wpAny (model X.prog X.w) X.A (isTrue e X.env (eval e X.env)) (TP X pins σ Q) X.xe s
/-- a test whatever its 'whole' is (and, or) -/
def PW (X : Cx) (e : Expr) (t : TT) : Prop :=
  ∀ (whole : Sem Value) (pins : List (Addr × Obj)) (s : Shared) (σ : St) (H : Hp) (Q : Bool → Hp → Prop), Inv X pins σ H s → t σ H Q → wpAny (model X.prog X.w) X.A (isTrue e X.env whole) (TP X pins σ Q) X.xe s
theorem PW.pt {X : Cx} {e : Expr} {t : TT} (h : PW X e t) : PT X e t := h _
/-- an argument list (no star), from the left -/
def PA (X : Cx) (es : List Expr) (t : TA) : Prop :=
  ∀ (pos : Pos) (pins : List (Addr × Obj)) (s : Shared) (σ : St) (H : Hp) (Q : List V → Hp → Prop), Inv X pins σ H s → t σ H Q → wpAny (model X.prog X.w) X.A (spliced (backTo pos (starEach es X.env))) (AP X pins σ Q) X.xe s
def PS (X : Cx) (st : Stmt) (t : TS) : Prop :=
  ∀ (pins : List (Addr × Obj)) (s : Shared) (σ : St) (H : Hp) (D : Ends), Inv X pins σ H s → t D σ H → wpAny (model X.prog X.w) X.A (exec st X.env) (SP X pins D) X.xe s
def PSs (X : Cx) (st : List Stmt) (t : TS) : Prop :=
  ∀ (pins : List (Addr × Obj)) (s : Shared) (σ : St) (H : Hp) (D : Ends), Inv X pins σ H s → t D σ H → wpAny (model X.prog X.w) X.A (execs st X.env) (SP X pins D) X.xe s
/-- weaken the end -/
theorem thn {α : Type} {t : Sem α} {Q Q' : α → Shared → Prop} {M : Model} {A : Around} {E : Value → Shared → Prop} {s : Shared} (h : wpAny M A t Q E s) (hQ : ∀ a s, Q a s → Q' a s) : wpAny M A t Q' E s := wpAny_mono h hQ fun _ _ x => x
end L2

namespace L2
open PySem PySem.Spec PyProof.Rows
section
variable {X : Cx}


/-! ### names and constants -/
def tVar (i : Nat) : TE := fun σ H Q => ∃ v, σ[i]? = some (some v) ∧ Q v H
def tC (v : V) : TE := fun _ H Q => Q v H
theorem pe_var {i : Nat} {x : Str} {pos : Pos} (hN : X.N[i]? = some x) (hv : Vis X.env.scope x) (hd : (x == ("__debug__" : Str)) = false := by decide) (hcd : (x == ("__classdict__" : Str)) = false := by decide) : PE X (.Name x pos) (tVar i) := by
  intro pins s σ H Q I h
  obtain ⟨v, e, h⟩ := h
  obtain ⟨m, hn, hl⟩ := I.loc
  obtain ⟨u, r, l⟩ := hl i x v hN e hv
  have fin : EP X pins σ Q u s := ⟨v, H, I, r, h⟩
  rcases l with ⟨hk, hm⟩ | ⟨hk, c, hc, hcell⟩
  · exact wpAny_Name (wpAny_loadName_local I.ok.kind hk hn hm fin) hd
  · rcases hk with hk | hk
    · exact wpAny_Name (wpAny_loadName_cell I.ok.kind hk hc hcell fin) hd
    · exact wpAny_Name (wpAny_loadName_free I.ok.kind hk hc hcell fin hcd) hd
theorem pe_int {i j pos} : PE X (.Constant (.int i) j pos) (tC (.int i)) := fun _ _ _ H _ I h => wpAny_Constant_int ⟨.int i, H, I.tok _, ⟨_, rfl⟩, h⟩
theorem pe_bl {b j pos} : PE X (.Constant (.bool b) j pos) (tC (.bl b)) := fun _ _ _ H _ I h => Constant_bool ⟨.bl b, H, I, rfl, h⟩
theorem pe_non {j pos} : PE X (.Constant .none j pos) (tC .non) := fun _ _ _ H _ I h => Constant_none ⟨.non, H, I, rfl, h⟩

/-- a global name of the def -/
def Gl (X : Cx) (x : Str) : Prop := X.env.kindOf x = some .globalImplicit
theorem ld_glob {E : Value → Shared → Prop} {pins : List (Addr × Obj)} {s : Shared} {σ : St} {H : Hp} {x : Str} {u : Value} {pos : Pos} {Q : Value → Shared → Prop} (I : Inv X pins σ H s) (hg : Gl X x) (hm : X.mg x = some u) (h : Q u s)
    (hd : (x == ("__debug__" : Str)) = false := by decide) : wpAny (model X.prog X.w) X.A (eval (.Name x pos) X.env) Q E s :=
  Calls.Name_function_global I.ok.kind hg (Calls.loadGlobal_global (by rw [I.ok.glob]; exact I.mod.glob.keeps I.bk) hm h) hd
theorem ld_blt {E : Value → Shared → Prop} {pins : List (Addr × Obj)} {s : Shared} {σ : St} {H : Hp} {x : Str} {u : Value} {pos : Pos} {Q : Value → Shared → Prop} (I : Inv X pins σ H s) (hg : Gl X x) (hm : X.mg x = none) (hv : bootBuiltins x = some u) (h : Q u s)
    (hn : x ≠ "__name__" := by decide) (hd : (x == ("__debug__" : Str)) = false := by decide) : wpAny (model X.prog X.w) X.A (eval (.Name x pos) X.env) Q E s := by
  obtain ⟨mb, h1, h2⟩ := I.mod.blt
  exact Calls.Name_function_global I.ok.kind hg (Calls.loadGlobal_builtin (by rw [I.ok.glob]; exact I.mod.glob.keeps I.bk) hm (by rw [I.ok.blt]; exact h1.keeps I.bk) ((h2 x hn).trans hv) h) hd
/-- a module's constant, a class, a function, as a value -/
theorem pe_glob {x : Str} {v : V} {u : Value} {pos : Pos} (hg : Gl X x) (hm : X.mg x = some u) (r : RelV v u) (hd : (x == ("__debug__" : Str)) = false := by decide) : PE X (.Name x pos) (tC v) :=
  fun _ _ _ H _ I h => ld_glob I hg hm ⟨v, H, I, r, h⟩ hd
theorem pe_bltn {x : Str} {v : V} {u : Value} {pos : Pos} (hg : Gl X x) (hm : X.mg x = none) (hv : bootBuiltins x = some u) (r : RelV v u) (hn : x ≠ "__name__" := by decide) (hd : (x == ("__debug__" : Str)) = false := by decide) : PE X (.Name x pos) (tC v) :=
  fun _ _ _ H _ I h => ld_blt I hg hm hv ⟨v, H, I, r, h⟩ hn hd

/-! ### arithmetic -/
variable {a b : Expr} {ta tb : TE} {pos : Pos}

/-! ### comparisons -/
def PC (X : Cx) (op : CmpOp) (a b : Expr) (t : TE) : Prop :=
  ∀ (pins : List (Addr × Obj)) (s : Shared) (σ : St) (H : Hp) (Q : VK), Inv X pins σ H s → t σ H Q →
    wpAny (model X.prog X.w) X.A (eval a X.env) (fun v s₁ => wpAny (model X.prog X.w) X.A (eval b X.env) (fun u s₂ => wpAny (model X.prog X.w) X.A (compareOp op v u) (EP X pins σ Q) X.xe s₂) X.xe s₁) X.xe s
/-- a comparison as a value, as a test -/
def tB (t : TE) : TT := fun σ H Q => t σ H fun x H1 => ∃ c, x = .bl c ∧ Q c H1
theorem pt_cmp {op : CmpOp} {t : TE} (h : PC X op a b t) (h1 : behindInMarks op b = false := by first | exact nobehind _ (by decide) (by decide) | rfl) : PT X (.Compare a [op] [b] pos) (tB t) := by
  intro pins s σ H Q I hw
  refine wpAny_isTrue_Compare1 (thn (h pins s σ H _ I hw) fun v s1 h1 => thn h1 fun u s2 h2 => thn h2 fun c s3 ⟨x, H1, I1, r1, q1⟩ => ?_) h1
  obtain ⟨d, rfl, q⟩ := q1
  cases r1
  exact wpAny_truthy_bool ⟨H1, I1, q⟩
/-- an expression whose value is a bool, as a test -/
theorem pt_val {e : Expr} {t : TE} (h : PE X e t) (he : ∀ whole, isTrue e X.env whole = (do let v ← whole; standAt e.pos; holding [v] (truthy v)) := by intro _; rfl) : PT X e (tB t) := by
  intro pins s σ H Q I hw
  refine isTrue_plain (thn (h pins s σ H _ I hw) fun v s1 ⟨x, H1, I1, r1, q1⟩ => ?_) (he _)
  obtain ⟨d, rfl, q⟩ := q1
  cases r1
  exact wpAny_truthy_bool ⟨H1, I1, q⟩

/-! ### and, or, not -/
variable {tA tB' : TT} {rest : List Expr}
def tAnd (t u : TT) : TT := fun σ H Q => t σ H fun c H1 => if c = true then u σ H1 Q else Q false H1
def tOr (t u : TT) : TT := fun σ H Q => t σ H fun c H1 => if c = true then Q true H1 else u σ H1 Q
def tNot (t : TT) : TT := fun σ H Q => t σ H fun c H1 => Q (!c) H1
theorem pw_and1 (ha : PT X a tA) : PW X (.BoolOp .And [a] pos) tA := by
  intro wh pins s σ H Q I h
  refine isTrue_and (thn (ha pins s σ H Q I h) fun c s1 e => ?_)
  cases c with
  | true => exact isTrue_and_nil e
  | false => exact e
theorem pw_or1 (ha : PT X a tA) : PW X (.BoolOp .Or [a] pos) tA := by
  intro wh pins s σ H Q I h
  refine isTrue_or (thn (ha pins s σ H Q I h) fun c s1 e => ?_)
  cases c with
  | false => exact isTrue_or_nil e
  | true => exact e
theorem pw_and (ha : PT X a tA) (hb : PW X (.BoolOp .And (b :: rest) pos) tB') : PW X (.BoolOp .And (a :: b :: rest) pos) (tAnd tA tB') := by
  intro wh pins s σ H Q I h
  refine isTrue_and (thn (ha pins s σ H _ I h) fun c s1 ⟨H1, I1, q1⟩ => ?_)
  cases c with
  | true => exact hb wh pins s1 σ H1 Q I1 q1
  | false => exact ⟨H1, I1, q1⟩
theorem pw_or (ha : PT X a tA) (hb : PW X (.BoolOp .Or (b :: rest) pos) tB') : PW X (.BoolOp .Or (a :: b :: rest) pos) (tOr tA tB') := by
  intro wh pins s σ H Q I h
  refine isTrue_or (thn (ha pins s σ H _ I h) fun c s1 ⟨H1, I1, q1⟩ => ?_)
  cases c with
  | true => exact ⟨H1, I1, q1⟩
  | false => exact hb wh pins s1 σ H1 Q I1 q1
theorem pt_not (ha : PT X a tA) : PT X (.UnaryOp .Not a pos) (tNot tA) := by
  intro pins s σ H Q I h
  exact isTrue_not (ha pins s σ H (fun c H1 => Q (!c) H1) I h)
/-- .. as values (bools) -/
def tAndV (ta tb : TE) : TE := fun σ H Q => ta σ H fun x H1 => ∃ c, x = .bl c ∧ if c = true then tb σ H1 Q else Q (.bl false) H1
def tNotV (ta : TE) : TE := fun σ H Q => ta σ H fun x H1 => ∃ c, x = .bl c ∧ Q (.bl (!c)) H1
theorem pe_one {op} {t : TE} (h : PE X a t) : PE X (.BoolOp op [a] pos) t := fun pins s σ H Q I hw => BoolOp_one (h pins s σ H Q I hw)
theorem pe_and (ha : PE X a ta) (hb : PE X (.BoolOp .And (b :: rest) pos) tb) : PE X (.BoolOp .And (a :: b :: rest) pos) (tAndV ta tb) := by
  intro pins s σ H Q I h
  refine BoolOp_and (thn (ha pins s σ H _ I h) fun v s1 ⟨x, H1, I1, r1, q1⟩ => ?_)
  obtain ⟨c, rfl, q1⟩ := q1
  cases r1
  refine wpAny_truthy_bool ?_
  cases c with
  | true => exact hb pins s1 σ H1 Q I1 q1
  | false => exact ⟨.bl false, H1, I1, rfl, q1⟩
theorem pe_not (ha : PE X a ta) : PE X (.UnaryOp .Not a pos) (tNotV ta) := by
  intro pins s σ H Q I h
  refine UnaryOp_ (thn (ha pins s σ H _ I h) fun v s1 ⟨x, H1, I1, r1, q1⟩ => ?_)
  obtain ⟨c, rfl, q1⟩ := q1
  cases r1
  exact not_of (wpAny_truthy_bool ⟨.bl (!c), H1, I1, rfl, q1⟩)
/-- a if t else b -/
def tIf (t : TT) (ta tb : TE) : TE := fun σ H Q => t σ H fun c H1 => if c = true then ta σ H1 Q else tb σ H1 Q
theorem pe_ifExp {c : Expr} (hc : PT X c tA) (ha : PE X a ta) (hb : PE X b tb) : PE X (.IfExp c a b pos) (tIf tA ta tb) := by
  intro pins s σ H Q I h
  refine wpAny_IfExp (thn (hc pins s σ H _ I h) fun d s1 ⟨H1, I1, q1⟩ => ?_)
  cases d with
  | true => exact ha pins s1 σ H1 Q I1 q1
  | false => exact hb pins s1 σ H1 Q I1 q1
end
end L2

namespace L2
open PySem PySem.Spec PyProof.Rows

/-! ### a list, a tuple that is read: tracked, frozen, or an object of the module -/
def SqL (K : PySem.W.Frag) (H : Hp) (a : Addr) (xs : List V) : Prop :=
  Rd H a (.lst xs) ∨
    ∃ (o : Obj) (its : Array Value) (n : Nat), K.lookup a = some o ∧ o.cls = .type "list" ∧ o.dict = none ∧ o.data = .seq its n ∧ its.size ≤ sizeLine ∧ Vals xs its.toList
def SqT (K : PySem.W.Frag) (H : Hp) (a : Addr) (xs : List V) : Prop :=
  Rd H a (.tup xs) ∨
    ∃ (o : Obj) (its : Array Value) (n : Nat), K.lookup a = some o ∧ o.cls = .type "tuple" ∧ o.data = .seq its n ∧ its.size ≤ sizeLine ∧ Vals xs its.toList
def absV : Value → Option V
  | .none => some .non
  | .bool b => some (.bl b)
  | .int i _ => some (.int i)
  | .str x _ => some (.str x)
  | .bytes b _ => some (.byt b)
  | .float b _ => some (.flt b)
  | .ref a => some (.ref a)
  | .type n => some (.ty n)
  | _ => none
theorem RelV.abs {x : V} {u : Value} (r : RelV x u) : absV u = some x := by
  cases x with
  | non => cases r; rfl
  | bl _ => cases r; rfl
  | int _ => obtain ⟨t, rfl⟩ := r; rfl
  | str _ => obtain ⟨t, rfl⟩ := r; rfl
  | byt _ => obtain ⟨t, rfl⟩ := r; rfl
  | flt _ => obtain ⟨t, rfl⟩ := r; rfl
  | ref _ => cases r; rfl
  | ty _ => cases r; rfl
theorem RelV.inj {x y : V} {u : Value} (r : RelV x u) (q : RelV y u) : x = y := Option.some.inj (r.abs.symm.trans q.abs)
theorem Vals.inj : ∀ {xs ys : List V} {us : List Value}, Vals xs us → Vals ys us → xs = ys
  | _, _, _, .nil, .nil => rfl
  | _, _, _, .cons r t, .cons r' t' => by rw [r.inj r', Vals.inj t t']
section
variable {X : Cx} {pins : List (Addr × Obj)} {σ : St} {H : Hp} {s : Shared} {a : Addr} {xs ys : List V}
theorem SqL.of {K : PySem.W.Frag} (h : H a = some (.lst xs)) : SqL K H a xs := .inl (.inl h)
theorem SqT.of {K : PySem.W.Frag} (h : H a = some (.tup xs)) : SqT K H a xs := .inl (.inl h)
theorem Inv.list (I : Inv X pins σ H s) (h : SqL X.K H a xs) : ∃ its : List Value, Vals xs its ∧ PlainL s.heap a its.toArray ∧ xs.length ≤ sizeLine := by
  rcases h with h | ⟨o, its, n, hk, hc, hd, hs, hz, r⟩
  · obtain ⟨z, its, n, r, e⟩ := h.ok I.hok
    exact ⟨its, r, ⟨_, n, e, rfl, rfl, rfl⟩, z⟩
  · refine ⟨its.toList, r, ⟨o, n, I.kIn a o hk, hc, hd, by simpa using hs⟩, ?_⟩
    have e := r.length
    simp only [Array.length_toList] at e
    omega
theorem Inv.tuple (I : Inv X pins σ H s) (h : SqT X.K H a xs) : ∃ its : List Value, Vals xs its ∧ IsTup s.heap a its.toArray ∧ xs.length ≤ sizeLine := by
  rcases h with h | ⟨o, its, n, hk, hc, hs, hz, r⟩
  · obtain ⟨z, its, r, p⟩ := h.ok I.hok
    exact ⟨its, r, p, z⟩
  · refine ⟨its.toList, r, ⟨o, I.kIn a o hk, hc, n, by simpa using hs⟩, ?_⟩
    have e := r.length
    simp only [Array.length_toList] at e
    omega
theorem Inv.list_inj (I : Inv X pins σ H s) (h : SqL X.K H a xs) (h' : SqL X.K H a ys) : xs = ys := by
  obtain ⟨its, r, ⟨o, n, e, _, _, d⟩, _⟩ := I.list h
  obtain ⟨its', r', ⟨o', n', e', _, _, d'⟩, _⟩ := I.list h'
  rw [e] at e'; cases e'
  rw [d] at d'
  injection d' with d1 _
  have : its = its' := by simpa using congrArg Array.toList d1
  subst this
  exact r.inj r'
end

/-! ### another wish about exceptions -/
abbrev Cx.wish (X : Cx) (E : Value → Shared → Prop) : Cx := { X with xe := E }
/-- no exception leaves -/
abbrev Cx.nox (X : Cx) : Cx := X.wish fun _ _ => False
theorem Cx.Ok.wish {X : Cx} (ok : X.Ok) (E : Value → Shared → Prop) : (X.wish E).Ok :=
  ⟨ok.mod, ok.kind, ok.glob, ok.blt, ok.above, ok.inj, ok.has, ok.cab, ok.hd, ok.frames, ok.stk, ok.exf, ok.bs, ok.bsz, ok.noex, ok.exfs, ok.funs, ok.frf⟩
theorem Cx.Ok.unwish {X : Cx} {E : Value → Shared → Prop} (ok : (X.wish E).Ok) : X.Ok :=
  ⟨ok.mod, ok.kind, ok.glob, ok.blt, ok.above, ok.inj, ok.has, ok.cab, ok.hd, ok.frames, ok.stk, ok.exf, ok.bs, ok.bsz, ok.noex, ok.exfs, ok.funs, ok.frf⟩
section
variable {X : Cx} {pins : List (Addr × Obj)} {σ : St} {H : Hp} {s : Shared} {E : Value → Shared → Prop}
theorem Inv.wish (I : Inv X pins σ H s) (E : Value → Shared → Prop) : Inv (X.wish E) pins σ H s := ⟨I.ok.wish E, I.os, I.bare, I.base, I.loc, I.cell, I.free, I.freeC, I.pin, I.hok, I.len⟩
theorem Inv.unwish (I : Inv (X.wish E) pins σ H s) : Inv X pins σ H s := ⟨I.ok.unwish, I.os, I.bare, I.base, I.loc, I.cell, I.free, I.freeC, I.pin, I.hok, I.len⟩
theorem SP.unwish {D : Ends} {f : Flow} {s' : Shared} (h : SP (X.wish E) pins D f s') : SP X pins D f s' := by
  cases f with
  | next => obtain ⟨σ', H', I, q⟩ := h; exact ⟨σ', H', I.unwish, q⟩
  | brk => obtain ⟨σ', H', I, q⟩ := h; exact ⟨σ', H', I.unwish, q⟩
  | cont => obtain ⟨σ', H', I, q⟩ := h; exact ⟨σ', H', I.unwish, q⟩
  | ret u => obtain ⟨v, σ', H', I, r, q⟩ := h; exact ⟨v, σ', H', I.unwish, r, q⟩
theorem PSs.nox {st : List Stmt} {t : TS} (h : PSs X.nox st t) : PSs X st t := fun pins s σ H D I hw =>
  wpAny_mono (h pins s σ H D (I.wish _) hw) (fun _ _ q => q.unwish) fun _ _ z => False.elim z
end

/-! ### blocks and small statements -/
section
variable {X : Cx} {st : Stmt} {rest : List Stmt} {t u : TS} {e : Expr} {te : TE} {pos : Pos}
def tNext : TS := fun D σ H => D.nx σ H
def tSeq (t u : TS) : TS := fun D σ H => t { D with nx := u D } σ H
theorem pss_nil : PSs X [] tNext := fun _ _ σ H _ I h => wpAny_execs_nil ⟨σ, H, I, h⟩
theorem pss_cons (h1 : PS X st t) (h2 : PSs X rest u) : PSs X (st :: rest) (tSeq t u) := by
  intro pins s σ H D I h
  refine wpAny_execs_cons (thn (h1 pins s σ H { D with nx := u D } I h) fun f s1 q => ?_)
  cases f with
  | next =>
    obtain ⟨σ', H', I', q⟩ := q
    exact h2 pins s1 σ' H' D I' q
  | ret v => exact q
  | brk => exact q
  | cont => exact q
theorem pss_one (h1 : PS X st t) : PSs X [st] t := by
  intro pins s σ H D I h
  refine wpAny_execs_cons (thn (h1 pins s σ H D I h) fun f s1 q => ?_)
  cases f with
  | next => exact wpAny_execs_nil q
  | ret v => exact q
  | brk => exact q
  | cont => exact q
/-- in a def's body nothing is shown -/
theorem Inv.quiet {pins : List (Addr × Obj)} {σ : St} {H : Hp} {s : Shared} (I : Inv X pins σ H s) : interactive X.env = false := by simp [interactive, I.ok.kind]
/-- an expression whose value is dropped -/
def tDrop (te : TE) : TS := fun D σ H => te σ H fun _ H1 => D.nx σ H1
theorem ps_expr (he : PE X e te) (hs : swapsWith e none pos.line X.env = pure false := by rfl) : PS X (.Expr e pos) (tDrop te) := by
  intro pins s σ H D I h
  exact wpAny_Expr_any (thn (he pins s σ H _ I h) fun v s1 ⟨x, H1, I1, r1, q1⟩ => ⟨σ, H1, I1, q1⟩) I.quiet hs
def tRet (te : TE) : TS := fun D σ H => te σ H D.rt
theorem ps_ret (he : PE X e te) : PS X (.Return (some e) pos) (tRet te) := by
  intro pins s σ H D I h
  exact wpAny_Return_some (thn (he pins s σ H _ I h) fun v s1 ⟨x, H1, I1, r1, q1⟩ => ⟨x, σ, H1, I1, r1, q1⟩)
def tIfS (c : TT) (t u : TS) : TS := fun D σ H => c σ H fun b H1 => if b = true then t D σ H1 else u D σ H1
theorem ps_if {c : Expr} {a b : List Stmt} {tc : TT} (hc : PT X c tc) (ha : PSs X a t) (hb : PSs X b u) : PS X (.If c a b pos) (tIfS tc t u) := by
  intro pins s σ H D I h
  refine wpAny_If (thn (hc pins s σ H _ I h) fun d s1 ⟨H1, I1, q1⟩ => ?_)
  cases d with
  | true => exact ha pins s1 σ H1 D I1 q1
  | false => exact hb pins s1 σ H1 D I1 q1
/-- code that the proof never comes to -/
def tNever : TS := fun _ _ _ => False
theorem ps_never : PS X st tNever := fun _ _ _ _ _ _ h => h.elim
end

/-! ### targets -/
abbrev TG := V → St → Hp → (St → Hp → Prop) → Prop
abbrev TGs := List V → St → Hp → (St → Hp → Prop) → Prop
def PG (X : Cx) (target : Expr) (t : TG) : Prop :=
  ∀ (pins : List (Addr × Obj)) (s : Shared) (σ : St) (H : Hp) (v : V) (u : Value) (Q : St → Hp → Prop), Inv X pins σ H s → RelV v u → t v σ H Q →
    wpAny (model X.prog X.w) X.A (assign target X.env u) (fun _ s' => ∃ σ' H', Inv X pins σ' H' s' ∧ Q σ' H') X.xe s
/-- several targets, one after another -/
def PGs (X : Cx) (ts : List Expr) (t : TGs) : Prop :=
  ∀ (pins : List (Addr × Obj)) (s : Shared) (σ : St) (H : Hp) (vs : List V) (us : List Value) (Q : St → Hp → Prop), Inv X pins σ H s → Vals vs us → t vs σ H Q →
    wpAny (model X.prog X.w) X.A (assignInOrder ((assignEach ts X.env).map (·.2)) us) (fun _ s' => ∃ σ' H', Inv X pins σ' H' s' ∧ Q σ' H') X.xe s
/-- o[i] = v, by values -/
abbrev TSet := V → V → V → Hp → (Hp → Prop) → Prop
def PSet (X : Cx) (t : TSet) : Prop :=
  ∀ (pins : List (Addr × Obj)) (s : Shared) (σ : St) (H : Hp) (o i v : V) (ov iv u : Value) (Q : Hp → Prop), Inv X pins σ H s → RelV o ov → RelV i iv → RelV v u → t o i v H Q →
    wpAny (model X.prog X.w) X.A (setItem ov iv u) (fun _ s' => ∃ H', Inv X pins σ H' s' ∧ Q H') X.xe s
/-- a op= b, by values -/
abbrev TIp := V → V → Hp → VK → Prop
def PIp (X : Cx) (op : Operator) (t : TIp) : Prop :=
  ∀ (pins : List (Addr × Obj)) (s : Shared) (σ : St) (H : Hp) (x y : V) (v u : Value) (Q : VK), Inv X pins σ H s → RelV x v → RelV y u → t x y H Q →
    wpAny (model X.prog X.w) X.A (inplaceOp op v u) (EP X pins σ Q) X.xe s
section
variable {X : Cx} {pos : Pos}
def gName (i : Nat) : TG := fun v σ H Q => Q (σ.set i (some v)) H
theorem pg_name {i : Nat} {x : Str} (hN : X.N.Nodup) (hi : X.N[i]? = some x) (hx : Loc X.env.scope x) (hf : X.fn x = true ∨ X.env.scope.names.lookup x = some .local := by first | exact .inl rfl | exact .inr rfl | assumption) : PG X (.Name x pos) (gName i) := by
  intro pins s σ H v u Q I r h
  exact wpAny_assign_Name (store_ok I hN hi hx r (fun s' I' => ⟨_, H, I', h⟩) hf)
def gNil : TGs := fun vs σ H Q => vs = [] ∧ Q σ H
def gCons (t : TG) (u : TGs) : TGs := fun vs σ H Q => ∃ v r, vs = v :: r ∧ t v σ H fun σ' H' => u r σ' H' Q
theorem pgs_nil : PGs X [] gNil := by
  intro pins s σ H vs us Q I r h
  obtain ⟨e, h⟩ := h
  subst e
  cases r
  exact assignInOrder_nil ⟨σ, H, I, h⟩
theorem pgs_cons {e : Expr} {es : List Expr} {t : TG} {u : TGs} (h1 : PG X e t) (h2 : PGs X es u)
    (hs : (assignEach (e :: es) X.env).map (·.2) = assign e X.env :: (assignEach es X.env).map (·.2) := by rfl) : PGs X (e :: es) (gCons t u) := by
  intro pins s σ H vs us Q I r h
  obtain ⟨v, vr, e1, h⟩ := h
  subst e1
  cases r with
  | cons r rr =>
    rw [hs]
    refine assignInOrder_cons (thn (h1 pins s σ H _ _ _ I r h) fun _ s1 ⟨σ1, H1, I1, q1⟩ => ?_)
    exact h2 pins s1 σ1 H1 _ _ Q I1 rr q1
/-- (a, b, ..) = a tuple of that length -/
def gTup (K : PySem.W.Frag) (n : Nat) (t : TGs) : TG := fun v σ H Q => ∃ a xs, v = .ref a ∧ SqT K H a xs ∧ xs.length = n ∧ t xs σ H Q
theorem pg_tup {es : List Expr} {k : Nat} {t : TGs} {n : Nat} (hc : X.calm = true) (h : PGs X es t)
    (hn : (assignEach es X.env).length = n := by rfl) (hst : (assignEach es X.env).findIdx? (·.1) = none := by rfl) : PG X (.Tuple es k pos) (gTup X.K n t) := by
  intro pins s σ H v u Q I r hw
  obtain ⟨a, xs, e1, hq, hl, hw⟩ := hw
  subst e1
  cases r
  obtain ⟨its, rv, ht, hz⟩ := I.tuple hq
  refine assign_Tuple_tuple (I.ok.hd hc) ht (by simp [hn, ← hl, rv.length]) hst fun h' hx => ?_
  have I1 : Inv X pins σ H { s with heap := h' } := I.kept (t' := s.toks) fun b o e => hx b o (Nat.ne_of_lt (Heap.lt_size e)) e
  exact h pins _ σ H xs _ Q I1 (by simpa using rv) hw
/-- o[i] = .. -/
def gSub (to ti : TE) (t : TSet) : TG := fun v σ H Q => to σ H fun o H1 => ti σ H1 fun i H2 => t o i v H2 fun H3 => Q σ H3
theorem pg_sub {o i : Expr} {to ti : TE} {t : TSet} (ho : PE X o to) (hi : PE X i ti) (hs : PSet X t)
    (ha : ∀ v, assign (.Subscript o i pos) X.env v = (do
      let ov ← holding [v] (eval o X.env)
      let iv ← holding [v, ov] (eval i X.env)
      standAt pos
      holding [v, ov, iv] (setItem ov iv v)
      release [v, ov, iv] []) := by intro _; rfl) : PG X (.Subscript o i pos) (gSub to ti t) := by
  intro pins s σ H v u Q I r h
  rw [ha]
  refine wpAny_bind (wpAny_holding (thn (ho pins s σ H _ I h) fun ov s1 ⟨x, H1, I1, r1, q1⟩ => ?_))
  refine wpAny_bind (wpAny_holding (thn (hi pins s1 σ H1 _ I1 q1) fun iv s2 ⟨y, H2, I2, r2, q2⟩ => ?_))
  refine wpAny_bind (wpAny_standAt (wpAny_bind (wpAny_holding (thn (hs pins s2 σ H2 x y v ov iv u _ I2 r1 r2 r q2) fun _ s3 ⟨H3, I3, q3⟩ => ?_))))
  exact wpAny_release ⟨σ, H3, I3, q3⟩
/-- target = value -/
def tAsg (te : TE) (g : TG) : TS := fun D σ H => te σ H fun x H1 => g x σ H1 D.nx
theorem ps_asg {tg e : Expr} {te : TE} {g : TG} (he : PE X e te) (hg : PG X tg g) (hs : swapsWithSole [tg] e pos.line X.env = pure false := by rfl) (hw : swappedStores [tg] e X.env = pure none := by rfl)
    (h1 : (assignEach [tg] X.env).map (·.2) = [assign tg X.env] := by rfl) : PS X (.Assign [tg] e pos) (tAsg te g) := by
  intro pins s σ H D I h
  refine wpAny_Assign_stores (thn (he pins s σ H _ I h) fun v s1 ⟨x, H1, I1, r1, q1⟩ => ?_) hs hw
  rw [h1]
  exact thn (hg pins s1 σ H1 x v _ I1 r1 q1) fun _ s2 q => q
/-- name = value -/
theorem ps_set {i : Nat} {x : Str} {e : Expr} {te : TE} {pos' : Pos} (hN : X.N.Nodup) (hi : X.N[i]? = some x) (hx : Loc X.env.scope x) (he : PE X e te) (hs : swapsWith e (some (.Name x pos')) pos.line X.env = pure false := by rfl) (hf : X.fn x = true ∨ X.env.scope.names.lookup x = some .local := by first | exact .inl rfl | exact .inr rfl | assumption) :
    PS X (.Assign [.Name x pos'] e pos) (tAsg te (gName i)) := by
  intro pins s σ H D I h
  refine wpAny_Assign_Name (thn (he pins s σ H _ I h) fun v s1 ⟨y, H1, I1, r1, q1⟩ => ?_) hs
  exact store_ok I1 hN hi hx r1 (fun s2 I2 => ⟨_, H1, I2, q1⟩) hf
/-- name op= e -/
def tAug (i : Nat) (te : TE) (ti : TIp) : TS := fun D σ H => ∃ x, σ[i]? = some (some x) ∧ te σ H fun y H1 => ti x y H1 fun z H2 => D.nx (σ.set i (some z)) H2
theorem ps_aug {i : Nat} {x : Str} {e : Expr} {te : TE} {op : Operator} {ti : TIp} {pos' : Pos} (hN : X.N.Nodup) (hi : X.N[i]? = some x) (hx : Loc X.env.scope x) (he : PE X e te) (ho : PIp X op ti) (hf : X.fn x = true ∨ X.env.scope.names.lookup x = some .local := by first | exact .inl rfl | exact .inr rfl | assumption) :
    PS X (.AugAssign (.Name x pos') op e pos) (tAug i te ti) := by
  intro pins s σ H D I h
  obtain ⟨v, e1, h⟩ := h
  obtain ⟨m, hn, hl⟩ := I.loc
  have vis : Vis X.env.scope x := by rcases hx with k | k; exact .inl k; exact .inr (.inl k)
  obtain ⟨u, r, l⟩ := hl i x v hi e1 vis
  refine wpAny_AugAssign_Name ?_
  have go : wpAny (model X.prog X.w) X.A (eval e X.env) (fun w s₂ => wpAny (model X.prog X.w) X.A (inplaceOp op u w) (fun r s₃ => wpAny (model X.prog X.w) X.A (storeName X.env x r) (fun _ => SP X pins D .next) X.xe s₃) X.xe s₂) X.xe s := by
    refine thn (he pins s σ H _ I h) fun w s1 ⟨y, H1, I1, r1, q1⟩ => ?_
    refine thn (ho pins s1 σ H1 v y u w _ I1 r r1 q1) fun z s2 ⟨zv, H2, I2, r2, q2⟩ => ?_
    exact store_ok I2 hN hi hx r2 (fun s3 I3 => ⟨_, H2, I3, q2⟩) hf
  rcases l with ⟨hk, hm⟩ | ⟨hk, c, hc, hcell⟩
  · exact wpAny_loadName_local I.ok.kind hk hn hm go
  · rcases hk with hk | hk
    · exact wpAny_loadName_cell I.ok.kind hk hc hcell go
    · rcases hx with k | k
      · have : X.env.scope.names.lookup x = some .free := hk
        rw [k] at this; cases this
      · have : X.env.scope.names.lookup x = some .free := hk
        rw [k] at this; cases this
/-- ints -/
def ipI (f : Int → Int → Int) : TIp := fun x y H Q => ∃ i j, x = .int i ∧ y = .int j ∧ Q (.int (f i j)) H
theorem ip_add : PIp X .Add (ipI fun i j => i + j) := by
  intro pins s σ H x y v u Q I r1 r2 h
  obtain ⟨i, j, e1, e2, q⟩ := h
  subst e1; subst e2
  obtain ⟨t, rfl⟩ := r1
  obtain ⟨t', rfl⟩ := r2
  exact iadd_int ⟨.int _, H, I.tok _, ⟨_, rfl⟩, q⟩
end

/-! ### while -/
section
variable {X : Cx} {pos : Pos}
/-- the invariant W with its measure -/
def tWhile (c : TT) (tb : TS) : TS := fun D σ H => ∃ W : Nat → St → Hp → Prop, (∃ m, W m σ H) ∧ ∀ m σ H, W m σ H →
  c σ H fun b H1 => if b = true then ∃ N : St → Hp → Prop, (∀ σ' H', N σ' H' → ∃ m', m' < m ∧ W m' σ' H') ∧ tb { D with nx := N, ct := N, bk := D.nx } σ H1 else D.nx σ H1
theorem ps_while {c : Expr} {body : List Stmt} {tc : TT} {tb : TS} (hp : PassesOwn (model X.prog X.w) X.A X.env X.xe) (hc : PT X c tc) (hb : PSs X body tb) : PS X (.While c body [] pos) (tWhile tc tb) := by
  intro pins s σ H D I h
  obtain ⟨W, ⟨m0, w0⟩, turn⟩ := h
  refine wpAny_While (codeAny_whileLoop (fun n s' => ∃ σ' H', Inv X pins σ' H' s' ∧ W n σ' H') ?_ m0 ⟨σ, H, I, w0⟩)
  rintro n s1 ⟨σ1, H1, I1, w1⟩
  refine wpAny_passesOwn hp (thn (hc pins s1 σ1 H1 _ I1 (turn n σ1 H1 w1)) fun b s2 ⟨H2, I2, q2⟩ => ?_)
  cases b with
  | true =>
    obtain ⟨N, hN, q2⟩ := q2
    rw [if_pos rfl]
    refine wpAny_passesOwn hp (thn (hb pins s2 σ1 H2 _ I2 q2) fun f s3 q3 => ?_)
    cases f with
    | next =>
      obtain ⟨σ3, H3, I3, n3⟩ := q3
      obtain ⟨m', hm, w3⟩ := hN σ3 H3 n3
      exact ⟨m', hm, σ3, H3, I3, w3⟩
    | cont =>
      obtain ⟨σ3, H3, I3, n3⟩ := q3
      obtain ⟨m', hm, w3⟩ := hN σ3 H3 n3
      exact ⟨m', hm, σ3, H3, I3, w3⟩
    | brk => exact q3
    | ret v => exact q3
  | false =>
    rw [if_neg Bool.false_ne_true]
    exact wpAny_execs_nil ⟨σ1, H2, I2, q2⟩
end

/-! ### what a loop or a comprehension walks -/
/-- at turn i: it yields x (the heap may grow), or it stops -/
structure It where
  go : Nat → Hp → Prop
  yld : Nat → Hp → V → Hp → Prop
  stop : Nat → Hp → Prop
/-- the iterator's own objects may turn: they are not the frame's, not pinned, younger than the entry (or a comprehension's own) -/
def FpOk (X : Cx) (pins : List (Addr × Obj)) (H : Hp) (b : Addr) : Prop :=
  H b = none ∧ b ≠ X.env.locals ∧ b ∉ X.fs ∧ (b ∈ X.ex ∨ X.s₀.heap.objs.size ≤ b) ∧ (∀ x c, X.env.cells.lookup x = some c → c ≠ b) ∧ ∀ p ∈ X.pn ++ pins, p.1 ≠ b
theorem Inv.fpOk {X : Cx} {pins : List (Addr × Obj)} {σ : St} {H H' : Hp} {s : Shared} {b : Addr} (I : Inv X pins σ H s) (hb : s.heap.objs.size ≤ b) (hn : H' b = none) : FpOk X pins H' b := by
  refine ⟨hn, Nat.ne_of_gt (Nat.lt_of_lt_of_le I.lt hb), I.nofs hb, .inr (Nat.le_trans I.sz hb), fun x c e z => ?_, fun p hp z => ?_⟩
  · obtain ⟨v, q⟩ := I.cell x c e
    exact absurd (Nat.lt_of_lt_of_le q.lt (by rw [z]; exact hb)) (Nat.lt_irrefl _)
  · exact absurd (Nat.lt_of_lt_of_le (Heap.lt_size (I.pin p hp).1) (by rw [z]; exact hb)) (Nat.lt_irrefl _)
structure Turn (P : Program) (w : World) (K : PySem.W.Frag) (tg : Expr) (J : It) (fp : List Addr) (it : Addr) (tn : Nat → Heap → Prop) : Prop where
  mem : it ∈ fp
  obj : ∀ i h, tn i h → ∀ b ∈ fp, ∃ o, h.get? b = some o ∧ ∀ v, o.data ≠ .cell v
  keep : ∀ i h h', tn i h → (∀ b ∈ fp, ∀ o, h.get? b = some o → h'.get? b = some o) → tn i h'
  item : ∀ (X : Cx), X.prog = P → X.w = w → X.K = K → X.calm = true → ∀ (i : Nat) (pins : List (Addr × Obj)) (s : Shared) (σ : St) (H : Hp) (E : Value → Shared → Prop), Inv X pins σ H s → (∀ b ∈ fp, FpOk X pins H b) → tn i s.heap → J.go i H →
    wpAny (model P w) X.A (pyNext (.ref it)) (fun r s1 => ∃ u, r = some u ∧
      wpAny (model P w) X.A (letOwnedTupleGo tg (.ref it) u) (fun _ s2 => ∃ x H', Inv X pins σ H' s2 ∧ RelV x u ∧ J.yld i H x H' ∧ tn (i + 1) s2.heap ∧ ∀ b ∈ fp, H' b = none) E s1) E s
  done : ∀ (X : Cx), X.prog = P → X.w = w → X.K = K → X.calm = true → ∀ (i : Nat) (pins : List (Addr × Obj)) (s : Shared) (σ : St) (H : Hp) (E : Value → Shared → Prop), Inv X pins σ H s → (∀ b ∈ fp, FpOk X pins H b) → tn i s.heap → J.stop i H →
    wpAny (model P w) X.A (pyNext (.ref it)) (fun r s1 => r = none ∧ Inv X pins σ H s1) E s
  self : ∀ (A : Around) (i : Nat) (s : Shared) (Q : Value → Shared → Prop) (E : Value → Shared → Prop), tn i s.heap → Q (.ref it) s → wpAny (model P w) A (pyIter (.ref it)) Q E s
abbrev TI := St → Hp → (It → Hp → Prop) → Prop
/-- an iterator has come -/
def PIE (X : Cx) (pins : List (Addr × Obj)) (σ : St) (tg : Expr) (R : It → Hp → Prop) (itv : Value) (s2 : Shared) : Prop :=
  ∃ (it : Addr) (fp : List Addr) (tn : Nat → Heap → Prop) (J : It) (H' : Hp), itv = .ref it ∧ Inv X pins σ H' s2 ∧ Turn X.prog X.w X.K tg J fp it tn ∧ tn 0 s2.heap ∧ (∀ b ∈ fp, FpOk X pins H' b) ∧ R J H'
def PI (X : Cx) (tg iter : Expr) (wi : TI) : Prop :=
  ∀ (pins : List (Addr × Obj)) (s : Shared) (σ : St) (H : Hp) (R : It → Hp → Prop), Inv X pins σ H s → wi σ H R →
    wpAny (model X.prog X.w) X.A (eval iter X.env) (fun v s1 => wpAny (model X.prog X.w) X.A (pyIter v) (PIE X pins σ tg R) X.xe s1) X.xe s

/-- the step ahead of the store is nothing for an iterator that keeps no tuple -/
theorem go_of {M : Model} {A : Around} {E : Value → Shared → Prop} {s : Shared} {tg : Expr} {it : Addr} {u : Value} {o : Obj} {n : String} {vs : Array Value} {Q : Unit → Shared → Prop} (ho : s.heap.get? it = some o) (hc : o.cls = .type n) (hd : o.data = .fields vs)
    (hn : ["enumerate", "zip", "dict_itemiterator", "dict_reverseitemiterator", "odict_iterator", "itertools.zip_longest", "itertools.pairwise"].contains n = false) (hQ : Q () s) : wpAny M A (letOwnedTupleGo tg (.ref it) u) Q E s := by
  unfold letOwnedTupleGo
  cases tg <;> first
    | exact wpAny_pure hQ
    | (cases u <;> first
        | exact wpAny_pure hQ
        | (refine wpAny_bind (wpAny_load ho ?_)
           rw [hc, hd]
           show wpAny M A (if (["enumerate", "zip", "dict_itemiterator", "dict_reverseitemiterator", "odict_iterator", "itertools.zip_longest", "itertools.pairwise"].contains n && vs[0]? == some (rawInt _)) = true then _ else _) Q E s
           rw [if_neg (by intro h; rw [hn, Bool.false_and] at h; cases h)]
           exact wpAny_pure hQ))

/-- the list at a, as it stands at each turn (a loop may append to it) -/
def Itl (K : PySem.W.Frag) (a : Addr) : It :=
  ⟨fun i H => ∃ xs x, SqL K H a xs ∧ xs[i]? = some x, fun i H x H' => H' = H ∧ ∀ xs, SqL K H a xs → xs[i]? = some x, fun i H => ∃ xs, SqL K H a xs ∧ xs.length ≤ i⟩
/-- lo, lo + 1, .. (n of them) -/
def Itr (lo : Int) (n : Nat) : It := ⟨fun i _ => i < n, fun i H x H' => H' = H ∧ x = .int (lo + i), fun i _ => n ≤ i⟩
theorem turn_list {P : Program} {w : World} {K : PySem.W.Frag} {tg : Expr} (a it : Addr) : Turn P w K tg (Itl K a) [it] it (fun i h => h.IsListIter it a i) where
  mem := by simp
  obj := fun i h st b hb => by
    have e : b = it := by simpa using hb
    subst e
    obtain ⟨o, e, c, d⟩ := st
    exact ⟨o, e, fun v z => by rw [d] at z; cases z⟩
  keep := fun i h h' st k => st.at fun o e => k it (by simp) o e
  item := by
    intro X hP hw hK hc i pins s σ H E I hf st hg
    subst hP hw hK
    obtain ⟨xs, x, hq, hx⟩ := hg
    obtain ⟨its, rv, p, hz⟩ := I.list hq
    obtain ⟨u, hu, ru⟩ := rv.get hx
    obtain ⟨f0, f1, f2, f3, f4, f5⟩ := hf it (by simp)
    refine wpAny_pyNext_list_item st p.isList (x := u) (by simpa using hu) fun h' st' sb => ?_
    have I1 : Inv X pins σ H { s with heap := h' } := I.turned (t' := s.toks) (fun b o hb e => (sb.2 b hb).trans e) f0 f1 f3 f4 f5
    obtain ⟨o, e, c, d⟩ := id st'
    exact ⟨u, rfl, go_of (s := { s with heap := h' }) e c d (by decide) ⟨x, H, I1, ru, ⟨rfl, fun ys hy => by rw [I.list_inj hy hq]; exact hx⟩, st', fun b hb => (hf b hb).1⟩⟩
  done := by
    intro X hP hw hK hc i pins s σ H E I hf st hg
    subst hP hw hK
    obtain ⟨xs, hq, hx⟩ := hg
    obtain ⟨its, rv, p, hz⟩ := I.list hq
    obtain ⟨f0, f1, f2, f3, f4, f5⟩ := hf it (by simp)
    have hl := rv.length
    exact wpAny_pyNext_list_end (I.ok.hd hc) st p.isList (by simp; omega) fun h' eb => ⟨rfl, I.turned (t' := s.toks) (fun b o hb e => eb b o hb e) f0 f1 f3 f4 f5⟩
  self := fun _ _ _ _ _ st h => wpAny_pyIter_listiter st h
theorem turn_range {P : Program} {w : World} {K : PySem.W.Frag} {tg : Expr} (it : Addr) (lo : Int) (n : Nat) : Turn P w K tg (Itr lo n) [it] it (fun i h => IsRangeIter h it (lo + (i : Nat) * 1) ((n : Int) - (i : Nat)) 1) where
  mem := by simp
  obj := fun i h st b hb => by
    have e : b = it := by simpa using hb
    subst e
    exact ⟨_, st, fun v z => by
      have z' : Data.fields _ = Data.cell v := z
      cases z'⟩
  keep := fun i h h' st k => k it (by simp) _ st
  item := by
    intro X hP hw hK hc i pins s σ H E I hf st hg
    subst hP hw hK
    obtain ⟨f0, f1, f2, f3, f4, f5⟩ := hf it (by simp)
    have W := Walks.range (prog := X.prog) (w := X.w) (I.ok.hd hc) it lo 1 n
    refine W.item i s _ _ hg st fun v h' tk hv st' kk => ?_
    obtain ⟨t, rfl⟩ := hv
    have I1 : Inv X pins σ H { s with heap := h', toks := tk } := I.turned (fun b o hb e => kk b o (by simpa using hb) e) f0 f1 f3 f4 f5
    refine ⟨_, rfl, go_of (s := { s with heap := h', toks := tk }) (n := "range_iterator") st' rfl rfl (by decide) ⟨.int (lo + i), H, I1, ⟨t, ?_⟩, ⟨rfl, rfl⟩, st', fun b hb => (hf b hb).1⟩⟩
    rw [Int.mul_one]
  done := by
    intro X hP hw hK hc i pins s σ H E I hf st hg
    subst hP hw hK
    obtain ⟨f0, f1, f2, f3, f4, f5⟩ := hf it (by simp)
    exact wpAny_pyNext_range_end (I.ok.hd hc) st (by have : n ≤ i := hg; omega) fun h' eb => ⟨rfl, I.turned (t' := s.toks) (fun b o hb e => eb b o hb e) f0 f1 f3 f4 f5⟩
  self := fun _ _ _ _ _ st h => wpAny_pyIter_rangeiter st h
end L2

namespace L2
open PySem PySem.Spec PyProof.Rows
section
variable {X : Cx} {tg : Expr}
def iList (K : PySem.W.Frag) (tl : TE) : TI := fun σ H R => tl σ H fun x H1 => ∃ a, x = .ref a ∧ (∃ xs, SqL K H1 a xs) ∧ R (Itl K a) H1
theorem pi_list {l : Expr} {tl : TE} (hl : PE X l tl) : PI X tg l (iList X.K tl) := by
  intro pins s σ H R I h
  refine thn (hl pins s σ H _ I h) fun v s1 ⟨x, H1, I1, r1, q1⟩ => ?_
  obtain ⟨a, e, ⟨xs, hq⟩, q⟩ := q1
  subst e
  cases r1
  obtain ⟨its, rv, p, hz⟩ := I1.list hq
  refine wpAny_pyIter_list p.isList ?_
  refine ⟨s1.heap.objs.size, [s1.heap.objs.size], _, _, H1, rfl, I1.kept (t' := s1.toks) fun b o e => Heap.get?_push_of_some _ e, turn_list a _, ⟨_, Heap.get?_push_size _ rfl, rfl, rfl⟩, fun b hb => ?_, q⟩
  have e : b = s1.heap.objs.size := by simpa using hb
  subst e
  exact I1.fpOk (Nat.le_refl _) (I1.hok.fresh (Nat.le_refl _))
/-- a range object just made, walked -/
theorem range_it {pins : List (Addr × Obj)} {σ : St} {H : Hp} {s : Shared} {R : It → Hp → Prop} {E : Value → Shared → Prop} {lo hi : Int} {t u v : Tok} {tk : Nat} (I : Inv X pins σ H s) (h1 : -(2 ^ 62) ≤ lo) (h2 : lo < 2 ^ 62) (h3 : -(2 ^ 62) ≤ hi) (h4 : hi < 2 ^ 62)
    (q : R (Itr lo (hi - lo).toNat) H) : wpAny (model X.prog X.w) X.A (pyIter (.ref s.heap.objs.size)) (PIE X pins σ tg R) E { s with heap := s.heap.push { cls := .type "range", data := .fields #[.int lo t, .int hi u, .int 1 v] }, toks := tk } := by
  refine wpAny_pyIter_range (IsRange.new ..) (small_one h1 h2 h3 h4) ?_
  have I1 : Inv X pins σ H { s with heap := s.heap.push { cls := .type "range", data := .fields #[.int lo t, .int hi u, .int 1 v] }, toks := tk } := I.kept fun b o e => Heap.get?_push_of_some _ e
  refine ⟨(s.heap.push { cls := .type "range", data := .fields #[.int lo t, .int hi u, .int 1 v] }).objs.size, [(s.heap.push { cls := .type "range", data := .fields #[.int lo t, .int hi u, .int 1 v] }).objs.size], _, _, H, rfl,
    I1.kept (t' := tk) fun b o e => Heap.get?_push_of_some _ e, turn_range _ lo (hi - lo).toNat, ?_, fun b hb => ?_, q⟩
  · have e1 : lo + ((0 : Nat) : Int) * 1 = lo := by simp
    have e2 : (((hi - lo).toNat : Nat) : Int) - ((0 : Nat) : Int) = Builtin.Range.rangeSize lo hi 1 := by rw [rangeSize_one]; split <;> omega
    show IsRangeIter _ _ (lo + ((0 : Nat) : Int) * 1) ((((hi - lo).toNat : Nat) : Int) - ((0 : Nat) : Int)) 1
    rw [e1, e2]
    exact Heap.get?_push_size _ rfl
  · have e : b = (s.heap.push { cls := .type "range", data := .fields #[.int lo t, .int hi u, .int 1 v] }).objs.size := by simpa using hb
    subst e
    exact I1.fpOk (Nat.le_refl _) (I1.hok.fresh (Nat.le_refl _))
def iRng1 (ta : TA) : TI := fun σ H R => ta σ H fun vs H1 => ∃ j : Int, vs = [.int j] ∧ -(2 ^ 62) ≤ j ∧ j < 2 ^ 62 ∧ R (Itr 0 j.toNat) H1
def iRng2 (ta : TA) : TI := fun σ H R => ta σ H fun vs H1 => ∃ i j : Int, vs = [.int i, .int j] ∧ (-(2 ^ 62) ≤ i ∧ i < 2 ^ 62 ∧ -(2 ^ 62) ≤ j ∧ j < 2 ^ 62) ∧ R (Itr i (j - i).toNat) H1
theorem pi_range1 {a : Expr} {ta : TA} {p pos : Pos} (hg : Gl X "range") (hm : X.mg "range" = none) (ha : PA X [a] ta) (hs : starEach [a] X.env = [(false, eval a X.env)] := by rfl) : PI X tg (.Call (.Name "range" p) [a] [] pos) (iRng1 ta) := by
  intro pins s σ H R I h
  refine Call_ (ld_blt I hg hm boot_range (PyProof.Rows.callWith_type1 (thn (ha pos pins s σ H _ I h) fun us s1 ⟨vs, H1, I1, r1, q1⟩ => ?_) hs rfl))
  obtain ⟨j, e, q1, q2, q⟩ := q1
  subst e
  cases r1 with
  | cons r rr =>
    cases rr
    obtain ⟨t, rfl⟩ := r
    exact call_range_1 (range_it I1 (by omega) (by omega) q1 q2 (by simpa using q))
theorem pi_range2 {a b : Expr} {ta : TA} {p pos : Pos} (hg : Gl X "range") (hm : X.mg "range" = none) (ha : PA X [a, b] ta) (hs : starEach [a, b] X.env = [(false, eval a X.env), (false, eval b X.env)] := by rfl) (hs2 : starEach [b] X.env = [(false, eval b X.env)] := by rfl) :
    PI X tg (.Call (.Name "range" p) [a, b] [] pos) (iRng2 ta) := by
  intro pins s σ H R I h
  refine Call_ (ld_blt I hg hm boot_range (PyProof.Rows.callWith_type1 (thn (ha pos pins s σ H _ I h) fun us s1 ⟨vs, H1, I1, r1, q1⟩ => ?_) (by rw [hs, hs2]) (by rw [hs2]; rfl)))
  obtain ⟨i, j, e, ⟨q1, q2, q3, q4⟩, q⟩ := q1
  subst e
  cases r1 with
  | cons r rr =>
    cases rr with
    | cons r' rr =>
      cases rr
      obtain ⟨t, rfl⟩ := r
      obtain ⟨t', rfl⟩ := r'
      exact call_range_2 (range_it I1 q1 q2 q3 q4 q)

/-! ### for -/
/-- W: the invariant by the turn and a measure; N: what the body is to reach -/
def tFor (wi : TI) (g : TG) (tb : TS) : TS := fun D σ H => wi σ H fun J H1 => ∃ W : Nat → Nat → St → Hp → Prop, (∃ m, W 0 m σ H1) ∧ ∀ i m σ H, W i m σ H →
  (J.stop i H ∧ D.nx σ H) ∨ (J.go i H ∧ ∃ N : St → Hp → Prop, (∀ σ' H', N σ' H' → ∃ m', m' < m ∧ W (i + 1) m' σ' H') ∧ ∀ x H', J.yld i H x H' → g x σ H' fun σ2 H2 => tb { D with nx := N, ct := N, bk := D.nx } σ2 H2)
/-- the records at fp as they stand -/
def pinsAt (fp : List Addr) (h : Heap) : List (Addr × Obj) := fp.filterMap fun b => (h.get? b).map fun o => (b, o)
theorem mem_pinsAt {fp : List Addr} {h : Heap} {b : Addr} {o : Obj} (hb : b ∈ fp) (e : h.get? b = some o) : (b, o) ∈ pinsAt fp h := List.mem_filterMap.mpr ⟨b, hb, by rw [e]; rfl⟩
theorem of_pinsAt {fp : List Addr} {h : Heap} {p : Addr × Obj} (hp : p ∈ pinsAt fp h) : p.1 ∈ fp ∧ h.get? p.1 = some p.2 := by
  obtain ⟨b, hb, e⟩ := List.mem_filterMap.mp hp
  cases q : h.get? b with
  | none => rw [q] at e; cases e
  | some o =>
    rw [q] at e
    have e' : (b, o) = p := Option.some.inj e
    subst e'
    exact ⟨hb, q⟩
theorem Inv.pinned {pins : List (Addr × Obj)} {σ : St} {H : Hp} {s : Shared} {fp : List Addr} (I : Inv X pins σ H s) (hf : ∀ b ∈ fp, FpOk X pins H b) (ho : ∀ b ∈ fp, ∃ o, s.heap.get? b = some o ∧ ∀ v, o.data ≠ .cell v) : Inv X (pins ++ pinsAt fp s.heap) σ H s :=
  I.pins_of fun p hp => (List.mem_append.mp hp).elim (fun z => I.pin p (List.mem_append_right _ z)) fun z => by
    obtain ⟨hb, e⟩ := of_pinsAt z
    obtain ⟨f0, f1, f2, _⟩ := hf p.1 hb
    obtain ⟨o, e', d⟩ := ho p.1 hb
    rw [e] at e'; cases e'
    exact ⟨e, f0, f1, f2, d⟩
theorem Inv.unpinned {pins pl : List (Addr × Obj)} {σ : St} {H : Hp} {s : Shared} (I : Inv X (pins ++ pl) σ H s) : Inv X pins σ H s := I.pins_of fun p hp => I.pin p (List.mem_append_right _ (List.mem_append_left _ hp))
theorem ps_for {iter : Expr} {body : List Stmt} {wi : TI} {g : TG} {tb : TS} {pos : Pos} (hp : PassesOwn (model X.prog X.w) X.A X.env X.xe) (hc : X.calm = true) (hi : PI X tg iter wi) (hg : PG X tg g) (hb : PSs X body tb)
    (hs : ∀ x, foldedSetIterable iter X.env x = pure x := by intro _; rfl) : PS X (.For tg iter body [] pos) (tFor wi g tb) := by
  intro pins s σ H D I h
  refine wpAny_For (thn (hi pins s σ H _ I h) fun v s1 h1 => thn h1 fun itv s2 h2 => ?_) hs
  obtain ⟨it, fp, tn, J, H2, e, I2, T, st2, f2, W, ⟨m0, w0⟩, turn⟩ := h2
  subst e
  -- what stays true of the iterator's objects through the loop
  have stat : ∀ {H' : Hp}, (∀ b ∈ fp, H' b = none) → ∀ b ∈ fp, FpOk X pins H' b := fun hn b hb => ⟨hn b hb, (f2 b hb).2⟩
  refine codeAny_forLoop_any (fun n s' => ∃ i σ' H', Inv X pins σ' H' s' ∧ tn i s'.heap ∧ (∀ b ∈ fp, H' b = none) ∧ W i n σ' H') ?_ m0 ⟨0, σ, H2, I2, st2, fun b hb => (f2 b hb).1, w0⟩
  rintro n s3 ⟨i, σ3, H3, I3, st3, fr3, w3⟩
  rcases turn i n σ3 H3 w3 with ⟨stop, qn⟩ | ⟨go, N, hN, step⟩
  · refine wpAny_passesOwn hp (thn (T.done X rfl rfl rfl hc i pins s3 σ3 H3 X.xe I3 (stat fr3) st3 stop) fun r s4 ⟨hr, I4⟩ => ?_)
    subst hr
    exact wpAny_execs_nil ⟨σ3, H3, I4, qn⟩
  · refine wpAny_passesOwn hp (thn (T.item X rfl rfl rfl hc i pins s3 σ3 H3 X.xe I3 (stat fr3) st3 go) fun r s4 ⟨u, hr, h4⟩ => ?_)
    subst hr
    refine wpAny_passesOwn hp (thn h4 fun _ s5 ⟨x, H5, I5, r5, y5, st5, fr5⟩ => ?_)
    have I5' := I5.pinned (stat fr5) (T.obj _ _ st5)
    refine wpAny_passesOwn hp (thn (hg _ s5 σ3 H5 x u _ I5' r5 (step x H5 y5)) fun _ s6 ⟨σ6, H6, I6, q6⟩ => ?_)
    refine wpAny_passesOwn hp (thn (hb _ s6 σ6 H6 _ I6 q6) fun f s7 q7 => ?_)
    have again : ∀ {σ7 : St} {H7 : Hp}, Inv X (pins ++ pinsAt fp s5.heap) σ7 H7 s7 → N σ7 H7 → ∃ m, m < n ∧ ∃ i σ' H', Inv X pins σ' H' s7 ∧ tn i s7.heap ∧ (∀ b ∈ fp, H' b = none) ∧ W i m σ' H' := fun {σ7 H7} I7 n7 => by
      obtain ⟨m', hm, w7⟩ := hN σ7 H7 n7
      refine ⟨m', hm, i + 1, σ7, H7, I7.unpinned, T.keep _ _ _ st5 fun b hb o e => (I7.pin (b, o) (List.mem_append_right _ (List.mem_append_right _ (mem_pinsAt hb e)))).1, fun b hb => ?_, w7⟩
      obtain ⟨o, e, d⟩ := T.obj _ _ st5 b hb
      exact (I7.pin (b, o) (List.mem_append_right _ (List.mem_append_right _ (mem_pinsAt hb e)))).2.1
    cases f with
    | next => obtain ⟨σ7, H7, I7, n7⟩ := q7; exact again I7 n7
    | cont => obtain ⟨σ7, H7, I7, n7⟩ := q7; exact again I7 n7
    | brk => obtain ⟨σ7, H7, I7, q7⟩ := q7; exact ⟨σ7, H7, I7.unpinned, q7⟩
    | ret v => obtain ⟨x7, σ7, H7, I7, r7, q7⟩ := q7; exact ⟨x7, σ7, H7, I7.unpinned, r7, q7⟩
end

/-! ### the forms one uses -/
/-- over a list that the body leaves as it is -/
theorem for_list {K : PySem.W.Frag} {a : Addr} {xs : List V} {g : TG} {tb : TS} {D : Ends} {σ : St} {H : Hp} (Pv : Nat → St → Hp → Prop) (h0 : Pv 0 σ H) (hl : ∀ i σ H, i ≤ xs.length → Pv i σ H → SqL K H a xs)
    (hs : ∀ i x σ H, xs[i]? = some x → Pv i σ H → g x σ H fun σ2 H2 => tb { D with nx := Pv (i + 1), ct := Pv (i + 1), bk := D.nx } σ2 H2) (hd : ∀ σ H, Pv xs.length σ H → D.nx σ H) :
    ∃ W : Nat → Nat → St → Hp → Prop, (∃ m, W 0 m σ H) ∧ ∀ i m σ H, W i m σ H →
      ((Itl K a).stop i H ∧ D.nx σ H) ∨ ((Itl K a).go i H ∧ ∃ N : St → Hp → Prop, (∀ σ' H', N σ' H' → ∃ m', m' < m ∧ W (i + 1) m' σ' H') ∧ ∀ x H', (Itl K a).yld i H x H' → g x σ H' fun σ2 H2 => tb { D with nx := N, ct := N, bk := D.nx } σ2 H2) := by
  refine ⟨fun i m σ H => m = xs.length - i ∧ i ≤ xs.length ∧ Pv i σ H, ⟨xs.length, by simp, Nat.zero_le _, h0⟩, ?_⟩
  rintro i m σ H ⟨rfl, hi, p⟩
  have q := hl i σ H hi p
  by_cases hlt : i < xs.length
  · refine .inr ⟨⟨xs, xs[i], q, by simp [hlt]⟩, Pv (i + 1), fun σ' H' p' => ⟨xs.length - (i + 1), by omega, rfl, hlt, p'⟩, fun x H' y => ?_⟩
    obtain ⟨e, y⟩ := y
    subst e
    exact hs i x σ _ (y xs q) p
  · have e : i = xs.length := by omega
    subst e
    exact .inl ⟨⟨xs, q, Nat.le_refl _⟩, hd σ H p⟩
theorem for_range {lo : Int} {n : Nat} {g : TG} {tb : TS} {D : Ends} {σ : St} {H : Hp} (Pv : Nat → St → Hp → Prop) (h0 : Pv 0 σ H)
    (hs : ∀ i σ H, i < n → Pv i σ H → g (.int (lo + i)) σ H fun σ2 H2 => tb { D with nx := Pv (i + 1), ct := Pv (i + 1), bk := D.nx } σ2 H2) (hd : ∀ σ H, Pv n σ H → D.nx σ H) :
    ∃ W : Nat → Nat → St → Hp → Prop, (∃ m, W 0 m σ H) ∧ ∀ i m σ H, W i m σ H →
      ((Itr lo n).stop i H ∧ D.nx σ H) ∨ ((Itr lo n).go i H ∧ ∃ N : St → Hp → Prop, (∀ σ' H', N σ' H' → ∃ m', m' < m ∧ W (i + 1) m' σ' H') ∧ ∀ x H', (Itr lo n).yld i H x H' → g x σ H' fun σ2 H2 => tb { D with nx := N, ct := N, bk := D.nx } σ2 H2) := by
  refine ⟨fun i m σ H => m = n - i ∧ i ≤ n ∧ Pv i σ H, ⟨n, by simp, Nat.zero_le _, h0⟩, ?_⟩
  rintro i m σ H ⟨rfl, hi, p⟩
  by_cases hlt : i < n
  · refine .inr ⟨hlt, Pv (i + 1), fun σ' H' p' => ⟨n - (i + 1), by omega, rfl, hlt, p'⟩, fun x H' y => ?_⟩
    obtain ⟨e, y⟩ := y
    subst e y
    exact hs i σ _ hlt p
  · have e : i = n := by omega
    subst e
    exact .inl ⟨Nat.le_refl _, hd σ H p⟩
/-- while, by a word and a measure of the state -/
theorem while_by {c : TT} {tb : TS} {D : Ends} {σ : St} {H : Hp} (Pv : St → Hp → Prop) (μ : St → Hp → Nat) (h0 : Pv σ H)
    (hs : ∀ σ H, Pv σ H → c σ H fun b H1 => if b = true then tb { D with nx := fun σ' H' => Pv σ' H' ∧ μ σ' H' < μ σ H, ct := fun σ' H' => Pv σ' H' ∧ μ σ' H' < μ σ H, bk := D.nx } σ H1 else D.nx σ H1)
    (mono : ∀ σ H Q Q', (∀ b H1, Q b H1 → Q' b H1) → c σ H Q → c σ H Q') : tWhile c tb D σ H := by
  refine ⟨fun m σ H => m = μ σ H ∧ Pv σ H, ⟨_, rfl, h0⟩, ?_⟩
  rintro m σ H ⟨rfl, p⟩
  refine mono σ H _ _ (fun b H1 q => ?_) (hs σ H p)
  cases b with
  | true => exact ⟨_, fun σ' H' ⟨p', l⟩ => ⟨_, l, rfl, p'⟩, q⟩
  | false => exact q
end L2

namespace L2
open PySem PySem.Spec PyProof.Rows

abbrev R2 := V → V → Hp → VK → Prop
/-- a two-place operation on values: f is binaryOp op, inplaceOp op or compareOp op -/
def OpR (X : Cx) (f : Value → Value → Sem Value) (r : R2) : Prop :=
  ∀ (pins : List (Addr × Obj)) (s : Shared) (σ : St) (H : Hp) (x y : V) (v u : Value) (Q : VK), Inv X pins σ H s → RelV x v → RelV y u → r x y H Q →
    wpAny (model X.prog X.w) X.A (f v u) (EP X pins σ Q) X.xe s
/-- a call of a value that is known (a builtin, a type) with values -/
def CallR (X : Cx) (f : Value) (r : List V → Hp → VK → Prop) : Prop :=
  ∀ (pins : List (Addr × Obj)) (s : Shared) (σ : St) (H : Hp) (xs : List V) (us : List Value) (Q : VK), Inv X pins σ H s → Vals xs us → r xs H Q →
    wpAny (model X.prog X.w) X.A (call f us) (EP X pins σ Q) X.xe s

def tOp (r : R2) (ta tb : TE) : TE := fun σ H Q => ta σ H fun x H1 => tb σ H1 fun y H2 => r x y H2 Q
/-- ints in, under C, and a value out -/
def rI (C : Int → Int → Prop) (g : Int → Int → V) : R2 := fun x y H Q => ∃ i j, x = .int i ∧ y = .int j ∧ C i j ∧ Q (g i j) H
def rI0 (g : Int → Int → V) : R2 := fun x y H Q => ∃ i j, x = .int i ∧ y = .int j ∧ Q (g i j) H

section
variable {X : Cx} {a b c : Expr} {ta tb tc : TE} {pos : Pos}

theorem binT (ha : PE X a ta) (hb : PE X b tb) {pins : List (Addr × Obj)} {s : Shared} {σ : St} {H : Hp} {R : V → V → Hp → Prop} (I : Inv X pins σ H s)
    (h : ta σ H fun x H1 => tb σ H1 fun y H2 => R x y H2) {Q : Value → Shared → Prop} {f : Value → Value → Sem Value}
    (hf : ∀ v u s2 x y H2, Inv X pins σ H2 s2 → RelV x v → RelV y u → R x y H2 → wpAny (model X.prog X.w) X.A (f v u) Q X.xe s2) :
    wpAny (model X.prog X.w) X.A (eval a X.env) (fun v s₁ => wpAny (model X.prog X.w) X.A (eval b X.env) (fun u s₂ => wpAny (model X.prog X.w) X.A (f v u) Q X.xe s₂) X.xe s₁) X.xe s := by
  refine thn (ha pins s σ H _ I h) fun v s1 ⟨x, H1, I1, r1, q1⟩ => ?_
  refine thn (hb pins s1 σ H1 _ I1 q1) fun u s2 ⟨y, H2, I2, r2, q2⟩ => ?_
  exact hf v u s2 x y H2 I2 r1 r2 q2

theorem pe_op {op : Operator} {r : R2} (ho : OpR X (binaryOp op) r) (ha : PE X a ta) (hb : PE X b tb) : PE X (.BinOp a op b pos) (tOp r ta tb) := by
  intro pins s σ H Q I h
  exact wpAny_BinOp (binT ha hb I h fun v u s2 x y H2 I2 rx ry q => ho pins s2 σ H2 x y v u Q I2 rx ry q)

/-! ### ints -/
theorem opI {f : Value → Value → Sem Value} {C : Int → Int → Prop} {g : Int → Int → Int}
    (rule : ∀ (i j : Int) (t u : Tok) (s : Shared) (Q : Value → Shared → Prop) (E : Value → Shared → Prop), C i j → Q (.int (g i j) s.toks) { s with toks := s.toks + 1 } → wpAny (model X.prog X.w) X.A (f (.int i t) (.int j u)) Q E s) :
    OpR X f (rI C fun i j => .int (g i j)) := by
  intro pins s σ H x y v u Q I rx ry h
  obtain ⟨i, j, rfl, rfl, hc, q⟩ := h
  obtain ⟨t, rfl⟩ := rx
  obtain ⟨t', rfl⟩ := ry
  exact rule i j t t' s _ _ hc ⟨.int (g i j), H, I.tok _, ⟨_, rfl⟩, q⟩
theorem opI0 {f : Value → Value → Sem Value} {g : Int → Int → Int}
    (rule : ∀ (i j : Int) (t u : Tok) (s : Shared) (Q : Value → Shared → Prop) (E : Value → Shared → Prop), Q (.int (g i j) s.toks) { s with toks := s.toks + 1 } → wpAny (model X.prog X.w) X.A (f (.int i t) (.int j u)) Q E s) :
    OpR X f (rI0 fun i j => .int (g i j)) := by
  intro pins s σ H x y v u Q I rx ry h
  obtain ⟨i, j, rfl, rfl, q⟩ := h
  obtain ⟨t, rfl⟩ := rx
  obtain ⟨t', rfl⟩ := ry
  exact rule i j t t' s _ _ ⟨.int (g i j), H, I.tok _, ⟨_, rfl⟩, q⟩
theorem opB0 {f : Value → Value → Sem Value} {g : Int → Int → Bool}
    (rule : ∀ (i j : Int) (t u : Tok) (s : Shared) (Q : Value → Shared → Prop) (E : Value → Shared → Prop), Q (.bool (g i j)) s → wpAny (model X.prog X.w) X.A (f (.int i t) (.int j u)) Q E s) :
    OpR X f (rI0 fun i j => .bl (g i j)) := by
  intro pins s σ H x y v u Q I rx ry h
  obtain ⟨i, j, rfl, rfl, q⟩ := h
  obtain ⟨t, rfl⟩ := rx
  obtain ⟨t', rfl⟩ := ry
  exact rule i j t t' s _ _ ⟨.bl (g i j), H, I, rfl, q⟩

def CDiv (i j : Int) : Prop := 0 < j ∧ j < 1073741824
def CPow (i j : Int) : Prop := 0 ≤ j ∧ j ≤ 1000000 ∧ i.natAbs < 2 ^ 64
def CMul (i j : Int) : Prop := (-(2 ^ 64) < i ∧ i < 2 ^ 64) ∨ (-(2 ^ 64) < j ∧ j < 2 ^ 64)
theorem CMul.ok {i j : Int} (h : CMul i j) : IntMulOk i j := by
  rcases h with ⟨h1, h2⟩ | ⟨h1, h2⟩
  · exact .of_left (intBits_le_64 h1 h2)
  · exact .of_right (intBits_le_64 h1 h2)
theorem two_pow_nn (k : Nat) : (0 : Int) ≤ 2 ^ k := by
  rw [two_pow_cast]
  exact Int.natCast_nonneg _

theorem op_add : OpR X (binaryOp .Add) (rI0 fun i j => .int (i + j)) := opI0 fun _ _ _ _ _ _ _ q => add_int q
theorem op_sub : OpR X (binaryOp .Sub) (rI0 fun i j => .int (i - j)) := opI0 fun _ _ _ _ _ _ _ q => sub_int q
theorem op_mul : OpR X (binaryOp .Mult) (rI CMul fun i j => .int (i * j)) := opI fun _ _ _ _ _ _ _ hc q => mul_int q hc.ok
/-- // by a positive divisor -/
theorem op_fdiv : OpR X (binaryOp .FloorDiv) (rI CDiv fun i j => .int (i / j)) := opI fun i j _ _ _ _ _ hc q => by
  have h1 : (0 : Int) < j := hc.1
  have h2 : j < 1073741824 := hc.2
  exact floordiv_int (by omega) (by rw [Int.fdiv_eq_ediv_of_nonneg i (by omega)]; exact q) (.inl (PyProof.noPylong_small (by omega)))
/-- % by a positive divisor of any size -/
theorem op_mod : OpR X (binaryOp .Mod) (rI (fun _ j => 0 < j) fun i j => .int (i % j)) := opI fun i j _ _ _ _ _ hc q => by
  have h1 : (0 : Int) < j := hc
  exact mod_int' (by omega) (by rw [Int.fmod_eq_emod_of_nonneg i (by omega)]; exact q)
theorem op_pow : OpR X (binaryOp .Pow) (rI CPow fun i j => .int (i ^ j.toNat)) := opI fun _ _ _ _ _ _ _ hc q => pow_int_small hc.1 hc.2.1 hc.2.2 q
theorem op_shl : OpR X (binaryOp .LShift) (rI CPow fun i j => .int (i * 2 ^ j.toNat)) := opI fun _ _ _ _ _ _ _ hc q => lshift_int_small hc.1 hc.2.1 hc.2.2 q
theorem op_shr : OpR X (binaryOp .RShift) (rI (fun _ j => 0 ≤ j) fun i j => .int (i / 2 ^ j.toNat)) := opI fun i j _ _ _ _ _ hc q =>
  rshift_int hc (by rw [Int.fdiv_eq_ediv_of_nonneg i (two_pow_nn _)]; exact q)
theorem op_and : OpR X (binaryOp .BitAnd) (rI0 fun i j => .int (Builtin.bitAnd i j)) := opI0 fun _ _ _ _ _ _ _ q => and_int q
theorem op_or : OpR X (binaryOp .BitOr) (rI0 fun i j => .int (Builtin.bitOr i j)) := opI0 fun _ _ _ _ _ _ _ q => or_int q
theorem op_xor : OpR X (binaryOp .BitXor) (rI0 fun i j => .int (Builtin.bitXor i j)) := opI0 fun _ _ _ _ _ _ _ q => xor_int q



/-! ### bools among ints: n += (a < b) -/
end

/-! ### comparisons -/
/-- the scalars that == tells apart as data does -/
def scal : V → V → Bool
  | .non, .non => true | .non, .int _ => true | .int _, .non => true | .non, .bl _ => true | .bl _, .non => true | .non, .str _ => true | .str _, .non => true
  | .int _, .int _ => true | .bl _, .bl _ => true | .str _, .str _ => true | .byt _, .byt _ => true
  | .int _, .str _ => true | .str _, .int _ => true | .bl _, .str _ => true | .str _, .bl _ => true
  | _, _ => false
def rEq : R2 := fun x y H Q => scal x y = true ∧ Q (.bl (decide (x = y))) H
def rNe : R2 := fun x y H Q => scal x y = true ∧ Q (.bl (!decide (x = y))) H

theorem dec_int {i j : Int} : decide (V.int i = V.int j) = (i == j) := by
  rw [Bool.eq_iff_iff]
  simp
theorem dec_bl {i j : Bool} : decide (V.bl i = V.bl j) = (i == j) := by
  rw [Bool.eq_iff_iff]
  simp
theorem dec_str {i j : Str} : decide (V.str i = V.str j) = (i == j) := by
  rw [Bool.eq_iff_iff]
  simp
theorem dec_byt {i j : Array UInt8} : decide (V.byt i = V.byt j) = (i.toList == j.toList) := by
  rw [Bool.eq_iff_iff]
  cases i
  cases j
  simp

section
variable {X : Cx} {a b c : Expr} {ta tb tc : TE} {pos : Pos}
theorem fin_bl {pins : List (Addr × Obj)} {σ : St} {H : Hp} {s : Shared} {Q : VK} {k k' : Bool} (I : Inv X pins σ H s) (q : Q (.bl k) H) (e : k = k') : EP X pins σ Q (.bool k') s := by
  subst e
  exact ⟨.bl k, H, I, rfl, q⟩
theorem op_eq : OpR X (compareOp .Eq) rEq := by
  intro pins s σ H x y v u Q I rx ry h
  obtain ⟨hs, q⟩ := h
  cases x with
  | non =>
    cases rx
    cases y with
    | non => cases ry; exact PySem.EqNone.eq_none_none (fin_bl I q (by simp))
    | bl j => cases ry; exact PySem.EqNone.eq_none_bool (fin_bl I q (by simp))
    | int j => obtain ⟨t', rfl⟩ := ry; exact PySem.EqNone.eq_none_int (fin_bl I q (by simp))
    | str j => obtain ⟨t', rfl⟩ := ry; exact PySem.EqNone.eq_none_str (fin_bl I q (by simp))
    | _ => exact absurd (show false = true from hs) Bool.false_ne_true
  | bl i =>
    cases rx
    cases y with
    | non => cases ry; exact PySem.EqNone.eq_bool_none (fin_bl I q (by simp))
    | bl j => cases ry; exact eq_bool (fin_bl I q dec_bl)
    | str j => obtain ⟨t', rfl⟩ := ry; exact PySem.EqMixed.eq_bool_str (fin_bl I q (by simp))
    | _ => exact absurd (show false = true from hs) Bool.false_ne_true
  | int i =>
    obtain ⟨t, rfl⟩ := rx
    cases y with
    | non => cases ry; exact PySem.EqNone.eq_int_none (fin_bl I q (by simp))
    | int j => obtain ⟨t', rfl⟩ := ry; exact eq_int (fin_bl I q dec_int)
    | str j => obtain ⟨t', rfl⟩ := ry; exact PySem.EqMixed.eq_int_str (fin_bl I q (by simp))
    | _ => exact absurd (show false = true from hs) Bool.false_ne_true
  | str i =>
    obtain ⟨t, rfl⟩ := rx
    cases y with
    | non => cases ry; exact PySem.EqNone.eq_str_none (fin_bl I q (by simp))
    | bl j => cases ry; exact PySem.EqMixed.eq_str_bool (fin_bl I q (by simp))
    | int j => obtain ⟨t', rfl⟩ := ry; exact PySem.EqMixed.eq_str_int (fin_bl I q (by simp))
    | str j => obtain ⟨t', rfl⟩ := ry; exact eq_str (fin_bl I q dec_str)
    | _ => exact absurd (show false = true from hs) Bool.false_ne_true
  | byt i =>
    obtain ⟨t, rfl⟩ := rx
    cases y with
    | byt j => obtain ⟨t', rfl⟩ := ry; exact PySem.W.eq_bytes (fin_bl I q dec_byt)
    | _ => exact absurd (show false = true from hs) Bool.false_ne_true
  | _ => cases y <;> exact absurd (show false = true from hs) Bool.false_ne_true
theorem op_ne : OpR X (compareOp .NotEq) rNe := by
  intro pins s σ H x y v u Q I rx ry h
  obtain ⟨hs, q⟩ := h
  cases x with
  | non =>
    cases rx
    cases y with
    | non => cases ry; exact PySem.EqNone.ne_none_none (fin_bl I q (by simp))
    | bl j => cases ry; exact PySem.EqNone.ne_none_bool (fin_bl I q (by simp))
    | int j => obtain ⟨t', rfl⟩ := ry; exact PySem.EqNone.ne_none_int (fin_bl I q (by simp))
    | str j => obtain ⟨t', rfl⟩ := ry; exact PySem.EqNone.ne_none_str (fin_bl I q (by simp))
    | _ => exact absurd (show false = true from hs) Bool.false_ne_true
  | bl i =>
    cases rx
    cases y with
    | non => cases ry; exact PySem.EqNone.ne_bool_none (fin_bl I q (by simp))
    | bl j => cases ry; exact ne_bool (fin_bl I q (congrArg not dec_bl))
    | str j => obtain ⟨t', rfl⟩ := ry; exact PySem.EqMixed.ne_bool_str (fin_bl I q (by simp))
    | _ => exact absurd (show false = true from hs) Bool.false_ne_true
  | int i =>
    obtain ⟨t, rfl⟩ := rx
    cases y with
    | non => cases ry; exact PySem.EqNone.ne_int_none (fin_bl I q (by simp))
    | int j => obtain ⟨t', rfl⟩ := ry; exact ne_int (fin_bl I q (congrArg not dec_int))
    | str j => obtain ⟨t', rfl⟩ := ry; exact PySem.EqMixed.ne_int_str (fin_bl I q (by simp))
    | _ => exact absurd (show false = true from hs) Bool.false_ne_true
  | str i =>
    obtain ⟨t, rfl⟩ := rx
    cases y with
    | non => cases ry; exact PySem.EqNone.ne_str_none (fin_bl I q (by simp))
    | bl j => cases ry; exact PySem.EqMixed.ne_str_bool (fin_bl I q (by simp))
    | int j => obtain ⟨t', rfl⟩ := ry; exact PySem.EqMixed.ne_str_int (fin_bl I q (by simp))
    | str j => obtain ⟨t', rfl⟩ := ry; exact ne_str (fin_bl I q (congrArg not dec_str))
    | _ => exact absurd (show false = true from hs) Bool.false_ne_true
  | byt i =>
    obtain ⟨t, rfl⟩ := rx
    cases y with
    | byt j => obtain ⟨t', rfl⟩ := ry; exact PySem.W.ne_bytes (fin_bl I q (congrArg not dec_byt))
    | _ => exact absurd (show false = true from hs) Bool.false_ne_true
  | _ => cases y <;> exact absurd (show false = true from hs) Bool.false_ne_true

theorem op_lt : OpR X (compareOp .Lt) (rI0 fun i j => .bl (decide (i < j))) := opB0 fun _ _ _ _ _ _ _ q => lt_int q
theorem op_le : OpR X (compareOp .LtE) (rI0 fun i j => .bl (decide (i ≤ j))) := opB0 fun _ _ _ _ _ _ _ q => le_int q
theorem op_gt : OpR X (compareOp .Gt) (rI0 fun i j => .bl (decide (j < i))) := opB0 fun _ _ _ _ _ _ _ q => gt_int q

/-- is None, is not None: the right side a value none -/
theorem op_isN : OpR X (compareOp .Is) (fun x y H Q => y = .non ∧ Q (.bl (decide (x = .non))) H) := by
  intro pins s σ H x y v u Q I rx ry h
  obtain ⟨rfl, q⟩ := h
  cases ry
  refine is_none_gen (fin_bl I q ?_)
  cases x <;> first
    | (cases rx; rfl)
    | (obtain ⟨t, rfl⟩ := rx; rfl)
theorem op_notN : OpR X (compareOp .IsNot) (fun x y H Q => y = .non ∧ Q (.bl (!decide (x = .non))) H) := by
  intro pins s σ H x y v u Q I rx ry h
  obtain ⟨rfl, q⟩ := h
  cases ry
  refine isnot_none_gen (fin_bl I q ?_)
  cases x <;> first
    | (cases rx; rfl)
    | (obtain ⟨t, rfl⟩ := rx; rfl)



theorem nomark (b : Expr) {op : CmpOp} (h : op ≠ .In := by decide) (h2 : op ≠ .NotIn := by decide) : behindInMarks op b = false := by
  have e1 : (op == CmpOp.In) = false := by cases op <;> first | rfl | exact absurd rfl h
  have e2 : (op == CmpOp.NotIn) = false := by cases op <;> first | rfl | exact absurd rfl h2
  cases b <;> simp [behindInMarks, e1, e2]
/-- a comparison as a value; hm: nomark b, or (for in, not in) by with_unfolding_all rfl -/
theorem pe_cmpR {op : CmpOp} {r : R2} (ho : OpR X (compareOp op) r) (ha : PE X a ta) (hb : PE X b tb) (hm : behindInMarks op b = false) : PE X (.Compare a [op] [b] pos) (tOp r ta tb) := by
  intro pins s σ H Q I h
  exact wpAny_Compare1 (binT ha hb I h fun v u s2 x y H2 I2 rx ry q => ho pins s2 σ H2 x y v u Q I2 rx ry q) hm
/-- a reading of a value as a test -/
def tTest (t : TE) : TT := fun σ H Q => t σ H fun x H' => ∃ k, x = .bl k ∧ Q k H'
theorem pt_cmpR {op : CmpOp} {r : R2} (ho : OpR X (compareOp op) r) (ha : PE X a ta) (hb : PE X b tb) (hm : behindInMarks op b = false) : PT X (.Compare a [op] [b] pos) (tTest (tOp r ta tb)) := by
  intro pins s σ H Q I h
  refine wpAny_isTrue_Compare1 (thn (ha pins s σ H _ I h) fun v s1 ⟨x, H1, I1, r1, q1⟩ => thn (hb pins s1 σ H1 _ I1 q1) fun u s2 ⟨y, H2, I2, r2, q2⟩ =>
    thn (ho pins s2 σ H2 x y v u _ I2 r1 r2 q2) fun c s3 ⟨z, H3, I3, r3, k, e, q3⟩ => ?_) hm
  subst e
  cases r3
  exact wpAny_truthy_bool ⟨H3, I3, q3⟩

/-! ### truth -/
theorem line63 : (sizeLine : Nat) < 2 ^ 63 := by rw [sizeLine_eq]; decide

/-! ### strs and bytes -/


/-! ### scalar builtins, by CallR -/
theorem vals1 {x : V} {us : List Value} (r : Vals [x] us) : ∃ u, us = [u] ∧ RelV x u := by
  cases r with
  | cons r1 r2 => cases r2; exact ⟨_, rfl, r1⟩
theorem vals2 {x y : V} {us : List Value} (r : Vals [x, y] us) : ∃ u w', us = [u, w'] ∧ RelV x u ∧ RelV y w' := by
  cases r with
  | cons r1 r2 =>
    cases r2 with
    | cons r3 r4 => cases r4; exact ⟨_, _, rfl, r1, r3⟩
theorem call_max2 (hc : X.calm = true) : CallR X (.builtin "max") (fun xs H Q => ∃ i j, xs = [.int i, .int j] ∧ Q (.int (if j > i then j else i)) H) := by
  intro pins s σ H xs us Q I r h
  obtain ⟨i, j, rfl, q⟩ := h
  obtain ⟨u, w', rfl, ⟨t, rfl⟩, ⟨t', rfl⟩⟩ := vals2 r
  refine max_two_ints (I.ok.hd hc) fun h' tk k => ⟨_, H, I.kept k, ?_, q⟩
  by_cases hj : j > i
  · rw [if_pos hj, if_pos hj]; exact ⟨_, rfl⟩
  · rw [if_neg hj, if_neg hj]; exact ⟨_, rfl⟩
theorem call_min2 (hc : X.calm = true) : CallR X (.builtin "min") (fun xs H Q => ∃ i j, xs = [.int i, .int j] ∧ Q (.int (if j < i then j else i)) H) := by
  intro pins s σ H xs us Q I r h
  obtain ⟨i, j, rfl, q⟩ := h
  obtain ⟨u, w', rfl, ⟨t, rfl⟩, ⟨t', rfl⟩⟩ := vals2 r
  refine min_two_ints (I.ok.hd hc) fun h' tk k => ⟨_, H, I.kept k, ?_, q⟩
  by_cases hj : j < i
  · rw [if_pos hj, if_pos hj]; exact ⟨_, rfl⟩
  · rw [if_neg hj, if_neg hj]; exact ⟨_, rfl⟩
theorem call_int1 : CallR X (.type "int") (fun xs H Q => (∃ i, xs = [.int i] ∧ Q (.int i) H) ∨ ∃ k, xs = [.bl k] ∧ Q (.int (if k then 1 else 0)) H) := by
  intro pins s σ H xs us Q I r h
  rcases h with ⟨i, rfl, q⟩ | ⟨k, rfl, q⟩
  · obtain ⟨u, rfl, t, rfl⟩ := vals1 r
    exact call_int_int ⟨.int i, H, I, ⟨_, rfl⟩, q⟩
  · obtain ⟨u, rfl, r1⟩ := vals1 r
    cases r1
    exact call_int_bool ⟨.int (if k then 1 else 0), H, I.tok _, ⟨_, rfl⟩, q⟩
end
end L2

namespace L2
open PySem PySem.Spec PyProof.Rows

/-! ### an instance, its attributes a map -/
structure ObjM (h : Heap) (x dx C : Addr) (mA : Str → Option Value) : Prop where
  obj : h.get? x = some (PySem.W.instObj C dx)
  ns : h.Ns1 dx mA
  ne : dx ≠ x

theorem lookIn_ns {h : Heap} {dx : Addr} {mA : Str → Option Value} (n : h.Ns1 dx mA) : ∃ od, h.get? dx = some od ∧ ∀ name, PySem.W.lookIn name od = some (mA name) := by
  obtain ⟨o, es, ep, ho, hd, hk, _, hm⟩ := n
  refine ⟨o, ho, fun name => ?_⟩
  have e := hm name
  unfold nsFind findBy at e
  rw [← Array.find?_toList] at e
  unfold PySem.W.lookIn
  rw [hd]
  dsimp only
  split
  · rename_i y q
    rw [q] at e
    exact congrArg some e
  · rename_i q
    rw [q] at e
    have a : es.toList.any (·.refKey) = false := by
      rw [List.any_eq_false]
      intro y hy
      obtain ⟨z, t, hkey⟩ := hk y (Array.mem_toList_iff.mp hy)
      simp [DictEntry.refKey, hkey]
    have a' : ¬ es.toList.any (·.refKey) = true := by rw [a]; exact Bool.false_ne_true
    rw [if_neg a']
    exact congrArg some e

theorem ObjM.look {h : Heap} {x dx C : Addr} {mA : Str → Option Value} (I : ObjM h x dx C mA) : ∃ od, PySem.W.InstAt h x (PySem.W.instObj C dx) C (some od) ∧ ∀ name, PySem.W.lookIn name od = some (mA name) :=
  let ⟨od, ho, hl⟩ := lookIn_ns I.ns
  ⟨od, ⟨I.obj, rfl, rfl, ho⟩, hl⟩

section
variable {prog : Program} {w : World} {A : Around} {E : Value → Shared → Prop} {s : Shared} {K : PySem.W.Frag} {x dx C f : Addr} {mA : Str → Option Value} {name : Str} {v : Value}





end

/-! ### the attributes as a list of pairs -/

theorem RelO.some_of {v : V} {o : Option Value} (r : RelO (some v) o) : ∃ u, o = some u ∧ RelV v u := by
  cases o with
  | none => exact (show False from r).elim
  | some u => exact ⟨u, rfl, r⟩

section
variable {P : Program} {w : World} {H H' : Hp} {h h' : Heap} {a C dx : Addr} {fs fs' : List (Str × V)}
theorem ins_get (hok : HOk P w H h) (e : H a = some (.ins C dx fs)) : ∃ mA, ObjM h a dx C mA ∧ (∀ f, RelO (fs.lookup f) (mA f)) ∧ PySem.Within mA (fs.map (·.1)) ∧ fs.length ≤ 1000 ∧ H dx = some (.own a) := by
  obtain ⟨d, z, ne, ob, mA, n, r, q⟩ := (show ObjOk P w H h a (.ins C dx fs) from hok a _ e)
  exact ⟨mA, ⟨ob, n, ne⟩, r, q, z, d⟩
end

/-! ### what of the text a class must have -/
structure Cls (K : PySem.W.Frag) (C : Addr) : Prop where
  pg : PySem.W.plainGet K C Str.empty = true
  hd : PySem.W.hasDictIn K C = true
  po : PySem.W.plainOver K C = true
  sa : PySem.W.findIn K (.ref C) "__setattr__" = some (some (.builtin "object.__setattr__"))
theorem Cls.get {K : PySem.W.Frag} {C : Addr} (c : Cls K C) (f : Str) : PySem.W.plainGet K C f = true := c.pg

section
variable {X : Cx} {pins : List (Addr × Obj)} {σ : St} {H : Hp} {s : Shared} {a C dx : Addr} {fs : List (Str × V)} {f : Str} {v : V} {A : Around} {E : Value → Shared → Prop}






end

/-! ### readings and rules -/

section
variable {X : Cx} {o e value : Expr} {f : Str} {pos pos' tpos : Pos} {ta tv : TE}

end

/-! ### isinstance -/
section
variable {X : Cx} {pins : List (Addr × Obj)} {σ : St} {H : Hp} {s : Shared} {A : Around} {E : Value → Shared → Prop} {Q : Value → Shared → Prop} {c : Value} {b : Bool}
/-- the type of a value, as the fragment's deciders take it; for an instance its class -/
inductive TyOf (K : PySem.W.Frag) (H : Hp) : V → Value → Prop where
  | non : TyOf K H .non (.type "NoneType")
  | bl (x : Bool) : TyOf K H (.bl x) (.type "bool")
  | int (i : Int) : TyOf K H (.int i) (.type "int")
  | str (x : Str) : TyOf K H (.str x) (.type "str")
  | flt (x : UInt64) : TyOf K H (.flt x) (.type "float")
  | lst {a : Addr} {xs : List V} (e : H a = some (.lst xs)) : TyOf K H (.ref a) (.type "list")
  | frz {a : Addr} {o : Obj} {xs : List V} (e : H a = some (.frz o (.lst xs))) : TyOf K H (.ref a) (.type "list")
  | tup {a : Addr} {xs : List V} (e : H a = some (.tup xs)) : TyOf K H (.ref a) (.type "tuple")
  | dK {a : Addr} {kvs : List (Key × V)} (e : H a = some (.dK kvs)) : TyOf K H (.ref a) (.type "dict")
  | dT {a : Addr} {kvs : List (List Key × V)} (e : H a = some (.dT kvs)) : TyOf K H (.ref a) (.type "dict")
  | ins {a C dx : Addr} {fs : List (Str × V)} (e : H a = some (.ins C dx fs)) (cl : Cls K C) (ha : PySem.W.findIn K (.ref C) "__class__" = some (some (.builtin "object.__class__")))
      (hn : PySem.W.specialIn K (.builtin "object.__class__") "__get__" = some (some (.builtin "getset_descriptor.__get__"))) (htk : PySem.W.takesIn K (.builtin "object.__class__") = some true)
      (hm : PySem.W.mroIn K C (.type "object") = some true) : TyOf K H (.ref a) (.ref C)
/-- isinstance(x, c) for one class c, a built-in or an own one: kitOne's answer -/
theorem isinst_ok {x : V} {u t : Value} (I : Inv X pins σ H s) (rx : RelV x u) (ty : TyOf X.K H x t) (e : PySem.W.kitOne X.K t c = some b) (h : ∀ tk, Q (.bool b) { s with toks := tk }) :
    wpAny (model X.prog X.w) A (call (.builtin "isinstance") [u, c]) Q E s := by
  cases ty with
  | non => cases (show u = Value.none from rx); exact PySem.W.kia_one PySem.W.kitx_none I.kIn True.intro e (fun z => nomatch z) h
  | bl y => cases (show u = Value.bool y from rx); exact PySem.W.kia_one PySem.W.kitx_bool I.kIn True.intro e (fun z => nomatch z) h
  | int i => obtain ⟨t, q⟩ := (show ∃ t, u = Value.int i t from rx); cases q; exact PySem.W.kia_one PySem.W.kitx_int I.kIn True.intro e (fun z => nomatch z) h
  | str y => obtain ⟨t, q⟩ := (show ∃ t, u = Value.str y t from rx); cases q; exact PySem.W.kia_one PySem.W.kitx_str I.kIn True.intro e (fun z => nomatch z) h
  | flt y => obtain ⟨t, q⟩ := (show ∃ t, u = Value.float y t from rx); cases q; exact PySem.W.kia_one PySem.W.kitx_float I.kIn True.intro e (fun z => nomatch z) h
  | @lst a xs ea =>
    cases (show u = Value.ref a from rx)
    obtain ⟨_, _, n, _, h1⟩ := (show ObjOk X.prog X.w H s.heap a (.lst xs) from I.hok a _ ea)
    exact PySem.W.kia_one PySem.W.kitx_list I.kIn ⟨_, h1, rfl⟩ e (fun z => nomatch z) h
  | @frz a ob xs ea =>
    cases (show u = Value.ref a from rx)
    obtain ⟨_, _, _, n, _, h1⟩ := (show ObjOk X.prog X.w H s.heap a (.frz ob (.lst xs)) from I.hok a _ ea)
    exact PySem.W.kia_one PySem.W.kitx_list I.kIn ⟨_, h1, rfl⟩ e (fun z => nomatch z) h
  | @tup a xs ea =>
    cases (show u = Value.ref a from rx)
    obtain ⟨_, _, _, p⟩ := (show ObjOk X.prog X.w H s.heap a (.tup xs) from I.hok a _ ea)
    obtain ⟨o, h1, h2, _⟩ := p
    exact PySem.W.kia_one PySem.W.kitx_tuple I.kIn ⟨o, h1, h2⟩ e (fun z => nomatch z) h
  | @dK a kvs ea =>
    cases (show u = Value.ref a from rx)
    obtain ⟨_, _, vs, _, p⟩ := (show ObjOk X.prog X.w H s.heap a (.dK kvs) from I.hok a _ ea)
    obtain ⟨o, es, ep, h1, h2, _⟩ := p
    exact PySem.W.kia_one PySem.W.kitx_dict I.kIn ⟨o, h1, h2.1⟩ e (fun z => nomatch z) h
  | @dT a kvs ea =>
    cases (show u = Value.ref a from rx)
    obtain ⟨_, _, xs, _, o, es, ep, h1, h2, _⟩ := (show ObjOk X.prog X.w H s.heap a (.dT kvs) from I.hok a _ ea)
    exact PySem.W.kia_one PySem.W.kitx_dict I.kIn ⟨o, h1, h2.1⟩ e (fun z => nomatch z) h
  | @ins a C dx fs ea cl ha hn htk hm =>
    cases (show u = Value.ref a from rx)
    obtain ⟨mA, O, _⟩ := ins_get I.hok ea
    obtain ⟨od, J, _⟩ := O.look
    exact PySem.W.kia_one (PySem.W.kitx_own (cl.get _) cl.hd ha hn htk hm) I.kIn J e (fun z => nomatch z) h
end
end L2

namespace L2
open PySem PySem.Spec PyProof.Rows

/-! ### room -/
structure Room (k : Nat) (A : Around) : Prop where
  hd : A.handled = none
  dp : A.depth + 3 * k + 5 < recursionLimit
  un : A.units + 16 * k + 200 < cLine
theorem Room.mono {j k : Nat} {A : Around} (r : Room k A) (h : j ≤ k) : Room j A := ⟨r.hd, by have := r.dp; omega, by have := r.un; omega⟩
theorem Room.deeper {k : Nat} {A : Around} (r : Room (k + 1) A) (env : Env) : Room k (A.deeper env) :=
  ⟨r.hd, by have := r.dp; show A.depth + 1 + 3 * k + 5 < _; omega, by have := r.un; show A.units + 3 + 16 * k + 200 < _; omega⟩
theorem Room.depth {k : Nat} {A : Around} (r : Room k A) : A.depth < recursionLimit := by have := r.dp; omega
theorem Room.units {k : Nat} {A : Around} (r : Room k A) : A.units + 64 < cLine := by have := r.un; omega

/-! ### argument lists and displays -/
def tNil : TA := fun _ H Q => Q [] H
def tCons (ta : TE) (tr : TA) : TA := fun σ H Q => ta σ H fun x H1 => tr σ H1 fun xs H2 => Q (x :: xs) H2
section
variable {X : Cx} {e : Expr} {es : List Expr} {te : TE} {t : TA} {pos : Pos}
theorem pa_nil : PA X [] tNil := fun _ _ _ _ H Q I h => Calls.spliced_nil ⟨[], H, I, .nil, h⟩
theorem pa_cons (ha : PE X e te) (hr : PA X es t) (hs : starEach (e :: es) X.env = (false, eval e X.env) :: starEach es X.env := by rfl) : PA X (e :: es) (tCons te t) := by
  intro pos pins s σ H Q I h
  rw [hs]
  show wpAny _ _ (spliced ((false, eval e X.env) :: backTo pos (starEach es X.env))) _ _ s
  refine Calls.spliced_cons (thn (ha pins s σ H _ I h) fun u s1 ⟨x, H1, I1, r1, q1⟩ => ?_)
  exact thn (hr pos pins s1 σ H1 _ I1 q1) fun us s2 ⟨xs, H2, I2, r2, q2⟩ => ⟨x :: xs, H2, I2, .cons r1 r2, q2⟩

/-- a tuple, a list of written items -/
def tTup (t : TA) : TE := fun σ H Q => t σ H fun xs H1 => xs.length ≤ sizeLine ∧ ∀ p, H1 p = none → Q (.ref p) (upd H1 p (.tup xs))
def tLst (t : TA) : TE := fun σ H Q => t σ H fun xs H1 => xs.length ≤ sizeLine ∧ ∀ p, H1 p = none → Q (.ref p) (upd H1 p (.lst xs))
theorem pe_tup {x1} (h : PA X es t) : PE X (.Tuple es x1 pos) (tTup t) := by
  intro pins s σ H Q I hq
  refine wpAny_Tuple_spliced (thn (h pos pins s σ H _ I hq) fun us s1 ⟨xs, H1, I1, r, z, q⟩ => ⟨by rw [← r.length]; exact z, ?_⟩)
  have hf : H1 s1.heap.objs.size = none := I1.hok.fresh (Nat.le_refl _)
  refine ⟨.ref s1.heap.objs.size, upd H1 s1.heap.objs.size (.tup xs), I1.laid (t' := s1.toks) (fun b u e => Heap.get?_push_of_some _ e) (Nat.le_refl _) ?_, rfl, q _ hf⟩
  exact ⟨z, us, r, ⟨_, Heap.get?_push_size _ rfl, rfl, _, rfl⟩⟩
theorem pe_lst (h : PA X es t) : PE X (.List es pos) (tLst t) := by
  intro pins s σ H Q I hq
  refine wpAny_List_spliced (thn (h pos pins s σ H _ I hq) fun us s1 ⟨xs, H1, I1, r, z, q⟩ => ⟨by rw [← r.length]; exact z, ?_⟩)
  have hf : H1 s1.heap.objs.size = none := I1.hok.fresh (Nat.le_refl _)
  refine ⟨.ref s1.heap.objs.size, upd H1 s1.heap.objs.size (.lst xs), I1.laid (t' := s1.toks) (fun b u e => Heap.get?_push_of_some _ e) (Nat.le_refl _) ?_, rfl, q _ hf⟩
  exact ⟨z, us, 0, r, Heap.get?_push_size _ rfl⟩
end

/-! ### what a def promises -/
/-- a def's promise: the bound arguments in the parameters' order, the heap, the wanted end, the wanted exception -/
abbrev Sp := List V → Hp → VK → XK → Prop
/-- how an exception lies behind a call (file 08 gives it): the callers' frames, abstract heap and state ahead of the call, the wish, the exception, the state -/
abbrev CXT := List Env → Hp → Shared → XK → Value → Shared → Prop

/-- the state at a call -/
structure Env0 (P : Program) (w : World) (K : PySem.W.Frag) (mg : Str → Option Value) (base : Heap) (A : Around) (outer : List Env) (s : Shared) (H : Hp) : Prop where
  frames : A.frames = some outer
  mod : Mod K mg base
  bs : ∀ b o, base.get? b = some o → s.heap.get? b = some o ∧ H b = none
  bsz : base.objs.size ≤ s.heap.objs.size
  funs : s.heap.FunFrames base outer
  frf : ∀ b ∈ frs outer, H b = none
  hok : HOk P w H s.heap
  bare : AllBare s.gens
/-- a call's end -/
def CE (outer : List Env) (P : Program) (w : World) (H : Hp) (s : Shared) (Q : VK) (u : Value) (s' : Shared) : Prop :=
  ∃ v H', s'.os = s.os ∧ AllBare s'.gens ∧ Un (frs outer) [] H H' s.heap s'.heap ∧ HOk P w H' s'.heap ∧ RelV v u ∧ Q v H'
def CR (CX : CXT) (outer : List Env) (P : Program) (w : World) (H : Hp) (s : Shared) (Q : VK) (E : XK) (r : Result) (s' : Shared) : Prop :=
  match r with
  | .ok (.ret u) => CE outer P w H s Q u s'
  | .ok _ => False
  | .error e => CX outer H s E e s'
structure FnOk (P : Program) (w : World) (K : PySem.W.Frag) (mg : Str → Option Value) (base : Heap) (CX : CXT) (k : Nat) (f : Addr) (fd : FuncData) (ps : List Str) (sp : Sp) : Prop where
  len : ∀ vs H Q E, sp vs H Q E → vs.length = ps.length
  run : ∀ (A : Around) (outer : List Env) (s : Shared) (H : Hp) (args : Args) (us : List Value) (vs : List V) (Q : VK) (E : XK), Room k A → Env0 P w K mg base A outer s H → BindsTo s fd args (ps.zip us) → Vals vs us → sp vs H Q E →
    codeAny (model P w) A (.call (.ref f) args) (CR CX outer P w H s Q E) s


section
variable {X : Cx} {pins : List (Addr × Obj)} {σ : St} {H : Hp} {s s' : Shared}
/-- from a body: what a callee wants -/
theorem Inv.env0 (I : Inv X pins σ H s) : Env0 X.prog X.w X.K X.mg X.base X.A X.stack s H :=
  ⟨I.ok.frames, I.ok.mod, I.bs, Nat.le_trans I.ok.bsz I.sz, I.stack, I.stkFree, I.hok, I.bare⟩
/-- behind a call -/
theorem Inv.after {Q : VK} {u : Value} (I : Inv X pins σ H s) (h : CE X.stack X.prog X.w H s Q u s') : EP X pins σ Q u s' := by
  obtain ⟨v, H', os, bare, un, hok, r, q⟩ := h
  obtain ⟨hh, g, d, t, os'⟩ := s'
  obtain rfl : os' = s.os := os
  exact ⟨v, H', I.call (h' := hh) (g' := g) (d' := d) (t' := t) (ch := []) un hok bare (fun b z => absurd z (by simp)), r, q⟩
end

/-! ### calls -/
/-- f(..): the written arguments, then the defaults dvs; E: what is wanted of an exception -/
def tCall (sp : Sp) (dvs : List V) (E : XK) (t : TA) : TE := fun σ H Q => t σ H fun vs H1 => sp (vs ++ dvs) H1 Q E

/-- how the parameters are bound: us the positional arguments, kw the keywords' values by name, ds the defaults that fill up -/
def Binds (K : PySem.W.Frag) (fd : FuncData) (ps : List Str) (ds : List Value) : Prop :=
  ∀ (s : Shared) (us : List Value), K.In s.heap → (us ++ ds).length = ps.length → BindsTo s fd ⟨us, []⟩ (ps.zip (us ++ ds))
/-- every parameter is given -/
theorem Binds.all {K : PySem.W.Frag} {fd : FuncData} {ps : List Str} (h : ∀ us : List Value, us.length = ps.length → bindArgs fd ⟨us, []⟩ = pure (ps.zip us)) : Binds K fd ps [] := fun s us _ hl => by
  rw [List.append_nil] at hl ⊢
  exact .of_eq (h us hl)

/-- an exception of a callee reaches what this body wants of exceptions -/
def Passes (CX : CXT) (X : Cx) (E : XK) : Prop := ∀ (pins : List (Addr × Obj)) (σ : St) (H : Hp) (s : Shared) (e : Value) (s' : Shared), Inv X pins σ H s → CX X.stack H s E e s' → X.xe e s'

section
variable {X : Cx} {CX : CXT} {k : Nat} {f C : Addr} {fd : FuncData} {ps : List Str} {sp : Sp} {dvs : List V} {ds : List Value} {E : XK} {x m : Str} {p pos apos : Pos} {e o : Expr} {es : List Expr} {ta : TE} {t : TA}

/-- the callee runs -/
theorem run_fn {pins : List (Addr × Obj)} {σ : St} {H : Hp} {s : Shared} {Q : VK} {us : List Value} {vs : List V} (F : FnOk X.prog X.w X.K X.mg X.base CX k f fd ps sp) (hr : Room k X.A) (hb : Binds X.K fd ps ds) (hd : Vals dvs ds) (hx : Passes CX X E)
    (I : Inv X pins σ H s) (r : Vals vs us) (h : sp (vs ++ dvs) H Q E) : wpAny (model X.prog X.w) X.A (call (.ref f) us) (EP X pins σ Q) X.xe s := by
  have r2 : Vals (vs ++ dvs) (us ++ ds) := r.append hd
  have hl : (us ++ ds).length = ps.length := by rw [← r2.length]; exact F.len _ _ _ _ h
  refine wpAny_call (codeAny_mono (F.run X.A X.stack s H ⟨us, []⟩ (us ++ ds) (vs ++ dvs) Q E hr I.env0 (hb s us I.kIn hl) r2 h) fun r s' hq => ?_)
  cases r with
  | error e => exact hx pins σ H s e s' I hq
  | ok fl =>
    cases fl with
    | ret u => exact I.after hq
    | next => exact False.elim hq
    | brk => exact False.elim hq
    | cont => exact False.elim hq

theorem pe_call (F : FnOk X.prog X.w X.K X.mg X.base CX k f fd ps sp) (hr : Room k X.A) (hg : Gl X x) (hm : X.mg x = some (.ref f)) (hk : PySem.W.keepIn X.K (.ref f) = true) (hb : Binds X.K fd ps ds) (hd : Vals dvs ds) (hx : Passes CX X E)
    (ha : PA X (e :: es) t) (hdb : (x == ("__debug__" : Str)) = false := by decide) (he : starEach (e :: es) X.env = (false, eval e X.env) :: starEach es X.env := by rfl) (hpl : (backTo pos (starEach es X.env)).any (·.1) = false := by rfl) :
    PE X (.Call (.Name x p) (e :: es) [] pos) (tCall sp dvs E t) := by
  intro pins s σ H Q I h
  refine wpAny_Call_Name_kw (ld_glob I hg hm ?_ hdb)
  refine PySem.W.callWith_K (h₀ := X.base) I.ok.mod.kin hk (thn (ha pos pins s σ H _ I h) fun us s1 ⟨vs, H1, I1, r, q⟩ => ⟨I1.kIn, ?_⟩) he hpl
  exact run_fn F hr hb hd hx I1 r q
theorem pe_call0 (F : FnOk X.prog X.w X.K X.mg X.base CX k f fd ps sp) (hr : Room k X.A) (hg : Gl X x) (hm : X.mg x = some (.ref f)) (hk : PySem.W.keepIn X.K (.ref f) = true) (hb : Binds X.K fd ps ds) (hd : Vals dvs ds) (hx : Passes CX X E)
    (hdb : (x == ("__debug__" : Str)) = false := by decide) : PE X (.Call (.Name x p) [] [] pos) (tCall sp dvs E tNil) := by
  intro pins s σ H Q I h
  refine wpAny_Call_Name_kw (ld_glob I hg hm ?_ hdb)
  exact PySem.W.callWith_K0 I.kIn hk (run_fn (us := []) F hr hb hd hx I .nil h)



end

/-! ### keywords -/
section
variable {X : Cx} {CX : CXT} {k : Nat} {f C : Addr} {fd : FuncData} {ps ks : List Str} {sp : Sp} {E : XK} {x m : Str} {p pos apos kpos : Pos} {e o : Expr} {es : List Expr} {kws : List Keyword} {te ta : TE} {t tk : TA} {nm : Option Str}

variable {g : List Value → List Value → List Value} {gV : List V → List V → List V}
end

/-! ### a def's body keeps its promise -/
/-- names: the parameters first -/
structure FnScope (N P : List Str) (sc : Scope) : Prop where
  kind : sc.kind = .function
  co : sc.isCoroutine = false
  gen : sc.isGenerator = false
  nd : N.Nodup
  pre : N.take P.length = P
  par : ∀ x ∈ P, sc.names.lookup x = some .local ∨ sc.names.lookup x = some .cell
  nofree : ∀ y ∈ sc.names, y.2 ≠ .free

theorem bindL_out {kindOf : Str → Option NameKind} {x : Str} : ∀ {binds : List (Str × Value)} {m : Str → Option Value}, (∀ v, (x, v) ∉ binds) → bindL kindOf binds m x = m x
  | [], _, _ => rfl
  | (n, v) :: r, m, h => by
    unfold bindL
    rw [bindL_out fun w hw => h w (List.mem_cons_of_mem _ hw)]
    split
    · have : x ≠ n := by rintro rfl; exact h v List.mem_cons_self
      simp [this]
    · rfl
theorem bindC_out {kindOf : Str → Option NameKind} {x : Str} : ∀ {binds : List (Str × Value)} {m : Str → Option Value}, (∀ v, (x, v) ∉ binds) → bindC kindOf binds m x = m x
  | [], _, _ => rfl
  | (n, v) :: r, m, h => by
    unfold bindC
    rw [bindC_out fun w hw => h w (List.mem_cons_of_mem _ hw)]
    split
    · rfl
    · have : x ≠ n := by rintro rfl; exact h v List.mem_cons_self
      simp [this]
theorem bindL_get {kindOf : Str → Option NameKind} {x : Str} {v : Value} : ∀ {P : List Str} {vs : List Value} {i : Nat} {m : Str → Option Value}, P.Nodup → P[i]? = some x → vs[i]? = some v → kindOf x = some .local →
    bindL kindOf (P.zip vs) m x = some v
  | [], _, _, _, _, h, _, _ => by simp at h
  | _ :: _, [], _, _, _, _, h, _ => by simp at h
  | p :: P, w :: vs, 0, m, nd, h1, h2, hk => by
    simp at h1 h2; subst h1; subst h2
    show bindL kindOf ((p, w) :: P.zip vs) m p = _
    unfold bindL
    rw [bindL_out fun v hv => (List.nodup_cons.mp nd).1 (List.of_mem_zip hv).1, if_pos hk]
    simp
  | p :: P, w :: vs, i + 1, m, nd, h1, h2, hk => by
    show bindL kindOf ((p, w) :: P.zip vs) m x = _
    unfold bindL
    exact bindL_get (i := i) (List.nodup_cons.mp nd).2 (by simpa using h1) (by simpa using h2) hk
theorem bindC_get {kindOf : Str → Option NameKind} {x : Str} {v : Value} : ∀ {P : List Str} {vs : List Value} {i : Nat} {m : Str → Option Value}, P.Nodup → P[i]? = some x → vs[i]? = some v → kindOf x ≠ some .local →
    bindC kindOf (P.zip vs) m x = some v
  | [], _, _, _, _, h, _, _ => by simp at h
  | _ :: _, [], _, _, _, _, h, _ => by simp at h
  | p :: P, w :: vs, 0, m, nd, h1, h2, hk => by
    simp at h1 h2; subst h1; subst h2
    show bindC kindOf ((p, w) :: P.zip vs) m p = _
    unfold bindC
    rw [bindC_out fun v hv => (List.nodup_cons.mp nd).1 (List.of_mem_zip hv).1, if_neg hk]
    simp
  | p :: P, w :: vs, i + 1, m, nd, h1, h2, hk => by
    show bindC kindOf ((p, w) :: P.zip vs) m x = _
    unfold bindC
    exact bindC_get (i := i) (List.nodup_cons.mp nd).2 (by simpa using h1) (by simpa using h2) hk

/-- the names' values at the entry -/
def start (N : List Str) (vs : List V) : St := vs.map some ++ List.replicate (N.length - vs.length) none

/-- the context of a def's body, at its entry; an exception leaves the frame, then lies as CX says -/
def cxOf (CX : CXT) (P : Program) (w : World) (K : PySem.W.Frag) (mg : Str → Option Value) (base : Heap) (N : List Str) (qual : Str) (scope : Scope) (f : Addr) (cd : Value) (A : Around) (outer : List Env) (s : Shared) (H : Hp) (E : XK) : Cx where
  prog := P
  w := w
  K := K
  mg := mg
  base := base
  A := A.deeper (envOfC qual scope s.heap.objs.size f cd)
  N := N
  s₀ := s
  H₀ := H
  env := envOfC qual scope s.heap.objs.size f cd
  outer := outer
  stack := envOfC qual scope s.heap.objs.size f cd :: outer
  ex := []
  calm := true
  fn := fun _ => true
  pn := []
  xe := fun e s' => wpAny (model P w) (A.deeper (envOfC qual scope s.heap.objs.size f cd)) (leaving (envOfC qual scope s.heap.objs.size f cd) e) (fun _ s'' => CX outer H s E e s'') (fun e' s'' => CX outer H s E e' s'') s'

theorem cell_has {sc : Scope} {n : Nat} {x : Str} (h : sc.names.lookup x = some .cell) : ∃ c, (cellsFrom n sc.names []).lookup x = some c := by
  have q := PySem.W.cellsFrom_some sc.names n [] (.inl h)
  exact Option.isSome_iff_exists.mp q

theorem inv_start {CX : CXT} {P : Program} {w : World} {K : PySem.W.Frag} {mg : Str → Option Value} {base : Heap} {N ps : List Str} {qual : Str} {scope : Scope} {f : Addr} {cd : Value} {A : Around} {outer : List Env} {s s1 : Shared} {H : Hp} {E : XK} {us : List Value} {vs : List V}
    (S : FnScope N ps scope) (hd : A.handled = none) (e0 : Env0 P w K mg base A outer s H) (hl : vs.length = ps.length) (r : Vals vs us)
    (x : InCallC s s.heap.objs.size (bindL (envOfC qual scope s.heap.objs.size f cd).kindOf (ps.zip us) fun _ => none) (cellsFrom (s.heap.objs.size + 1) scope.names []) (bindC (envOfC qual scope s.heap.objs.size f cd).kindOf (ps.zip us) fun _ => none) s1) :
    Inv (cxOf CX P w K mg base N qual scope f cd A outer s H E) [] (start N vs) H s1 := by
  have hpl : ps.length ≤ N.length := by have := congrArg List.length S.pre; rw [List.length_take] at this; omega
  obtain ⟨h1, tk, rfl, hk⟩ := x.done
  have noA : ∀ b : Addr, b ∉ (cxOf CX P w K mg base N qual scope f cd A outer s H E).ex := fun b z => absurd (show b ∈ ([] : List Addr) from z) (by simp)
  refine ⟨⟨e0.mod, S.kind, rfl, rfl, Nat.le_refl _, fun y z c h1 h2 => ?_, fun y hy => ?_, fun y c _ h => ?_, fun _ => hd, Around.frames_deeper e0.frames, .inr ⟨rfl, rfl⟩, fun b z => absurd z (noA b), e0.bs, e0.bsz, fun b _ _ => noA b, fun b z => absurd z (noA b), e0.funs, e0.frf⟩,
    rfl, e0.bare, Un.kept hk, ⟨_, x.toInCall.ns, fun i y v h1 h2 h3 => ?_⟩, fun y c h => ⟨_, x.cell y c h⟩, e0.hok.fresh (Nat.le_refl _), fun y c h => ?_, fun p hp => absurd (show p ∈ ([] : List (Addr × Obj)) from hp) (by simp), e0.hok.kept hk, ?_⟩
  · exact name_of_addr x.apart (PySem.mem_of_lookup h1) (PySem.mem_of_lookup h2)
  · have hy : scope.names.lookup y = some .cell ∨ scope.names.lookup y = some .free := hy
    rcases hy with hy | hy
    · exact cell_has hy
    · exact absurd rfl (S.nofree _ (PySem.mem_of_lookup hy))
  · exact Nat.le_of_lt (x.above y c (PySem.mem_of_lookup h))
  · have hi : i < vs.length := by
      unfold start at h2
      by_cases hi : i < vs.length
      · exact hi
      · rw [List.getElem?_append_right (by simpa using hi)] at h2
        rw [List.getElem?_replicate] at h2
        split at h2 <;> cases h2
    have ha : vs[i]? = some v := by
      unfold start at h2
      rw [List.getElem?_append_left (by simpa using hi), List.getElem?_map] at h2
      cases e : vs[i]? with
      | none => rw [e] at h2; cases h2
      | some a => rw [e] at h2; cases h2; rfl
    obtain ⟨u, hu, rv⟩ := r.get ha
    have hp : ps[i]? = some y := by
      rw [← S.pre, List.getElem?_take_of_lt (by omega)]; exact h1
    have ndP : ps.Nodup := by rw [← S.pre]; exact S.nd.sublist (List.take_sublist _ _)
    refine ⟨u, rv, ?_⟩
    rcases S.par y (List.mem_of_getElem? hp) with k | k
    · exact .inl ⟨k, bindL_get ndP hp hu k⟩
    · obtain ⟨c, e⟩ := cell_has (n := s.heap.objs.size + 1) k
      refine .inr ⟨.inl k, c, e, ?_⟩
      have q := x.cell y c e
      rw [bindC_get ndP hp hu (by show scope.names.lookup y ≠ _; rw [k]; decide)] at q
      exact q
  · exact e0.hok.fresh (Nat.le_of_lt (x.above y c (PySem.mem_of_lookup h)))
  · unfold start
    show _ = N.length
    rw [List.length_append, List.length_map, List.length_replicate]
    omega

/-- THE RULE: a def (or a method) of the text, by its body. The body's reading t is chosen for each entry; it is run at the parameters' values -/
theorem fn_of {CX : CXT} {P : Program} {w : World} {K : PySem.W.Frag} {mg : Str → Option Value} {base : Heap} {k : Nat} {f : Addr} {name qual : Str} {params : Arguments} {body : List Stmt} {scope : Scope} {dV kV doc pm cdv ct oc : Value} {an od : Option Addr}
    {osl : Array (Option Value)} {N ps : List Str} {sp : Sp} (lk : K.lookup f = some ⟨oc, od, .func (PySem.W.fnOf name qual params body scope dV kV doc pm an cdv ct), osl⟩) (hcd : PySem.W.codeIn K cdv qual = true) (S : FnScope N ps scope)
    (len : ∀ vs H Q E, sp vs H Q E → vs.length = ps.length)
    (hbody : ∀ (A : Around) (outer : List Env) (s : Shared) (H : Hp) (vs : List V) (Q : VK) (E : XK), Room k (A.deeper (envOfC qual scope s.heap.objs.size f cdv)) → sp vs H Q E →
      ∃ t, PSs (cxOf CX P w K mg base N qual scope f cdv A outer s H E) body t ∧ t { nx := fun _ H' => Q .non H', rt := Q } (start N vs) H) :
    FnOk P w K mg base CX (k + 1) f (PySem.W.fnOf name qual params body scope dV kV doc pm an cdv ct) ps sp := by
  refine ⟨len, fun A outer s H args us vs Q E hr e0 hb r hsp => ?_⟩
  have hl := len _ _ _ _ hsp
  have KX : K.In s.heap := e0.mod.kin.keeps fun b o e => (e0.bs b o e).1
  have lim : s.heap.NoLimit := e0.mod.nolimit.keeps fun b o e => (e0.bs b o e).1
  have hkind : ∀ y ∈ ps.zip us, scope.names.lookup y.1 = some .local ∨ (scope.names.lookup y.1 = some .cell ∧ ((cellsFrom (s.heap.objs.size + 1) scope.names []).lookup y.1).isSome = true) := fun ⟨n, v⟩ hy => by
    rcases S.par n (List.of_mem_zip hy).1 with q | q
    · exact .inl q
    · exact .inr ⟨q, PySem.W.cellsFrom_some _ _ _ (.inl q)⟩
  refine codeAny_call_function hr.depth (KX _ _ lk) rfl S.co S.gen rfl (PySem.W.codeRec_of KX hcd) (hb _ _ _ _ ?_)
  refine wpAny_newFunctionEnv_cells S.kind hkind fun env he s1 x => ?_
  subst he
  refine ⟨lim.keeps x.toInCall.keep, codeAny_func ?_⟩
  obtain ⟨t, ht, hq⟩ := hbody A outer s H vs Q E (hr.deeper _) hsp
  have I : Inv (cxOf CX P w K mg base N qual scope f cdv A outer s H E) [] (start N vs) H s1 := inv_start S hr.hd e0 hl r x
  refine wpAny_mono (ht [] s1 (start N vs) H _ I hq) (fun fl s' hs => ?_) fun e s' hs => hs
  have fin : ∀ {σ' : St} {H' : Hp} {v : V} {u : Value}, Inv (cxOf CX P w K mg base N qual scope f cdv A outer s H E) [] σ' H' s' → RelV v u → Q v H' → CE outer P w H s Q u s' :=
    fun {σ' H' v u} J rv q => ⟨v, H', J.os, J.bare, J.base, J.hok, rv, q⟩
  cases fl with
  | ret u =>
    obtain ⟨v, σ', H', J, rv, q⟩ := hs
    exact fin J rv q
  | next =>
    obtain ⟨σ', H', J, q⟩ := hs
    exact fin (v := V.non) (u := Value.none) J rfl q
  | brk =>
    obtain ⟨_, _, _, q⟩ := hs
    exact False.elim q
  | cont =>
    obtain ⟨_, _, _, q⟩ := hs
    exact False.elim q
end L2

namespace L2
open PySem PySem.Spec PyProof.Rows
section
variable {X : Cx} {x : Str} {p pos : Pos} {e : Expr} {es : List Expr} {t : TA} {id T : String} {r : List V → Hp → VK → Prop}

def tCB (r : List V → Hp → VK → Prop) (t : TA) : TE := fun σ H Q => t σ H fun vs H1 => r vs H1 Q
/-- f(e, ..), f a built-in function -/
theorem pe_callB (hc : CallR X (.builtin id) r) (hg : Gl X x) (hm : X.mg x = none) (hv : bootBuiltins x = some (.builtin id)) (ha : PA X (e :: es) t) (hn : x ≠ "__name__" := by decide) (hdb : (x == ("__debug__" : Str)) = false := by decide)
    (he : starEach (e :: es) X.env = (false, eval e X.env) :: starEach es X.env := by rfl) (hpl : (backTo pos (starEach es X.env)).any (·.1) = false := by rfl) : PE X (.Call (.Name x p) (e :: es) [] pos) (tCB r t) := by
  intro pins s σ H Q I h
  refine wpAny_Call_Name_kw (ld_blt I hg hm hv ?_ hn hdb)
  exact PyProof.Rows.callWith_builtin1 (thn (ha pos pins s σ H _ I h) fun us s1 ⟨vs, H1, I1, r1, q1⟩ => hc pins s1 σ H1 vs us Q I1 r1 q1) he hpl
/-- T(e, ..), T a built-in type -/
theorem pe_callTy (hc : CallR X (.type T) r) (hg : Gl X x) (hm : X.mg x = none) (hv : bootBuiltins x = some (.type T)) (ha : PA X (e :: es) t) (hn : x ≠ "__name__" := by decide) (hdb : (x == ("__debug__" : Str)) = false := by decide)
    (he : starEach (e :: es) X.env = (false, eval e X.env) :: starEach es X.env := by rfl) (hpl : (backTo pos (starEach es X.env)).any (·.1) = false := by rfl) : PE X (.Call (.Name x p) (e :: es) [] pos) (tCB r t) := by
  intro pins s σ H Q I h
  refine wpAny_Call_Name_kw (ld_blt I hg hm hv ?_ hn hdb)
  exact PyProof.Rows.callWith_type1 (thn (ha pos pins s σ H _ I h) fun us s1 ⟨vs, H1, I1, r1, q1⟩ => hc pins s1 σ H1 vs us Q I1 r1 q1) he hpl
end
end L2

namespace HT
open PySem PyProof.Rows



section
open PySem.SeqAt
open PySem.AutoSeq1 (wpAny_loadPart')
open PySem.MeetsSeq PySem.MeetsSeq2 PySem.MeetsSeq3

end

section
variable {prog : Program} {w : World} {A : Around} {E : Value → Shared → Prop} {s : Shared}



/-! ### t[a:b], not the whole -/
/-- a slice's bound as a place among n (d where it is left out) -/
def sIx (n d : Nat) : Option Int → Nat
  | none => d
  | some v => if v < 0 then (v + (n : Int)).toNat else min v.toNat n
theorem sIx_none (n d : Nat) : sIx n d none = d := rfl
theorem sIx_nat (n d k : Nat) : sIx n d (some (k : Int)) = min k n := by
  show (if (k : Int) < 0 then ((k : Int) + (n : Int)).toNat else min (k : Int).toNat n) = min k n
  rw [if_neg (by omega), Int.toNat_natCast]

end
end HT

namespace L2
open PySem PySem.Spec PyProof.Rows

/-! ### the parts of a slice -/
abbrev TO := St → Hp → (Option Int → Hp → Prop) → Prop
/-- a slice's part (left out, or an int) -/
def PO (X : Cx) (e : Option Expr) (t : TO) : Prop :=
  ∀ (pins : List (Addr × Obj)) (s : Shared) (σ : St) (H : Hp) (Q : Option Int → Hp → Prop), Inv X pins σ H s → t σ H Q →
    wpAny (model X.prog X.w) X.A (evalPart e X.env) (fun u s' => ∃ o H', Inv X pins σ H' s' ∧ IsPart u o ∧ Q o H') X.xe s
def tNoPart : TO := fun _ H Q => Q none H
def tPart (t : TE) : TO := fun σ H Q => t σ H fun x H1 => ∃ i, x = .int i ∧ Q (some i) H1


section
variable {X : Cx} {e : Expr} {te : TE} {lo hi : Option Expr} {tl th : TO} {pos p2 : Pos}

theorem po_none : PO X none tNoPart := by
  intro pins s σ H Q I h
  rw [evalPart_none]
  exact wpAny_pure ⟨none, H, I, .none, h⟩
theorem po_some (h : PE X e te) : PO X (some e) (tPart te) := by
  intro pins s σ H Q I hw
  rw [evalPart_some]
  refine thn (h pins s σ H _ I hw) fun u s1 ⟨x, H1, I1, r1, q1⟩ => ?_
  obtain ⟨i, rfl, q⟩ := q1
  obtain ⟨t, rfl⟩ := r1
  exact ⟨some i, H1, I1, .int i t, q⟩

/-- what a slice of a value is, by values: the slice object stands at sl -/
def SlR (X : Cx) (r : V → Option Int → Option Int → Hp → VK → Prop) : Prop :=
  ∀ (pins : List (Addr × Obj)) (s : Shared) (σ : St) (H : Hp) (x : V) (v vl vu : Value) (lo hi : Option Int) (sl : Addr) (Q : VK), Inv X pins σ H s → RelV x v → s.heap.IsSliceOf sl vl vu .none → IsPart vl lo → IsPart vu hi → r x lo hi H Q →
    ∃ T id, typeLookup (.type T) "__getitem__" = pure (some (.builtin id)) ∧ s.TypeIs v T ∧ wpAny (model X.prog X.w) X.A (getItem v (.ref sl)) (EP X pins σ Q) X.xe s
def tSl (r : V → Option Int → Option Int → Hp → VK → Prop) (te : TE) (tl th : TO) : TE := fun σ H Q => te σ H fun x H1 => tl σ H1 fun l H2 => th σ H2 fun u H3 => r x l u H3 Q
/-- a[lo:hi], any a -/
theorem pe_slice {r : V → Option Int → Option Int → Hp → VK → Prop} (hr : SlR X r) (he : PE X e te) (hl : PO X lo tl) (hu : PO X hi th) : PE X (.Subscript e (.Slice lo hi none p2) pos) (tSl r te tl th) := by
  intro pins s σ H Q I h
  refine Subscript_ (thn (he pins s σ H _ I h) fun v s1 ⟨x, H1, I1, r1, q1⟩ => ?_)
  refine wpAny_Slice (thn (hl pins s1 σ H1 _ I1 q1) fun vl s2 ⟨l, H2, I2, pl, q2⟩ => thn (hu pins s2 σ H2 _ I2 q2) fun vu s3 ⟨u, H3, I3, pu, q3⟩ => ?_)
  rw [evalPart_none]
  refine wpAny_pure ?_
  have I4 : Inv X pins σ H3 { s3 with heap := s3.heap.push { cls := .type "slice", data := .fields #[vl, vu, .none] } } := I3.kept (t' := s3.toks) fun b ob q => Heap.get?_push_of_some _ q
  obtain ⟨T, id, hT, ht, hg⟩ := hr pins { s3 with heap := s3.heap.push { cls := .type "slice", data := .fields #[vl, vu, .none] } } σ H3 x v vl vu l u s3.heap.objs.size Q I4 r1 (Heap.IsSliceOf.new ..) pl pu q3
  show wpAny (model X.prog X.w) X.A (subscriptTail e (.Slice lo hi none p2) v (.ref s3.heap.objs.size)) (EP X pins σ Q) X.xe { s3 with heap := s3.heap.push { cls := .type "slice", data := .fields #[vl, vu, .none] } }
  exact tail_any (ops := [.ref s3.heap.objs.size, v]) ht hT hg (by with_unfolding_all rfl)

/-- the items of xs[lo:hi] -/
def cutV (xs : List V) (lo hi : Option Int) : List V := (xs.drop (HT.sIx xs.length 0 lo)).take (HT.sIx xs.length xs.length hi - HT.sIx xs.length 0 lo)
theorem cutV_length (xs : List V) (lo hi : Option Int) : (cutV xs lo hi).length ≤ xs.length := by
  unfold cutV
  rw [List.length_take, List.length_drop]
  omega

/-! ### t < u, t + u -/
end
end L2

namespace L2
open PySem PySem.Spec PyProof.Rows

/-! ### places -/
/-- the place that an index of any sign means -/
def ixN (n : Nat) (i : Int) : Option Nat := if 0 ≤ i then (if i < n then some i.toNat else none) else if -(n : Int) ≤ i then some (i + n).toNat else none
def atI {α : Type} (xs : List α) (i : Int) : Option α := (ixN xs.length i).bind fun j => xs[j]?
theorem ixN_seq {n : Nat} {i : Int} {j : Nat} (h : ixN n i = some j) : seqIndex? i n = some j ∧ j < n ∧ -(n : Int) ≤ i ∧ i < n := by
  unfold ixN at h
  by_cases h0 : 0 ≤ i
  · rw [if_pos h0] at h
    by_cases h1 : i < n
    · rw [if_pos h1] at h
      have e : i.toNat = j := Option.some.inj h
      exact ⟨by rw [seqIndex_of h0 h1, e], by omega, by omega, h1⟩
    · rw [if_neg h1] at h; cases h
  · rw [if_neg h0] at h
    by_cases h1 : -(n : Int) ≤ i
    · rw [if_pos h1] at h
      have e : (i + n).toNat = j := Option.some.inj h
      exact ⟨by rw [seqIndex_neg (by omega) h1, e], by omega, h1, by omega⟩
    · rw [if_neg h1] at h; cases h
theorem atI_get {α : Type} {xs : List α} {i : Int} {v : α} (h : atI xs i = some v) : ∃ j, seqIndex? i xs.length = some j ∧ xs[j]? = some v ∧ j < xs.length ∧ -(xs.length : Int) ≤ i ∧ i < xs.length := by
  unfold atI at h
  cases e : ixN xs.length i with
  | none => rw [e] at h; cases h
  | some j =>
    rw [e] at h
    obtain ⟨h1, h2, h3, h4⟩ := ixN_seq e
    exact ⟨j, h1, h, h2, h3, h4⟩
theorem atI_nat {α : Type} {xs : List α} {j : Nat} {v : α} (h : xs[j]? = some v) : atI xs (j : Int) = some v := by
  have hj : j < xs.length := (List.getElem?_eq_some_iff.mp h).1
  have e : ixN xs.length (j : Int) = some j := by
    unfold ixN
    rw [if_pos (by omega), if_pos (by omega)]; simp
  unfold atI; rw [e]; exact h

/-! ### what may be subscripted -/
/-- what stands as an index of a plain subscript -/
def PlainIx (b : Expr) : Prop := ∀ o i, subscripted b false o i = operate [o, i] (getItem o i)
/-- a subscript by values -/
def IxR (X : Cx) (r : R2) : Prop :=
  ∀ (value slice : Expr) (pins : List (Addr × Obj)) (s : Shared) (σ : St) (H : Hp) (x y : V) (v u : Value) (Q : VK), Inv X pins σ H s → RelV x v → RelV y u → r x y H Q →
    subscripted slice false v u = operate [v, u] (getItem v u) → wpAny (model X.prog X.w) X.A (subscriptTail value slice v u) (EP X pins σ Q) X.xe s
/-- a call of a builtin's method by values: the receiver, the arguments -/
def MtR (X : Cx) (id : String) (r : V → List V → Hp → VK → Prop) : Prop :=
  ∀ (pins : List (Addr × Obj)) (s : Shared) (σ : St) (H : Hp) (x : V) (xs : List V) (v : Value) (us : List Value) (Q : VK), Inv X pins σ H s → RelV x v → Vals xs us → r x xs H Q →
    wpAny (model X.prog X.w) X.A (call (.builtin id) (v :: us)) (EP X pins σ Q) X.xe s
section
variable {X : Cx} {a b : Expr} {ta tb : TE} {pos : Pos}
/-- a[b] -/
theorem pe_ix {r : R2} (hr : IxR X r) (ha : PE X a ta) (hb : PE X b tb) (hs : PlainIx b) : PE X (.Subscript a b pos) (tOp r ta tb) := by
  intro pins s σ H Q I h
  exact Subscript_ (binT ha hb I h fun v u s2 x y H2 I2 rx ry q => hr a b pins s2 σ H2 x y v u Q I2 rx ry q (hs _ _))

def rIxL (K : PySem.W.Frag) : R2 := fun x y H Q => ∃ p xs i v, x = .ref p ∧ y = .int i ∧ SqL K H p xs ∧ atI xs i = some v ∧ Q v H
def rIxT (K : PySem.W.Frag) : R2 := fun x y H Q => ∃ p xs i v, x = .ref p ∧ y = .int i ∧ SqT K H p xs ∧ atI xs i = some v ∧ Q v H
theorem ix_list : IxR X (rIxL X.K) := by
  intro value slice pins s σ H x y v u Q I rx ry h hs
  obtain ⟨p, xs, i, z, rfl, rfl, hq, he, q⟩ := h
  cases rx
  obtain ⟨t, rfl⟩ := ry
  obtain ⟨its, r, pl, hz⟩ := I.list hq
  obtain ⟨j, h1, h2, h3, h4, h5⟩ := atI_get he
  obtain ⟨w, ew, rw'⟩ := r.get h2
  have hl := r.length
  have hn := line63
  have fin : EP X pins σ Q w s := ⟨z, H, I, rw', q⟩
  by_cases h0 : 0 ≤ i
  · have hj : i.toNat = j := by
      rw [seqIndex_of h0 h5] at h1
      exact Option.some.inj h1
    exact item_listR pl.isList h0 (by omega) (by rw [hj]; simpa using ew) fin hs
  · have hj : (i + (its.toArray.size : Int)).toNat = j := by
      rw [seqIndex_neg (by omega) h4] at h1
      rw [List.size_toArray, ← hl]
      exact Option.some.inj h1
    exact subscriptTail_builtinR (x := w) pl.isList.typeIs slot_list_getitem.lookup
      (wpAny_getItem_list_neg (Q := fun r s' => r = w ∧ EP X pins σ Q r s') pl.isList (by omega) (by rw [List.size_toArray] <;> omega) (by omega) (by rw [hj]; simpa using ew) ⟨rfl, fin⟩) hs
theorem ix_tup : IxR X (rIxT X.K) := by
  intro value slice pins s σ H x y v u Q I rx ry h hs
  obtain ⟨p, xs, i, z, rfl, rfl, hq, he, q⟩ := h
  cases rx
  obtain ⟨t, rfl⟩ := ry
  obtain ⟨its, r, pl, hz⟩ := I.tuple hq
  obtain ⟨j, h1, h2, h3, h4, h5⟩ := atI_get he
  obtain ⟨w, ew, rw'⟩ := r.get h2
  have hl := r.length
  have hn := line63
  have fin : EP X pins σ Q w s := ⟨z, H, I, rw', q⟩
  exact subscriptTail_builtinR (x := w) pl.typeIs slot_tuple_getitem.lookup
    (getItem_tuple (j := j) (Q := fun r s' => r = w ∧ EP X pins σ Q r s') pl (by omega) (by omega) (by rw [List.size_toArray, ← hl]; exact h1) (by simpa using ew) ⟨rfl, fin⟩) hs

/-! ### xs[i] = v, any sign -/
/-- the list's object behind a store -/
theorem mapSeq_set (its : List Value) (n j : Nat) (u : Value) : Obj.mapSeq (·.setIfInBounds j u) { cls := .type "list", data := .seq its.toArray n } = { cls := .type "list", data := .seq (its.set j u).toArray n } := by
  simp [Obj.mapSeq]
theorem Inv.lst {pins : List (Addr × Obj)} {σ : St} {H : Hp} {s : Shared} {p : Addr} {xs : List V} (I : Inv X pins σ H s) (h : H p = some (.lst xs)) :
    ∃ (its : List Value) (n : Nat), Vals xs its ∧ s.heap.get? p = some { cls := .type "list", data := .seq its.toArray n } ∧ xs.length ≤ sizeLine := by
  obtain ⟨z, its, n, r, e⟩ := I.hok p _ h
  exact ⟨its, n, r, e, z⟩
/-- the list at p is written by an update of its object -/
theorem Inv.lstUpd {pins : List (Addr × Obj)} {σ : St} {H : Hp} {s : Shared} {p : Addr} {xs ys : List V} {its its' : List Value} {n n' : Nat} {f : Obj → Obj} (I : Inv X pins σ H s) (h : H p = some (.lst xs))
    (ho : s.heap.get? p = some { cls := .type "list", data := .seq its.toArray n }) (hf : f { cls := .type "list", data := .seq its.toArray n } = { cls := .type "list", data := .seq its'.toArray n' }) (r : Vals ys its') (hz : ys.length ≤ sizeLine) (t : Nat) :
    Inv X pins σ (upd H p (.lst ys)) { s with heap := s.heap.update p f, toks := t } := by
  have e : (s.heap.update p f).get? p = some { cls := .type "list", data := .seq its'.toArray n' } := by
    rw [Heap.get?_update_self f ho (by rw [hf] <;> rfl), hf]
  refine I.write (x := p) (e := p) (by rw [h]; trivial) (.inl rfl) (fun b u hb q => (Heap.get?_update_other _ _ (Ne.symm hb)).trans q) ⟨_, e⟩ ?_
  exact ⟨hz, its', n', r, e⟩
def rSetL : V → V → V → Hp → (Hp → Prop) → Prop := fun o i v H Q => ∃ p xs k j, o = .ref p ∧ i = .int k ∧ H p = some (.lst xs) ∧ ixN xs.length k = some j ∧ Q (upd H p (.lst (xs.set j v)))
theorem set_list : PSet X rSetL := by
  intro pins s σ H o i v ov iv u Q I ro ri rv h
  obtain ⟨p, xs, k, j, rfl, rfl, hp, hj, q⟩ := h
  cases ro
  obtain ⟨t, rfl⟩ := ri
  obtain ⟨its, n, r, ho, hz⟩ := I.lst hp
  obtain ⟨h1, h2, h3, h4⟩ := ixN_seq hj
  have hl := r.length
  have hn := line63
  have I' : Inv X pins σ (upd H p (.lst (xs.set j v))) { s with heap := s.heap.update p (Obj.mapSeq (·.setIfInBounds j u)) } :=
    I.lstUpd hp ho (mapSeq_set its n j u) (r.set rv j) (by rw [List.length_set]; exact hz) s.toks
  by_cases h0 : 0 ≤ k
  · have hk : k.toNat = j := by
      rw [seqIndex_of h0 h4] at h1
      exact Option.some.inj h1
    exact PySem.W.ki_setAt ho h0 (by omega) (by rw [List.size_toArray, ← hl]; exact h4) (by rw [hk]; exact ⟨_, I', q⟩)
  · have hk : (k + (its.toArray.size : Int)).toNat = j := by
      rw [seqIndex_neg (by omega) h3] at h1
      rw [List.size_toArray, ← hl]
      exact Option.some.inj h1
    exact PySem.W.ki_setBack ho (by omega) (by rw [List.size_toArray, ← hl]; exact h3) (by omega) (by rw [hk]; exact ⟨_, I', q⟩)

/-! ### slices -/
theorem slice_bounds (lo hi : Option Int) (n : Nat) : (sliceBounds lo hi none n).1 = ((HT.sIx n 0 lo : Nat) : Int) ∧ (sliceBounds lo hi none n).2.1 = ((HT.sIx n n hi : Nat) : Int) ∧ (sliceBounds lo hi none n).2.2 = 1 := by
  refine ⟨?_, ?_, rfl⟩
  · cases lo with
    | none => simp [sliceBounds, HT.sIx]
    | some i =>
      simp only [sliceBounds, HT.sIx, Option.getD_none, show (1 : Int) > 0 by decide, if_true]
      by_cases h : i < 0
      · simp only [h, if_true] <;> omega
      · simp only [h, if_false] <;> omega
  · cases hi with
    | none => simp [sliceBounds, HT.sIx]
    | some i =>
      simp only [sliceBounds, HT.sIx, Option.getD_none, show (1 : Int) > 0 by decide, if_true]
      by_cases h : i < 0
      · simp only [h, if_true] <;> omega
      · simp only [h, if_false] <;> omega
theorem slicePick_cut (its : List Value) (lo hi : Option Int) : slicePick its.toArray lo hi none = ((its.drop (HT.sIx its.length 0 lo)).take (HT.sIx its.length its.length hi - HT.sIx its.length 0 lo)).toArray := by
  obtain ⟨h1, h2, h3⟩ := slice_bounds lo hi its.toArray.size
  unfold slicePick
  rw [h1, h2, h3]
  simp only [sliceRange_one, pick_run, List.size_toArray] <;> rfl
/-- xs[lo:hi] of a list: a new list -/
def rSlL (K : PySem.W.Frag) : V → Option Int → Option Int → Hp → VK → Prop := fun x lo hi H Q => ∃ a xs, x = .ref a ∧ SqL K H a xs ∧ ∀ p, H p = none → Q (.ref p) (upd H p (.lst (cutV xs lo hi)))
theorem sl_list : SlR X (rSlL X.K) := by
  intro pins s σ H x v vl vu lo hi sl Q I rx hs pl pu h
  obtain ⟨a, xs, rfl, hx, q⟩ := h
  cases rx
  obtain ⟨its, r, ht, hz⟩ := I.list hx
  have hlen := r.length
  refine ⟨"list", _, slot_list_getitem.lookup, ht.isList.typeIs, ?_⟩
  refine wpAny_getItem_list_slice ht.isList hs pl pu .none (by simp) ?_ (by rw [List.size_toArray] <;> omega)
  rw [slicePick_cut, ← hlen]
  refine ⟨.ref s.heap.objs.size, _, I.laid (t' := s.toks) (o := .lst (cutV xs lo hi)) (fun b ob q => Heap.get?_push_of_some _ q) (Nat.le_refl _) ?_, rfl, q _ (I.hok.fresh (Nat.le_refl _))⟩
  exact ⟨Nat.le_trans (cutV_length xs lo hi) hz, _, 0, (r.drop (HT.sIx xs.length 0 lo)).take (HT.sIx xs.length xs.length hi - HT.sIx xs.length 0 lo), Heap.get?_push_size _ rfl⟩

/-! ### in, not in: flat items -/

/-! ### len, list(x), tuple(x) of any list or tuple that is read -/
theorem call_len_seq : CallR X (.builtin "len") (fun xs H Q => ∃ p ys, xs = [.ref p] ∧ (SqL X.K H p ys ∨ SqT X.K H p ys) ∧ Q (.int ys.length) H) := by
  intro pins s σ H xs us Q I r h
  obtain ⟨p, ys, rfl, hq, q⟩ := h
  obtain ⟨u, rfl, rx⟩ := vals1 r
  cases rx
  have hn := line63
  rcases hq with hq | hq
  · obtain ⟨its, r', pl, hz⟩ := I.list hq
    have hlen := r'.length
    exact Calls.call_len_list pl.isList (by simp only [List.size_toArray] <;> omega) ⟨.int ys.length, H, I.tok _, ⟨s.toks + 1, by rw [List.size_toArray, hlen]⟩, q⟩
  · obtain ⟨its, r', pl, hz⟩ := I.tuple hq
    have hlen := r'.length
    exact len_tuple pl (by simp only [List.size_toArray] <;> omega) ⟨.int ys.length, H, I.tok _, ⟨s.toks + 1, by rw [List.size_toArray, hlen]⟩, q⟩
theorem call_list_of : CallR X (.type "list") (fun xs H Q => ∃ p ys, xs = [.ref p] ∧ (SqL X.K H p ys ∨ SqT X.K H p ys) ∧ ∀ l, H l = none → Q (.ref l) (upd H l (.lst ys))) := by
  intro pins s σ H xs us Q I r h
  obtain ⟨p, ys, rfl, hq, q⟩ := h
  obtain ⟨u, rfl, rx⟩ := vals1 r
  cases rx
  have fin : ∀ (its : List Value), Vals ys its → ys.length ≤ sizeLine → ∀ (h' : Heap) (c' : Nat), (∀ b o', s.heap.get? b = some o' → h'.get? b = some o') →
      h'.get? s.heap.objs.size = some { cls := .type "list", dict := none, data := .seq its.toArray c', slots := #[] } → EP X pins σ Q (.ref s.heap.objs.size) { s with heap := h' } := fun its r' hz h' c' kp e =>
    ⟨.ref s.heap.objs.size, _, I.laid (t' := s.toks) kp (Nat.le_refl _) (show ObjOk X.prog X.w _ h' _ (.lst ys) from ⟨hz, its, c', r', e⟩), rfl, q _ (I.hok.fresh (Nat.le_refl _))⟩
  rcases hq with hq | hq
  · obtain ⟨its, r', pl, hz⟩ := I.list hq
    have hlen := r'.length
    obtain ⟨o, ho, hc, n, hd⟩ := pl.isList
    exact call_list_seq p (.inl rfl) ho hc hd (fun h' c' kp e => fin its r' hz h' c' kp e) (by simp only [List.size_toArray] <;> omega)
  · obtain ⟨its, r', pl, hz⟩ := I.tuple hq
    have hlen := r'.length
    obtain ⟨o, ho, hc, n, hd⟩ := pl
    exact call_list_seq p (.inr rfl) ho hc hd (fun h' c' kp e => fin its r' hz h' c' kp e) (by simp only [List.size_toArray] <;> omega)

/-! ### the call of a builtin's method: o.m(..) -/
/-- the value is of that builtin type -/
def tyV (K : PySem.W.Frag) (T : String) (x : V) (H : Hp) : Prop := match x with
  | .str _ => T = "str"
  | .int _ => T = "int"
  | .ref p => (T = "list" ∧ ∃ xs, SqL K H p xs) ∨ (T = "tuple" ∧ ∃ o, K.lookup p = some o ∧ o.cls = .type "tuple" ∧ o.dict = none) ∨
      (T = "dict" ∧ ((∃ kvs, H p = some (.dK kvs)) ∨ ∃ kvs, H p = some (.dT kvs))) ∨ (T = "set" ∧ ∃ S n, H p = some (.set S n))
  | _ => False
theorem tyV_is {pins : List (Addr × Obj)} {σ : St} {H : Hp} {s : Shared} {T : String} {x : V} {v : Value} (I : Inv X pins σ H s) (r : RelV x v) (ty : tyV X.K T x H) :
    s.TypeIs v T ∧ ∀ a, v = .ref a → ∃ ob, s.heap.get? a = some ob ∧ ob.dict = none := by
  cases x with
  | str z =>
    obtain ⟨t, rfl⟩ := r
    cases (show T = "str" from ty)
    exact ⟨typeIs_str s z t, fun _ e => nomatch e⟩
  | int i =>
    obtain ⟨t, rfl⟩ := r
    cases (show T = "int" from ty)
    exact ⟨typeIs_int s i t, fun _ e => nomatch e⟩
  | ref p =>
    cases r
    rcases ty with ⟨rfl, xs, hq⟩ | ⟨rfl, o, hk, hc, hd⟩ | ⟨rfl, hk⟩ | ⟨rfl, S, n, hk⟩
    · obtain ⟨its, _, pl, _⟩ := I.list hq
      refine ⟨pl.isList.typeIs, fun a e => ?_⟩
      cases e
      obtain ⟨o, n, e, c, hd, _⟩ := pl
      exact ⟨o, e, hd⟩
    · refine ⟨⟨o, I.kIn p o hk, hc⟩, fun a e => ?_⟩
      cases e
      exact ⟨o, I.kIn _ o hk, hd⟩
    · have z : ∃ o, s.heap.get? p = some o ∧ o.ExactDict := by
        rcases hk with ⟨kvs, hk⟩ | ⟨kvs, hk⟩
        · obtain ⟨_, _, _, _, o, _, _, e, ex, _⟩ := I.hok p _ hk
          exact ⟨o, e, ex⟩
        · obtain ⟨_, _, _, _, o, _, _, e, ex, _⟩ := I.hok p _ hk
          exact ⟨o, e, ex⟩
      obtain ⟨o, e, ex⟩ := z
      refine ⟨⟨o, e, ex.1⟩, fun a e2 => ?_⟩
      cases e2
      exact ⟨o, e, ex.2.1⟩
    · obtain ⟨o, _, _, _, e, ex, _⟩ := I.hok p _ hk
      refine ⟨⟨o, e, ex.1⟩, fun a e2 => ?_⟩
      cases e2
      exact ⟨o, e, ex.2.1⟩
  | _ => exact False.elim ty
def tBM (K : PySem.W.Frag) (T : String) (r : V → List V → Hp → VK → Prop) (to : TE) (t : TA) : TE := fun σ H Q => to σ H fun x H1 => tyV K T x H1 ∧ t σ H1 fun xs H2 => r x xs H2 Q
variable {o e : Expr} {es : List Expr} {to : TE} {t : TA} {name : Str} {apos cpos : Pos} {T id : String} {r : V → List V → Hp → VK → Prop}
theorem pe_bm (pa : PlainAttrs T) (slot : Slot T name id) (hty : typeOf (.builtin id) = pure (.type "method_descriptor")) (hm : MtR X id r) (ho : PE X o to) (ha : PA X (e :: es) t)
    (hbase : attributeBase o name X.env (eval o X.env) = eval o X.env := by rfl)
    (hfew : ((backTo cpos (starEach (e :: es) X.env)).all (fun x => !x.1) && (backToKw cpos (keywordEach [] X.env)).all (fun x => x.1.isSome)
      && decide ((e :: es).length + ([] : List Keyword).length + (if ([] : List Keyword).isEmpty then 0 else 1) < 30)) = true := by rfl)
    (hline : (apos.endLine == cpos.line) = true := by rfl) (hs : starEach (e :: es) X.env = (false, eval e X.env) :: starEach es X.env := by rfl) (hplain : (backTo cpos (starEach es X.env)).any (·.1) = false := by rfl) :
    PE X (.Call (.Attribute o name apos) (e :: es) [] cpos) (tBM X.K T r to t) := by
  intro pins s σ H Q I h
  refine wpAny_Call_method_late hbase hfew hline rfl (thn (ho pins s σ H _ I h) fun v s1 ⟨x, H1, I1, r1, ty, q1⟩ => ?_)
  obtain ⟨h1, h2⟩ := tyV_is I1 r1 ty
  refine ⟨T, id, pa, slot, hty, h1, h2, ?_⟩
  have hA := ha cpos pins s1 σ H1 _ I1 q1
  rw [hs] at hA ⊢
  refine Calls.callWith_builtin (by show (false || (backTo cpos (starEach es X.env)).any (·.1)) = false; rw [hplain] <;> rfl) (Calls.evalArgs_plain ?_)
  exact thn hA fun us s2 ⟨vs, H2, I2, r2, q2⟩ => hm pins s2 σ H2 x vs v us Q I2 r1 r2 q2
/- xs.append(e), list.index on a module's tuple .. are MtR facts of 06m -/
end
end L2

namespace L2
open PySem PySem.Spec PyProof.Rows

def MtM (X : Cx) (id : String) (r : V → List V → Hp → VK → Prop) : Prop :=
  ∀ (pins : List (Addr × Obj)) (s : Shared) (σ : St) (H : Hp) (x : V) (xs : List V) (v : Value) (us : List Value) (Q : VK), Inv X pins σ H s → RelV x v → Vals xs us → r x xs H Q →
    wpAny (model X.prog X.w) X.A (call (.builtin id) (v :: us)) (EP X pins σ Q) X.xe s

/-! ### lists of values -/
theorem Vals.one : ∀ {x : V} {us : List Value}, Vals [x] us → ∃ u, us = [u] ∧ RelV x u
  | _, _, .cons r .nil => ⟨_, rfl, r⟩
theorem Vals.two : ∀ {x y : V} {us : List Value}, Vals [x, y] us → ∃ u v, us = [u, v] ∧ RelV x u ∧ RelV y v
  | _, _, _, .cons r (.cons q .nil) => ⟨_, _, rfl, r, q⟩
theorem Vals.reverse {xs : List V} {us : List Value} (h : Vals xs us) : Vals xs.reverse us.reverse := by
  induction h with
  | nil => exact .nil
  | cons r t ih => rw [List.reverse_cons, List.reverse_cons]; exact Vals.append ih (.cons r .nil)
theorem Vals.rep {xs : List V} {us : List Value} (h : Vals xs us) : ∀ k : Nat, Vals (List.replicate k xs).flatten (List.replicate k us).flatten
  | 0 => .nil
  | k + 1 => by
    rw [List.replicate_succ, List.replicate_succ, List.flatten_cons, List.flatten_cons]
    exact Vals.append h (Vals.rep h k)
theorem foldl_rep (its : List Value) : ∀ (k : Nat) (acc : List Value),
    List.foldl (fun x1 x2 => x1 ++ x2) acc.toArray (List.replicate k its.toArray) = (acc ++ (List.replicate k its).flatten).toArray
  | 0, acc => by simp
  | k + 1, acc => by
    have e : acc.toArray ++ its.toArray = (acc ++ its).toArray := by simp
    have e2 : (acc ++ its) ++ (List.replicate k its).flatten = acc ++ (List.replicate (k + 1) its).flatten := by
      rw [List.replicate_succ, List.flatten_cons, List.append_assoc]
    rw [← e2, ← foldl_rep its k (acc ++ its), ← e, List.replicate_succ, List.foldl_cons]

section
variable {X : Cx} {pins : List (Addr × Obj)} {σ : St} {H : Hp} {s : Shared} {l b : Addr} {xs ys zs : List V}

/-! ### the two steps: a tracked list is rewritten, a new list is laid -/
theorem Inv.lset {its its' : List Value} {n : Nat} {f : Array Value → Array Value} {t' : Nat} (I : Inv X pins σ H s) (hH : H l = some (.lst xs))
    (e : s.heap.get? l = some { cls := .type "list", data := .seq its.toArray n }) (hf : f its.toArray = its'.toArray) (hv : Vals ys its') (hz : ys.length ≤ sizeLine) :
    Inv X pins σ (upd H l (.lst ys)) { s with heap := s.heap.update l (Obj.mapSeq f), toks := t' } := by
  have q := PySem.IsL.update e f
  rw [hf] at q
  refine I.write (x := l) (e := l) (by rw [hH]; exact trivial) (.inl rfl) (fun b' u hb hu => (Heap.get?_update_other s.heap (Obj.mapSeq f) (Ne.symm hb)).trans hu) ⟨_, q⟩ ?_
  exact ⟨hz, its', _, hv, q⟩
theorem Inv.lnew {its : List Value} {t' : Nat} (I : Inv X pins σ H s) (hv : Vals ys its) (hz : ys.length ≤ sizeLine) :
    Inv X pins σ (upd H s.heap.objs.size (.lst ys)) { s with heap := s.heap.push { cls := .type "list", data := .seq its.toArray }, toks := t' } :=
  I.laid (fun _ _ q => Heap.get?_push_of_some _ q) (Nat.le_refl _) ⟨hz, its, 0, hv, Heap.get?_push_size _ rfl⟩
theorem Inv.fresh (I : Inv X pins σ H s) : H s.heap.objs.size = none := I.hok.fresh (Nat.le_refl _)
theorem Inv.lstM (I : Inv X pins σ H s) (hH : H l = some (.lst xs)) : xs.length ≤ sizeLine ∧ ∃ (its : List Value) (n : Nat), Vals xs its ∧ xs.length = its.length ∧ s.heap.get? l = some { cls := .type "list", data := .seq its.toArray n } := by
  obtain ⟨z, its, n, r, e⟩ := I.hok l _ hH
  exact ⟨z, its, n, r, r.length, e⟩

theorem notLongL {n : Nat} (h : n ≤ sizeLine) : Builtin.List.listTooLong n = false := by
  unfold Builtin.List.listTooLong
  exact decide_eq_false (by omega)
end

section
variable {X : Cx}

/-! ### methods -/
def rAppend : V → List V → Hp → VK → Prop := fun x vs H Q => ∃ l xs y, x = .ref l ∧ vs = [y] ∧ H l = some (.lst xs) ∧ xs.length < sizeLine ∧ Q .non (upd H l (.lst (xs ++ [y])))
theorem mt_append : MtM X "list.append" rAppend := by
  intro pins s σ H x vs v us Q I rx rv h
  obtain ⟨l, xs, y, rfl, rfl, hH, hz, q⟩ := h
  cases rx
  obtain ⟨u, rfl, ru⟩ := rv.one
  obtain ⟨z, its, n, r, hl, e⟩ := I.lstM hH
  refine call_meets F.slot_list_append ⟨_, e, rfl⟩ F.entry_list_append (F.args_list_append_2 _ _) (PySem.list_append l its.toArray n u (by rw [List.size_toArray]; omega)) ⟨e, ?_⟩
  refine ⟨.non, _, I.lset (its' := its ++ [u]) hH e (by simp) (r.append (.cons ru .nil)) ?_, rfl, q⟩
  rw [List.length_append, List.length_singleton]
  omega






/-! ### list + list, list += list, list * int -/
/-- a list times an int (a negative one is nothing) -/
def rRep : R2 := fun x y H Q => ∃ l k xs, x = .ref l ∧ y = .int k ∧ H l = some (.lst xs) ∧ -(2 ^ 63) ≤ k ∧ k < 2 ^ 63 ∧ xs.length * k.toNat ≤ sizeLine ∧
  ∀ p, H p = none → Q (.ref p) (upd H p (.lst (List.replicate k.toNat xs).flatten))
theorem len_rep {α : Type} (xs : List α) (k : Nat) : (List.replicate k xs).flatten.length = k * xs.length := by
  induction k with
  | zero => simp
  | succ k ih => rw [List.replicate_succ, List.flatten_cons, List.length_append, ih, Nat.succ_mul, Nat.add_comm]
theorem op_rep : OpR X (binaryOp .Mult) rRep := by
  intro pins s σ H x y v u Q I rx ry h
  obtain ⟨l, k, xs, rfl, rfl, hH, h1, h2, hz, q⟩ := h
  cases rx
  obtain ⟨t, rfl⟩ := ry
  obtain ⟨z, its, n, r, hl, e⟩ := I.lstM hH
  have hlen : its.toArray.size * k.toNat ≤ sizeLine := by rw [List.size_toArray, ← hl]; exact hz
  have hcap : ¬ its.toArray.size * k.toNat > (2 ^ 63 - 1) / 8 := by
    have : (sizeLine : Nat) ≤ (2 ^ 63 - 1) / 8 := by decide
    omega
  have hfit : ¬ (!Builtin.List.listFitsIndex k) = true := by
    rw [fitsIndex_both h1 h2]
    exact Bool.false_ne_true
  have hlong : ¬ Builtin.List.listTooLong (its.toArray.size * k.toNat) = true := by
    rw [notLongL hlen]
    exact Bool.false_ne_true
  have hnew : List.foldl (fun x1 x2 => x1 ++ x2) #[] (List.replicate (if its.toArray.isEmpty = true then 0 else k.toNat) its.toArray) = (List.replicate k.toNat its).flatten.toArray := by
    have f0 : ∀ m : Nat, List.foldl (fun x1 x2 => x1 ++ x2) #[] (List.replicate m its.toArray) = (List.replicate m its).flatten.toArray := fun m => by
      have := foldl_rep its m []
      rw [List.nil_append] at this
      exact this
    rw [f0]
    cases its with
    | nil => simp
    | cons a r' => rw [if_neg (by simp)]
  refine wpAny_binaryOp_repeat_ref (T := "list") (U := "int") (by decide) ⟨_, e, rfl⟩ (fun s' => typeIs_int s' k t) noFill_list_mul F.fills_int_mul F.slot_int_rmul repeat_list F.slot_int_index.lookup
    (call_meets F.slot_int_rmul (typeIs_int s k t) F.entry_int_rmul (F.args_int_rmul_2 _ _) (int___rmul___int_list k t l its.toArray n)
      ⟨e, rfl, ⟨_, e, rfl⟩, call_meets F.slot_list_mul ⟨_, e, rfl⟩ F.entry_list_mul (F.args_list_mul_2 _ _) (AutoListH.list___mul___list_int_3 l its.toArray n k t hfit hcap hlong) ⟨e, ?_⟩⟩)
  rw [hnew]
  exact ⟨.ref _, _, I.lnew (t' := s.toks) (r.rep k.toNat) (by rw [len_rep, Nat.mul_comm]; exact hz), rfl, q _ I.fresh⟩

/-! ### del xs[i] -/
end

/-! ### xs[a:b] = ys -/
section
variable {prog : Program} {w : World} {A : Around} {E : Value → Shared → Prop} {s : Shared}
end

section
variable {X : Cx}
end
end L2

namespace Att
open PySem PySem.W PySem.Calls PyProof.Rows

/-! ### the script -/
theorem ints_of_wellAll {P : Params} {h : Heap} : ∀ (ns : List Int) (vs : List Value), WellAll P h vs (ns.map WData.int) → IntsAre vs ns := by
  intro ns
  induction ns with
  | nil =>
    intro vs w
    rw [List.map_nil] at w
    cases w
    exact .nil
  | cons n ns ih =>
    intro vs w
    rw [List.map_cons] at w
    cases w with
    | cons a b =>
      cases a
      exact .cons _ _ (ih _ b)

theorem script_of {l : OpenLaw} {n : Nat} (hn : l.most = some n) {P : Params} {h : Heap} {args : List WData} {vals : List Value}
    (hpre : l.row.toRowW.claim.pre args = true) (hwl : WellAll P h vals args) :
    ∃ a vs ns, vals = [Value.ref a] ∧ args = [WData.list (ns.map WData.int)] ∧ h.get? a = some { cls := .type "list", data := .seq vs.toArray } ∧ IntsAre vs ns ∧ ns.length ≤ n := by
  have hsh : WShape.hasAll [] args [.list .int] = true := (pre_splitW hpre).1
  have hc : l.pre.holds [] { args := args } = true := (pre_splitW hpre).2
  obtain ⟨d, r, rfl, h1, h2⟩ := hasAllW_cons hsh
  obtain rfl := hasAllW_nil h2
  obtain ⟨xs, rfl, h3⟩ := hasW_list h1
  obtain ⟨ns, rfl⟩ := items_int h3
  have hlen : ns.length ≤ n := by
    unfold OpenLaw.pre at hc
    have h4 : (WTm.not (.lt (.lit (.int (n : Int))) (.len (.arg 0)))).holds [] { args := [.list (ns.map .int)] } = true := by
      have h4 := (holds_andW hc).1
      rw [hn] at h4
      exact h4
    have h5 := condW_of h4 (w_not (w_lt w_lit (w_len_list (w_arg rfl))))
    rw [List.length_map] at h5
    refine Nat.le_of_not_lt fun q => ?_
    have q' : (n : Int) < ((ns.length : Nat) : Int) := by omega
    first
      | (rw [decide_eq_true q'] at h5; exact absurd h5 (by decide))
      | (simp at h5; omega)
  cases hwl with
  | cons w1 w2 =>
    cases w2
    cases w1 with
    | list ho hall => exact ⟨_, _, ns, rfl, rfl, ho, ints_of_wellAll ns _ hall, hlen⟩

theorem post_true (l : OpenLaw) (args : List WData) : l.row.toRowW.claim.post args (.bool true) args = true :=
  postW_of (r := l.row.toRowW) (X := (true == true))
    (show WShape.has [] (.bool true) .bool = true by first | rfl | decide | simp [WShape.has, WShape.arms, WShape.armsAll])
    (show (WTm.eq .res (.lit (.bool true))).value [] { args := args, res := some (.bool true), after := args } = some (.bool (true == true)) from w_eq_bool (w_res rfl) w_lit) rfl

/-! ### the attachment: holds_open's last premise (the goal 'hc' behind k_head) from a wpAny of the law's body -/

/-- the same from a codeAny of the CALL (for a layer whose function contracts speak of calls) -/
theorem attach_call {l : OpenLaw} {n : Nat} {q : Program} {loose : List Str} {XP : (Str → Option Value) → Heap → Prop} {YP : World → Heap → Prop} {d : DefRec}
    (hn : l.most = some n) (hdf : d.params.defaults = [])
    (call : ∀ (w : World) (s₀ s₁ : Shared) (mg mb : Str → Option Value) (fa : Addr) (o : Obj) (pm cd doc : Value) (a : Addr) (vs : List Value) (ns : List Int),
      Ground q loose [] XP w s₀ mg mb s₁.heap → YP w s₁.heap →
      s₁.heap.get? fa = some o → o.data = .func (docDef d.name d.params d.body d.scope pm cd doc) → s₁.heap.CodeRec cd d.name → mg d.name = some (.ref fa) →
      s₁.heap.get? a = some { cls := .type "list", data := .seq vs.toArray } → IntsAre vs ns → ns.length ≤ n → s₁.gens = #[] →
      codeAny (model l.prog w) callerA (.call (.ref fa) ⟨[.ref a], []⟩) (fun r s' => r = .ok (.ret (.bool true)) ∧ OldK s₁.heap s'.heap ∧ s'.os = s₁.os ∧ AllBare s'.gens) s₁) :
    WalkO q loose XP YP l.row.toRowW d [] (fun f vs => PySem.call f vs) := by
  intro w s₀ s₁ mg mb G Y fa o pm cd doc dV kV ho hd hcd hD hmg hg args vals as hpre hlay hrd hwl hlo
  obtain rfl : dV = .none := Dflts.none hD hdf
  obtain rfl : kV = .none := Dflts.noKw hD
  obtain ⟨a, vs, ns, rfl, rfl, hobj, hints, hlen⟩ := script_of hn hpre hwl
  refine enter_call (codeAny_mono (call w s₀ s₁ mg mb fa o pm cd doc a vs ns G Y ho (fd_plain hd) hcd hmg hobj hints hlen hg) fun r s' hq => ?_)
  obtain ⟨rfl, h2, h3, h4⟩ := hq
  exact ⟨.inl ⟨.bool true, .bool true, [], rfl, fun _ => rfl, .bool true, post_true l _, fun _ => ⟨List.Pairwise.nil, fun _ hm => (nomatch hm)⟩⟩, h2, h3, h4⟩


/-! ### rules over ANY heap (no ledger) from facts about the written part K: the library's own take a ledger (News) for what they write -/
section
variable {prog : Program} {w : World} {A : Around} {E : Value → Shared → Prop} {s : Shared} {K : Frag}





/-! the whole heap as the ledger: makes every rule that writes through a ledger a rule over any heap -/

end
end Att

namespace L2
open PySem PySem.Spec PyProof.Rows

theorem vals_ints : ∀ {vs : List Value} {ns : List Int}, IntsAre vs ns → Vals (ns.map V.int) vs
  | _, _, .nil => .nil
  | _, _, .cons n t h => .cons ⟨t, rfl⟩ (vals_ints h)


end L2

namespace L2
open PySem PySem.Spec PyProof.Rows


end L2

/- THE LAST THEOREM (shape; LID, My.* are yours):
   My.Adr: a structure of the addresses that your layer names (classes, functions); My.Txt K t: a structure (Prop) of the equations over K;
   My.txt_mk : {K} {implicit addresses ..} (e1 : nsIn K mainGlobals "law" = some (some (.ref f))) (e2 : K.lookup f = some ⟨oc, od, .func (fnOf "law" "law" params body scope dV kV doc pm an cdv ct), sl⟩) (e3 : codeIn K cdv "law" = true) .. : ∃ t, My.Txt K t

set_option maxRecDepth 100000 in
set_option maxHeartbeats 0 in
theorem PySem.Challenge.cw_LID_holds : PySem.Challenge.rw_LID.Holds := by
  w_on; o_law; k_head; (case hw => w_witness2)
  k_fill
  refine L2.walk_of (l := PySem.Challenge.rw_LID) (n := 63) (k := 40) (x := "script") (CX := fun w => ..) (sp := fun _ => My.sp_law) rfl (by decide) rfl ⟨rfl, by decide, by decide⟩ (fun w h Y => PySem.W.kIn_of Y) ?F ?S ?C
  case F =>
    intro w mg fa h KX G hmg
    have T : ∃ t, My.Txt (L2.KOf KX) t := by
      dsimp only [L2.KOf]                          -- K must stand as «<heap const> w.params» for k_is
      refine' My.txt_mk ?e1 ?e2 ?e3 ..
      (case e1 => PySem.W.k_is)                    -- in the order: a name -> its address -> its object -> its parts
      (case e2 => PySem.W.k_is)
      ..
    obtain ⟨t, T⟩ := T
    have e0 := hmg.symm.trans (PySem.W.mg_of KX G T.law)
    cases e0                                       -- fa is the law's own address
    exact ⟨_, fun s u => .of_eq rfl, fun base kb nb => My.law_fn T kb nb⟩     -- if «.of_eq rfl» comes too early: refine' ⟨_, ?b, fun base kb nb => My.law_fn T kb nb⟩; exact fun s u => .of_eq rfl
  case S => exact fun w H a ns hl hO hS => ..
  case C => exact ..
(the tactic k_is has no namespace: write k_is) -/

/-! SHORT WORDS over the layer: a def of the text, its body, what a loop and a test want. -/
namespace L2
open PySem PySem.Spec PyProof.Rows

/-! ### the text by places -/
def defArgs (s : Stmt) : Arguments := match s with
  | .FunctionDef _ a _ _ _ _ _ _ _ _ => a
  | _ => { posonlyargs := [], args := [], vararg := none, kwonlyargs := [], kw_defaults := [], kwarg := none, defaults := [] }
def defBody (s : Stmt) : List Stmt := match s with
  | .FunctionDef _ _ b _ _ _ _ _ _ _ => b
  | _ => []
def defScope (s : Stmt) : Scope := match s with
  | .FunctionDef _ _ _ _ _ _ sc _ _ _ => sc
  | _ => { kind := .function, names := [], isGenerator := false, isCoroutine := false }

/-! ### no exception leaves a def -/
abbrev CX0 : CXT := fun _ _ _ _ _ _ => False
abbrev E0 : XK := fun _ _ _ => False
theorem pass0 {X : Cx} : Passes CX0 X E0 := fun _ _ _ _ _ _ _ h => h.elim

/-! ### a def (or method) of the text as it stands behind the top -/
structure Fun (K : PySem.W.Frag) (x qual : Str) (st : Stmt) (f : Addr) (fd : FuncData) : Prop where
  ex : ∃ (oc : Value) (od : Option Addr) (kV doc pm : Value) (an : Option Addr) (cdv ct : Value) (osl : Array (Option Value)),
    fd = PySem.W.fnOf x qual (defArgs st) (defBody st) (defScope st) .none kV doc pm an cdv ct ∧ K.lookup f = some ⟨oc, od, .func fd, osl⟩ ∧ PySem.W.codeIn K cdv qual = true
  kp : PySem.W.keepIn K (.ref f) = true
section
variable {P : Program} {w : World} {K : PySem.W.Frag} {mg : Str → Option Value} {base : Heap}
/-- THE RULE for a def: its body as a term of rules, and the reading of that term -/
theorem Fun.ok {x qual : Str} {st : Stmt} {f : Addr} {fd : FuncData} {N ps : List Str} {k : Nat} {sp : Sp} (F : Fun K x qual st f fd) (S : FnScope N ps (defScope st)) (len : ∀ vs H Q E, sp vs H Q E → vs.length = ps.length)
    (hbody : ∀ (cdv : Value) (A : Around) (outer : List Env) (s : Shared) (H : Hp) (vs : List V) (Q : VK) (E : XK), Room k (A.deeper (envOfC qual (defScope st) s.heap.objs.size f cdv)) → sp vs H Q E →
      ∃ t, PSs (cxOf CX0 P w K mg base N qual (defScope st) f cdv A outer s H E).nox (defBody st) t ∧ t { nx := fun _ H' => Q .non H', rt := Q } (start N vs) H) : FnOk P w K mg base CX0 (k + 1) f fd ps sp := by
  obtain ⟨oc, od, kV, doc, pm, an, cdv, ct, osl, rfl, lk, hcd⟩ := F.ex
  refine fn_of lk hcd S len fun A outer s H vs Q E hr hsp => ?_
  obtain ⟨t, h, q⟩ := hbody cdv A outer s H vs Q E hr hsp
  exact ⟨t, h.nox, q⟩
/-- how its arguments bind (no defaults): h is «fun _ _ _ _ _ _ us hl => match us, hl with | [_, _], _ => rfl», one _ a parameter -/
theorem Fun.binds {x qual : Str} {st : Stmt} {f : Addr} {fd : FuncData} {ps : List Str} (F : Fun K x qual st f fd)
    (h : ∀ (kV doc pm : Value) (an : Option Addr) (cdv ct : Value) (us : List Value), us.length = ps.length → bindArgs (PySem.W.fnOf x qual (defArgs st) (defBody st) (defScope st) .none kV doc pm an cdv ct) ⟨us, []⟩ = pure (ps.zip us)) : Binds K fd ps [] := by
  obtain ⟨oc, od, kV, doc, pm, an, cdv, ct, osl, rfl, lk, hcd⟩ := F.ex
  exact .all (h kV doc pm an cdv ct)
theorem fun_mk {x qual : Str} {st : Stmt} {f : Addr} {oc : Value} {od an : Option Addr} {osl : Array (Option Value)} {kV doc pm cdv ct : Value} (l : K.lookup f = some ⟨oc, od, .func (PySem.W.fnOf x qual (defArgs st) (defBody st) (defScope st) .none kV doc pm an cdv ct), osl⟩)
    (c : PySem.W.codeIn K cdv qual = true) (k : PySem.W.keepIn K (.ref f) = true) : Fun K x qual st f (PySem.W.fnOf x qual (defArgs st) (defBody st) (defScope st) .none kV doc pm an cdv ct) := ⟨⟨oc, od, kV, doc, pm, an, cdv, ct, osl, rfl, l, c⟩, k⟩
end
theorem hu_of {A : Around} {k : Nat} (hr : Room k A) : A.units + 1 < cLine := Nat.lt_of_le_of_lt (Nat.add_le_add_left (by decide : 1 ≤ 64) _) hr.units
theorem small1000 {n : Nat} (h : n ≤ 1000) : n < sizeLine := Nat.lt_of_le_of_lt h (by decide)

/-! ### expressions in short: the name that stands in the i-th slot -/
section
variable {X : Cx}
theorem pv (i : Nat) {x : Str} {pos : Pos} (hN : X.N[i]? = some x := by rfl) (hv : Vis X.env.scope x := by first | exact Or.inl rfl | exact Or.inr (Or.inl rfl) | exact Or.inr (Or.inr rfl)) (hd : (x == ("__debug__" : Str)) = false := by decide)
    (hcd : (x == ("__classdict__" : Str)) = false := by decide) : PE X (.Name x pos) (tVar i) := pe_var hN hv hd hcd
end

/-! ### tests -/
theorem iteF {A B : Prop} (h : B) : if false = true then A else B := by
  rw [if_neg Bool.false_ne_true]
  exact h
theorem iteT {A B : Prop} (h : A) : if true = true then A else B := by
  rw [if_pos rfl]
  exact h
theorem ite2 {c A B : Prop} [Decidable c] (h1 : c → A) (h2 : ¬ c → B) : if c then A else B := by
  by_cases h : c
  · rw [if_pos h]
    exact h1 h
  · rw [if_neg h]
    exact h2 h
theorem iteNS {c A B : Prop} [Decidable c] (hc : c) (h : B) : if (!decide c) = true then A else B := by
  rw [decide_eq_true hc]
  exact iteF h

/-! ### heaps -/
/-- all that was tracked is as it was -/
def Same (H H' : Hp) : Prop := ∀ b o, H b = some o → H' b = some o
theorem Same.trans {H H1 H2 : Hp} (a : Same H H1) (b : Same H1 H2) : Same H H2 := fun c o h => b c o (a c o h)
theorem Same.seq {K : PySem.W.Frag} {H H' : Hp} {a : Addr} {xs : List V} (e : Same H H') (h : SqL K H a xs) : SqL K H' a xs := by
  rcases h with (h | ⟨o, h⟩) | h
  · exact .inl (.inl (e _ _ h))
  · exact .inl (.inr ⟨o, e _ _ h⟩)
  · exact .inr h

end L2

set_option maxRecDepth 100000
set_option maxHeartbeats 4000000
namespace L2
open PySem PySem.Spec PyProof.Rows
end L2
namespace L2
open PySem PySem.Spec PyProof.Rows
section
variable (P : Program) (w : World)
end
section
variable {P : Program} {w : World} {H H' : Hp} {h h' : Heap} {a : Addr} {o : HO}
end
section
variable {P : Program} {w : World} {H : Hp} {h h' : Heap} {x e : Addr} {o' : HO}
end
section
variable {fs fs' ex ex' : List Addr} {H H1 H2 : Hp} {h h1 h2 h' : Heap} {a x e : Addr} {o : HO}
end
end L2
namespace L2
open PySem PySem.Spec PyProof.Rows
section
variable {X : Cx} {pins : List (Addr × Obj)} {σ : List (Option V)} {H H' : Hp} {s : Shared} {h' : Heap}
end
end L2
namespace L2
open PySem PySem.Spec PyProof.Rows
section
variable {X : Cx}
variable {a b : Expr} {ta tb : TE} {pos : Pos}
variable {tA tB' : TT} {rest : List Expr}
end
end L2
namespace L2
open PySem PySem.Spec PyProof.Rows
section
variable {X : Cx} {pins : List (Addr × Obj)} {σ : St} {H : Hp} {s : Shared} {a : Addr} {xs ys : List V}
end
section
variable {X : Cx} {pins : List (Addr × Obj)} {σ : St} {H : Hp} {s : Shared} {E : Value → Shared → Prop}
end
section
variable {X : Cx} {st : Stmt} {rest : List Stmt} {t u : TS} {e : Expr} {te : TE} {pos : Pos}
end
section
variable {X : Cx} {pos : Pos}
end
section
variable {X : Cx} {pos : Pos}
end
end L2
namespace L2
open PySem PySem.Spec PyProof.Rows
section
variable {X : Cx} {tg : Expr}
end
end L2
namespace L2
open PySem PySem.Spec PyProof.Rows
section
variable {X : Cx} {a b c : Expr} {ta tb tc : TE} {pos : Pos}
end
section
variable {X : Cx} {a b c : Expr} {ta tb tc : TE} {pos : Pos}
end
end L2
namespace L2
open PySem PySem.Spec PyProof.Rows
section
variable {prog : Program} {w : World} {A : Around} {E : Value → Shared → Prop} {s : Shared} {K : PySem.W.Frag} {x dx C f : Addr} {mA : Str → Option Value} {name : Str} {v : Value}
end
section
variable {P : Program} {w : World} {H H' : Hp} {h h' : Heap} {a C dx : Addr} {fs fs' : List (Str × V)}
end
section
variable {X : Cx} {pins : List (Addr × Obj)} {σ : St} {H : Hp} {s : Shared} {a C dx : Addr} {fs : List (Str × V)} {f : Str} {v : V} {A : Around} {E : Value → Shared → Prop}
end
section
variable {X : Cx} {o e value : Expr} {f : Str} {pos pos' tpos : Pos} {ta tv : TE}
end
section
variable {X : Cx} {pins : List (Addr × Obj)} {σ : St} {H : Hp} {s : Shared} {A : Around} {E : Value → Shared → Prop} {Q : Value → Shared → Prop} {c : Value} {b : Bool}
end
end L2
namespace L2
open PySem PySem.Spec PyProof.Rows
section
variable {X : Cx} {e : Expr} {es : List Expr} {te : TE} {t : TA} {pos : Pos}
end
section
variable {X : Cx} {pins : List (Addr × Obj)} {σ : St} {H : Hp} {s s' : Shared}
end
section
variable {X : Cx} {CX : CXT} {k : Nat} {f C : Addr} {fd : FuncData} {ps : List Str} {sp : Sp} {dvs : List V} {ds : List Value} {E : XK} {x m : Str} {p pos apos : Pos} {e o : Expr} {es : List Expr} {ta : TE} {t : TA}
end
section
variable {X : Cx} {CX : CXT} {k : Nat} {f C : Addr} {fd : FuncData} {ps ks : List Str} {sp : Sp} {E : XK} {x m : Str} {p pos apos kpos : Pos} {e o : Expr} {es : List Expr} {kws : List Keyword} {te ta : TE} {t tk : TA} {nm : Option Str}
variable {g : List Value → List Value → List Value} {gV : List V → List V → List V}
end
end L2
namespace L2
open PySem PySem.Spec PyProof.Rows
section
variable {X : Cx} {x : Str} {p pos : Pos} {e : Expr} {es : List Expr} {t : TA} {id T : String} {r : List V → Hp → VK → Prop}
end
end L2
namespace L2
open PySem PySem.Spec PyProof.Rows
section
variable {κ : Type} [DecidableEq κ]
def valV (kvs : List (κ × V)) (k : κ) : Option V := (kvs.find? fun kv => decide (kv.1 = k)).map (·.2)
def putK (kvs : List (κ × V)) (k : κ) (v : V) : List (κ × V) :=
  if (kvs.any fun kv => decide (kv.1 = k)) = true then kvs.map (fun kv => if kv.1 = k then (kv.1, v) else kv) else kvs ++ [(k, v)]
def dropK (kvs : List (κ × V)) (k : κ) : List (κ × V) := kvs.filter fun kv => decide (kv.1 ≠ k)
theorem valV_pos {p : κ × V} {r : List (κ × V)} {k : κ} (e : p.1 = k) : valV (p :: r) k = some p.2 := by simp [valV, List.find?_cons, e]
theorem valV_neg {p : κ × V} {r : List (κ × V)} {k : κ} (e : ¬ p.1 = k) : valV (p :: r) k = valV r k := by simp [valV, List.find?_cons, e]
theorem valV_any (k : κ) : ∀ kvs : List (κ × V), (kvs.any fun kv => decide (kv.1 = k)) = (valV kvs k).isSome
  | [] => rfl
  | p :: r => by
    rw [List.any_cons]
    by_cases e : p.1 = k
    · simp only [valV_pos e, decide_eq_true e, Bool.true_or, Option.isSome_some]
    · rw [valV_neg e, decide_eq_false e, Bool.false_or]; exact valV_any k r
theorem valV_map (k j : κ) (y : V) : ∀ kvs : List (κ × V), valV (kvs.map fun kv => if kv.1 = k then (kv.1, y) else kv) j = (valV kvs j).map fun x => if j = k then y else x
  | [] => rfl
  | p :: r => by
    have ih := valV_map k j y r
    rw [List.map_cons]
    by_cases h : p.1 = k
    · rw [if_pos h]
      by_cases e : p.1 = j
      · rw [valV_pos (p := (p.1, y)) e, valV_pos e, Option.map_some, if_pos (e.symm.trans h)]
      · rw [valV_neg (p := (p.1, y)) e, valV_neg e, ih]
    · rw [if_neg h]
      by_cases e : p.1 = j
      · rw [valV_pos (p := p) e, valV_pos e, Option.map_some, if_neg (fun z => h (e.trans z))]
      · rw [valV_neg (p := p) e, valV_neg e, ih]
theorem valV_snoc (k j : κ) (y : V) : ∀ kvs : List (κ × V), valV kvs k = none → valV (kvs ++ [(k, y)]) j = if j = k then some y else valV kvs j
  | [], _ => by
    by_cases e : k = j
    · rw [if_pos e.symm]; exact valV_pos (p := (k, y)) e
    · rw [if_neg (fun z => e z.symm)]; exact valV_neg (p := (k, y)) e
  | p :: r, hn => by
    rw [List.cons_append]
    have hk : ¬ p.1 = k := fun z => by rw [valV_pos z] at hn; cases hn
    rw [valV_neg hk] at hn
    have ih := valV_snoc k j y r hn
    by_cases e : p.1 = j
    · rw [valV_pos e, valV_pos e, if_neg (fun z => hk (e.trans z))]
    · rw [valV_neg e, valV_neg e, ih]
theorem valV_put (kvs : List (κ × V)) (k j : κ) (y : V) : valV (putK kvs k y) j = if j = k then some y else valV kvs j := by
  unfold putK
  by_cases a : (kvs.any fun kv => decide (kv.1 = k)) = true
  · rw [if_pos a, valV_map]
    rw [valV_any] at a
    by_cases e : j = k
    · obtain ⟨x, hx⟩ := Option.isSome_iff_exists.mp a
      rw [if_pos e, e, hx, Option.map_some, if_pos rfl]
    · rw [if_neg e]
      cases valV kvs j with
      | none => rfl
      | some x => rw [Option.map_some, if_neg e]
  · rw [if_neg a]
    refine valV_snoc k j y kvs ?_
    rw [valV_any] at a
    cases q : valV kvs k with
    | none => rfl
    | some x => rw [q] at a; exact (a rfl).elim
theorem length_putK (kvs : List (κ × V)) (k : κ) (v : V) : (putK kvs k v).length ≤ kvs.length + 1 := by
  unfold putK
  split
  · rw [List.length_map]; omega
  · rw [List.length_append, List.length_cons, List.length_nil]; omega
theorem putK_new {kvs : List (κ × V)} {k : κ} (v : V) (h : valV kvs k = none) : putK kvs k v = kvs ++ [(k, v)] := by
  unfold putK
  rw [valV_any, h]
  exact if_neg (by decide)
theorem RelO.isSome_eq {o : Option V} {u : Option Value} (r : RelO o u) : o.isSome = u.isSome := by
  cases o with
  | none => cases u with
    | none => rfl
    | some _ => exact (show False from r).elim
  | some _ => cases u with
    | none => exact (show False from r).elim
    | some _ => rfl
theorem KV.val {kvs : List (κ × V)} {vs : List (κ × Value)} (r : KV kvs vs) (k : κ) : RelO (valV kvs k) (valueAt vs k) := by
  unfold KV at r
  induction r with
  | nil => exact True.intro
  | @cons p q ps qs h t ih =>
    obtain ⟨h1, h2⟩ := h
    by_cases e : p.1 = k
    · have e' : q.1 = k := h1.symm.trans e
      have b : valueAt (q :: qs) k = some q.2 := by simp [valueAt, List.find?_cons, e']
      rw [valV_pos e, b]; exact h2
    · have e' : ¬ q.1 = k := fun z => e (h1.trans z)
      have b : valueAt (q :: qs) k = valueAt qs k := by simp [valueAt, List.find?_cons, e']
      rw [valV_neg e, b]; exact ih
theorem KV.any {kvs : List (κ × V)} {vs : List (κ × Value)} (r : KV kvs vs) (k : κ) : (kvs.any fun kv => decide (kv.1 = k)) = vs.any fun kv => decide (kv.1 = k) := by
  unfold KV at r
  induction r with
  | nil => rfl
  | cons h t ih => rw [List.any_cons, List.any_cons, ih, h.1]
theorem KV.repl {kvs : List (κ × V)} {vs : List (κ × Value)} (r : KV kvs vs) (k : κ) {y : V} {u : Value} (ry : RelV y u) :
    KV (kvs.map fun kv => if kv.1 = k then (kv.1, y) else kv) (vs.map fun kv => if kv.1 = k then (kv.1, u) else kv) := by
  unfold KV at r ⊢
  induction r with
  | nil => exact .nil
  | @cons p q ps qs h t ih =>
    rw [List.map_cons, List.map_cons]
    refine .cons ?_ ih
    obtain ⟨h1, h2⟩ := h
    by_cases e : p.1 = k
    · rw [if_pos e, if_pos (h1.symm.trans e)]; exact ⟨h1, ry⟩
    · rw [if_neg e, if_neg (fun z => e (h1.trans z))]; exact ⟨h1, h2⟩
theorem KV.put {kvs : List (κ × V)} {vs : List (κ × Value)} (r : KV kvs vs) (k : κ) {y : V} {u : Value} (ry : RelV y u) : KV (putK kvs k y) (stored vs k u) := by
  unfold putK stored
  rw [r.any k]
  by_cases e : (vs.any fun kv => decide (kv.1 = k)) = true
  · rw [if_pos e, if_pos e]; exact r.repl k ry
  · rw [if_neg e, if_neg e]; exact Paired.snoc r ⟨rfl, ry⟩
theorem KV.drop {kvs : List (κ × V)} {vs : List (κ × Value)} (r : KV kvs vs) (k : κ) : KV (dropK kvs k) (without vs k) := by
  unfold KV at r ⊢
  unfold dropK without
  induction r with
  | nil => exact .nil
  | @cons p q ps qs h t ih =>
    obtain ⟨h1, h2⟩ := h
    rw [List.filter_cons, List.filter_cons]
    by_cases e : p.1 = k
    · have a : ¬ decide (p.1 ≠ k) = true := by simp [e]
      have b : ¬ decide (q.1 ≠ k) = true := by simp [h1.symm.trans e]
      rw [if_neg a, if_neg b]; exact ih
    · have e' : ¬ q.1 = k := fun z => e (h1.trans z)
      have a : decide (p.1 ≠ k) = true := by simp [e]
      have b : decide (q.1 ≠ k) = true := by simp [e']
      rw [if_pos a, if_pos b]; exact .cons ⟨h1, h2⟩ ih
theorem KV.length {kvs : List (κ × V)} {vs : List (κ × Value)} (r : KV kvs vs) : kvs.length = vs.length := Paired.length r
theorem dropK_le (kvs : List (κ × V)) (k : κ) : (dropK kvs k).length ≤ kvs.length := List.length_filter_le _ _
end
theorem kV_is {P : Program} {w : World} {k : Key} {u : Value} (r : RelV (kV k) u) : (mixKind P w).is k u = true := by
  cases k with
  | inl i => obtain ⟨t, e⟩ := (show ∃ t, u = Value.int i t from r); subst e; exact mixKind_int P w i t
  | inr x => obtain ⟨t, e⟩ := (show ∃ t, u = Value.str x t from r); subst e; exact mixKind_str P w x t
theorem items_are {P : Program} {w : World} : ∀ {ks : List Key} {us : List Value}, Vals (ks.map kV) us → ItemsAre (mixKind P w) ks us
  | [], _, r => by rw [List.map_nil] at r; cases r; exact .nil
  | k :: ks, _, r => by
    rw [List.map_cons] at r
    cases r with
    | cons h t => exact .cons (kV_is h) (items_are t)
abbrev KT (H : Hp) : List (List Key × V) → List (List Key × Addr × Value) → Prop := Paired fun p q => p.1 = q.1 ∧ H q.2.1 = some (.tup (p.1.map kV)) ∧ RelV p.2 q.2.2
theorem KT.val {H : Hp} {kvs : List (List Key × V)} {xs : List (List Key × Addr × Value)} (r : KT H kvs xs) (k : List Key) : RelO (valV kvs k) ((atKey xs k).map (·.2)) := by
  induction r with
  | nil => exact True.intro
  | @cons p q ps qs h t ih =>
    obtain ⟨h1, _, h2⟩ := h
    by_cases e : p.1 = k
    · have e' : q.1 = k := h1.symm.trans e
      have b : atKey (q :: qs) k = some q.2 := by simp [atKey, List.find?_cons, e']
      rw [valV_pos e, b]; exact h2
    · have e' : ¬ q.1 = k := fun z => e (h1.trans z)
      have b : atKey (q :: qs) k = atKey qs k := by simp [atKey, List.find?_cons, e']
      rw [valV_neg e, b]; exact ih
theorem KT.repl {H : Hp} {kvs : List (List Key × V)} {xs : List (List Key × Addr × Value)} (r : KT H kvs xs) (k : List Key) {y : V} {u : Value} (ry : RelV y u) :
    KT H (kvs.map fun kv => if kv.1 = k then (kv.1, y) else kv) (xs.map (putAt k u)) := by
  induction r with
  | nil => exact .nil
  | @cons p q ps qs h t ih =>
    rw [List.map_cons, List.map_cons]
    refine .cons ?_ ih
    obtain ⟨h1, h2, h3⟩ := h
    unfold putAt
    by_cases e : p.1 = k
    · rw [if_pos e, if_pos (h1.symm.trans e)]; exact ⟨h1, h2, ry⟩
    · rw [if_neg e, if_neg (fun z => e (h1.trans z))]; exact ⟨h1, h2, h3⟩
theorem KT.put {H : Hp} {kvs : List (List Key × V)} {xs : List (List Key × Addr × Value)} (r : KT H kvs xs) (k : List Key) {b : Addr} {y : V} {u : Value} (hb : H b = some (.tup (k.map kV))) (ry : RelV y u) :
    KT H (putK kvs k y) (storedH xs k b u) := by
  have e : (kvs.any fun kv => decide (kv.1 = k)) = (atKey xs k).isSome := by
    rw [valV_any, (r.val k).isSome_eq, Option.isSome_map]
  unfold putK storedH
  rw [e]
  by_cases q : (atKey xs k).isSome = true
  · rw [if_pos q, if_pos q]; exact r.repl k ry
  · rw [if_neg q, if_neg q]; exact Paired.snoc r ⟨rfl, hb, ry⟩
theorem KT.keeps {H H' : Hp} {kvs : List (List Key × V)} {xs : List (List Key × Addr × Value)} (r : KT H kvs xs) (ht : ∀ b ys, H b = some (.tup ys) → H' b = some (.tup ys)) : KT H' kvs xs :=
  Paired.mapP r fun _ _ z => ⟨z.1, ht _ _ z.2.1, z.2.2⟩
section
variable {P : Program} {w : World} {H : Hp} {h : Heap} {a : Addr}
theorem rd_of {u : HO} (ok : HOk P w H h) (e : Rd H a u) : ObjOk P w H h a u := e.ok ok
theorem dk_rd {kvs : List (Key × V)} (ok : HOk P w H h) (e : Rd H a (.dK kvs)) : kvs.length ≤ sizeLine ∧ (a == sysModules) = false ∧ ∃ vs, KV kvs vs ∧ h.DictOf (mixKind P w) a vs :=
  show ObjOk P w H h a (.dK kvs) from rd_of ok e
theorem dk_of {kvs : List (Key × V)} (ok : HOk P w H h) (e : H a = some (.dK kvs)) : kvs.length ≤ sizeLine ∧ (a == sysModules) = false ∧ ∃ vs, KV kvs vs ∧ h.DictOf (mixKind P w) a vs := dk_rd ok (.inl e)
theorem key_of {ks : List Key} (ok : HOk P w H h) (e : H a = some (.tup (ks.map kV))) : (tupleKind (mixKind P w)).is h ks a := by
  obtain ⟨_, its, r, o, h1, h2, n, h3⟩ := (show ObjOk P w H h a (.tup (ks.map kV)) from ok a _ e)
  exact ⟨o, its.toArray, n, h1, h2, h3, by simpa using items_are r⟩
theorem dt_rd {kvs : List (List Key × V)} (ok : HOk P w H h) (e : Rd H a (.dT kvs)) : kvs.length ≤ sizeLine ∧ (a == sysModules) = false ∧
    ∃ xs, KT H kvs xs ∧ h.DictOfH (tupleKind (mixKind P w)) a xs := by
  obtain ⟨z, y, xs, r, o, es, ep, h1, h2, h3, h4, h5⟩ := (show ObjOk P w H h a (.dT kvs) from rd_of ok e)
  refine ⟨z, y, xs, r, o, es, ep, h1, h2, h3, h4, fun x hx => ?_, h5⟩
  have all : ∀ {l : List (List Key × V)} {m : List (List Key × Addr × Value)}, KT H l m → ∀ x ∈ m, (tupleKind (mixKind P w)).is h x.1 x.2.1 := by
    intro l m q
    induction q with
    | nil => intro x hx; exact nomatch hx
    | @cons p q ps qs hq t ih =>
      intro x hx
      rcases List.mem_cons.mp hx with e | hx
      · subst e
        exact key_of ok (by rw [← hq.1]; exact hq.2.1)
      · exact ih x hx
  exact all r x hx
theorem dt_of {kvs : List (List Key × V)} (ok : HOk P w H h) (e : H a = some (.dT kvs)) : kvs.length ≤ sizeLine ∧ (a == sysModules) = false ∧
    ∃ xs, KT H kvs xs ∧ h.DictOfH (tupleKind (mixKind P w)) a xs := dt_rd ok (.inl e)
end
def DGet (H : Hp) (a : Addr) (y : V) (r : Option V) : Prop :=
  (∃ kvs k, Rd H a (.dK kvs) ∧ y = kV k ∧ r = valV kvs k) ∨ ∃ kvs k b, Rd H a (.dT kvs) ∧ y = .ref b ∧ H b = some (.tup (k.map kV)) ∧ r = valV kvs k
def DPut (H : Hp) (a : Addr) (y v : V) (H' : Hp) : Prop :=
  (∃ kvs k, H a = some (.dK kvs) ∧ y = kV k ∧ kvs.length < sizeLine ∧ H' = upd H a (.dK (putK kvs k v))) ∨
  ∃ kvs k b, H a = some (.dT kvs) ∧ y = .ref b ∧ H b = some (.tup (k.map kV)) ∧ kvs.length < sizeLine ∧ H' = upd H a (.dT (putK kvs k v))
theorem DGet.k {H : Hp} {a : Addr} {kvs : List (Key × V)} {k : Key} (e : H a = some (.dK kvs)) : DGet H a (kV k) (valV kvs k) := .inl ⟨kvs, k, .inl e, rfl, rfl⟩
theorem DPut.k {H : Hp} {a : Addr} {kvs : List (Key × V)} {k : Key} {v : V} (e : H a = some (.dK kvs)) (hl : kvs.length < sizeLine) : DPut H a (kV k) v (upd H a (.dK (putK kvs k v))) := .inl ⟨kvs, k, e, rfl, hl, rfl⟩
section
variable {X : Cx} {pins : List (Addr × Obj)} {σ : St} {H : Hp} {s : Shared} {a : Addr} {y v : V} {u r : Value} {o : Option V} {A : Around} {E : Value → Shared → Prop}
theorem Inv.big (I : Inv X pins σ H s) : sysModules < s.heap.objs.size := by
  have h : mainGlobals < s.heap.objs.size := (I.mod.glob.keeps I.bk).lt
  exact Nat.lt_trans (by decide) h
theorem d_getItem {Q : Value → Shared → Prop} (hu : A.units + 1 < cLine) (I : Inv X pins σ H s) (g : DGet H a y (some v)) (ry : RelV y u) (h : ∀ w' s', Inv X pins σ H s' → RelV v w' → Q w' s') :
    wpAny (model X.prog X.w) A (getItem (.ref a) u) Q E s := by
  rcases g with ⟨kvs, k, e, ey, l⟩ | ⟨kvs, k, b, e, ey, eb, l⟩
  · subst ey
    obtain ⟨z, hd, vs, rel, dd⟩ := dk_rd I.hok e
    obtain ⟨w', hw, rw'⟩ := RelO.some_of (v := v) (o := valueAt vs k) (by rw [l]; exact rel.val k)
    exact wpAny_getItem_of (kV_is ry) dd.mapOf hw (h w' _ (I.tok _) rw')
  · subst ey
    cases (show u = Value.ref b from ry)
    obtain ⟨z, hd, xs, rel, dd⟩ := dt_rd I.hok e
    obtain ⟨w', hw, rw'⟩ := RelO.some_of (v := v) (o := (atKey xs k).map (·.2)) (by rw [l]; exact rel.val k)
    obtain ⟨p, hp, hp2⟩ := Option.map_eq_some_iff.mp hw
    refine wpAny_getItem_heap (tupleKind_room_in1 hu) (key_of I.hok eb) dd hp ?_
    rw [hp2]
    exact h w' _ (I.tok _) rw'
theorem d_notIn {Q : Value → Shared → Prop} (hu : A.units + 1 < cLine) (I : Inv X pins σ H s) (g : DGet H a y o) (ry : RelV y u) (h : ∀ s', Inv X pins σ H s' → Q (.bool (!o.isSome)) s') :
    wpAny (model X.prog X.w) A (compareOp .NotIn u (.ref a)) Q E s := by
  rcases g with ⟨kvs, k, e, ey, l⟩ | ⟨kvs, k, b, e, ey, eb, l⟩
  · subst ey
    obtain ⟨z, hd, vs, rel, dd⟩ := dk_rd I.hok e
    refine wpAny_notIn_of (kV_is ry) hd dd.mapOf ?_
    rw [← (rel.val k).isSome_eq, ← l]
    exact h _ (I.tok _)
  · subst ey
    cases (show u = Value.ref b from ry)
    obtain ⟨z, hd, xs, rel, dd⟩ := dt_rd I.hok e
    refine wpAny_notIn_heap (tupleKind_room_in1 hu) (key_of I.hok eb) hd dd ?_
    have q := (rel.val k).isSome_eq
    rw [Option.isSome_map] at q
    rw [← q, ← l]
    exact h _ (I.tok _)
theorem d_write {h' : Heap} {t' : Nat} {ob : HO} (I : Inv X pins σ H s) (mu : Mut (H a)) (hs : Heap.SameBut a s.heap h') (he : ∃ q, h'.get? a = some q) (new : ObjOk X.prog X.w (upd H a ob) h' a ob) :
    Inv X pins σ (upd H a ob) { s with heap := h', toks := t' } :=
  I.write (x := a) (e := a) mu (.inl rfl) (fun b q hb z => (hs.2 b hb).trans z) he new
theorem dk_new {P : Program} {w : World} {H' : Hp} {h' : Heap} {kvs : List (Key × V)} {vs : List (Key × Value)} (z : kvs.length ≤ sizeLine) (hd : (a == sysModules) = false) (rel : KV kvs vs) (dd : h'.DictOf (mixKind P w) a vs) :
    ObjOk P w H' h' a (.dK kvs) := ⟨z, hd, vs, rel, dd⟩
theorem d_setItem {H' : Hp} {Q : Unit → Shared → Prop} (hu : A.units + 1 < cLine) (I : Inv X pins σ H s) (g : DPut H a y v H') (ry : RelV y u) (rv : RelV v r) (h : ∀ s', Inv X pins σ H' s' → Q () s') :
    wpAny (model X.prog X.w) A (setItem (.ref a) u r) Q E s := by
  rcases g with ⟨kvs, k, e, ey, l, eH⟩ | ⟨kvs, k, b, e, ey, eb, l, eH⟩
  · subst ey eH
    obtain ⟨z, hd, vs, rel, dd⟩ := dk_of I.hok e
    have hz : vs.length ≤ sizeLine := by rw [← rel.length]; exact z
    have hl : (putK kvs k v).length ≤ sizeLine := by have := length_putK kvs k v; omega
    refine wpAny_setItem_pairs (hsz := hz) (kV_is ry) dd fun h' dd' hs => h _ ?_
    have he : ∃ q, h'.get? a = some q := let ⟨q, _, _, hq, _⟩ := dd'; ⟨q, hq⟩
    exact d_write I (by rw [e]; exact True.intro) hs he (dk_new hl hd (rel.put k rv) dd')
  · subst ey eH
    cases (show u = Value.ref b from ry)
    obtain ⟨z, hd, xs, rel, dd⟩ := dt_of I.hok e
    have hz : xs.length ≤ sizeLine := by rw [← Paired.length rel]; exact z
    have hl : (putK kvs k v).length ≤ sizeLine := by have := length_putK kvs k v; omega
    refine wpAny_setItem_heap (hsz := hz) (tupleKind_room_in1 hu) (key_of I.hok eb) dd fun h' dd' hs => h _ ?_
    obtain ⟨q, es, ep, hq, h2, h3, h4, _, h5⟩ := dd'
    refine d_write I (by rw [e]; exact True.intro) hs ⟨q, hq⟩ ⟨hl, hd, _, (rel.put k eb rv).keeps fun c ys ec => ?_, q, es, ep, hq, h2, h3, h4, h5⟩
    rw [upd_ne (ne_of ec e (fun z => nomatch z))]
    exact ec
end
section
variable {X : Cx} {pins : List (Addr × Obj)} {σ : St} {H : Hp} {s : Shared} {a : Addr} {kvs : List (Key × V)} {k : Key} {u : Value} {A : Around} {E : Value → Shared → Prop}
theorem d_pop {v : V} {more : List Value} {Q : Value → Shared → Prop} (I : Inv X pins σ H s) (e : H a = some (.dK kvs)) (ry : RelV (kV k) u) (l : valV kvs k = some v) (hm : more = [] ∨ ∃ x, more = [x])
    (h : ∀ w' s', Inv X pins σ (upd H a (.dK (dropK kvs k))) s' → RelV v w' → Q w' s') : wpAny (model X.prog X.w) A (call (.builtin "dict.pop") (.ref a :: u :: more)) Q E s := by
  obtain ⟨z, hd, vs, rel, dd⟩ := dk_of I.hok e
  obtain ⟨w', hw, rw'⟩ := RelO.some_of (v := v) (o := valueAt vs k) (by rw [← l]; exact rel.val k)
  have hp : (keyPart u).isSome = true := by
    cases k with
    | inl i => obtain ⟨t, q⟩ := (show ∃ t, u = Value.int i t from ry); subst q; rfl
    | inr x => obtain ⟨t, q⟩ := (show ∃ t, u = Value.str x t from ry); subst q; rfl
  have ha : argsOk "dict.pop" ⟨.ref a :: u :: more, []⟩ := by
    rcases hm with q | ⟨x, q⟩
    · subst q; exact PySem.F.args_dict_pop_2 _ _
    · subst q; exact PySem.F.args_dict_pop_3 _ _ _
  refine call_meetsIn PySem.F.slot_dict_pop dd.typeIs PySem.F.entry_dict_pop ha (meets_dict_pop_there (mixKind X.prog X.w) a (kV_is ry) more hm hp)
    ⟨vs, w', dd, by rw [← rel.length]; exact z, hw, fun h' dd' hs => h w' _ ?_ rw'⟩
  have he : ∃ q, h'.get? a = some q := let ⟨q, _, _, hq, _⟩ := dd'; ⟨q, hq⟩
  exact d_write I (by rw [e]; exact True.intro) hs he (dk_new (Nat.le_trans (dropK_le kvs k) z) hd (rel.drop k) dd')
end
def NoSl (i : Expr) : Prop := ∀ ov iv, subscripted i false ov iv = operate [ov, iv] (getItem ov iv)
theorem subD_of {prog : Program} {w : World} {A : Around} {E : Value → Shared → Prop} {s : Shared} {env : Env} {value slice : Expr} {pos : Pos} {T id : String} {Q : Value → Shared → Prop}
    (hl : typeLookup (.type T) "__getitem__" = pure (some (.builtin id))) (hs : NoSl slice)
    (h : wpAny (model prog w) A (eval value env) (fun o s₁ => wpAny (model prog w) A (eval slice env) (fun i s₂ => s₂.TypeIs o T ∧ wpAny (model prog w) A (getItem o i) Q E s₂) E s₁) E s) :
    wpAny (model prog w) A (eval (.Subscript value slice pos) env) Q E s := by
  refine Subscript_ (wpAny_mono h (fun o s₁ h₁ => wpAny_mono h₁ (fun i s₂ h₂ => ?_) fun _ _ x => x) fun _ _ x => x)
  obtain ⟨hT, h₂⟩ := h₂
  unfold subscriptTail
  refine wpAny_bind ?_
  rw [getitemInPython_of_ne hT.not_modules]
  refine wpAny_bind (wpAny_specialOf hT hl ?_)
  have fin : wpAny (model prog w) A (subscripted slice false o i) (fun r s₃ => wpAny (model prog w) A (letTemporaryGo value o r >>= fun _ => pure r) Q E s₃) E s₂ := by
    rw [hs o i]
    exact wpAny_operating (wpAny_mono h₂ (fun r s₃ h₃ => wpAny_bind (wpAny_letTemporaryGo (wpAny_pure h₃))) fun _ _ x => x)
  first
    | exact wpAny_pure (wpAny_bind fin)
    | exact wpAny_bind (wpAny_pure (wpAny_bind fin))
    | exact wpAny_bind fin
theorem dict_typeIs {X : Cx} {pins : List (Addr × Obj)} {σ : St} {H : Hp} {s : Shared} {a : Addr} {y : V} {o : Option V} (I : Inv X pins σ H s) (g : DGet H a y o) : s.TypeIs (.ref a) "dict" := by
  rcases g with ⟨kvs, k, e, _, _⟩ | ⟨kvs, k, b, e, _, _, _⟩
  · obtain ⟨_, _, vs, _, dd⟩ := dk_rd I.hok e
    exact dd.typeIs
  · obtain ⟨_, _, xs, _, dd⟩ := dt_rd I.hok e
    exact dd.typeIs
def tDGet (td ty : TE) : TE := fun σ H Q => td σ H fun x H1 => ty σ H1 fun y H2 => ∃ a v, x = .ref a ∧ DGet H2 a y (some v) ∧ Q v H2
def tDNotIn (ty td : TE) : TE := fun σ H Q => ty σ H fun y H1 => td σ H1 fun x H2 => ∃ a o, x = .ref a ∧ DGet H2 a y o ∧ Q (.bl (!o.isSome)) H2
def sDPut (td ty tv : TE) : TS := fun D σ H => tv σ H fun v H1 => td σ H1 fun x H2 => ty σ H2 fun y H3 => ∃ a H4, x = .ref a ∧ DPut H3 a y v H4 ∧ D.nx σ H4
section
variable {X : Cx} {o i e value : Expr} {pos pos' tpos : Pos} {td ty tv : TE}
theorem pe_dget (hu : X.A.units + 1 < cLine) (ho : PE X o td) (hi : PE X i ty) (hs : NoSl i) : PE X (.Subscript o i pos) (tDGet td ty) := by
  intro pins s σ H Q I h
  refine subD_of PySem.F.slot_dict_getitem.lookup hs (thn (ho pins s σ H _ I h) fun u s1 ⟨x, H1, I1, rx, q1⟩ => thn (hi pins s1 σ H1 _ I1 q1) fun iv s2 ⟨y, H2, I2, ry, a, v, ex, g, q2⟩ => ?_)
  subst ex
  obtain rfl : u = Value.ref a := rx
  exact ⟨dict_typeIs I2 g, d_getItem hu I2 g ry fun w' s3 I3 rw' => ⟨v, H2, I3, rw', q2⟩⟩
theorem pc_dnotin (hu : X.A.units + 1 < cLine) (hi : PE X i ty) (ho : PE X o td) : PC X .NotIn i o (tDNotIn ty td) := by
  intro pins s σ H Q I h
  refine thn (hi pins s σ H _ I h) fun iv s1 ⟨y, H1, I1, ry, q1⟩ => thn (ho pins s1 σ H1 _ I1 q1) fun u s2 ⟨x, H2, I2, rx, a, ov, ex, g, q2⟩ => ?_
  subst ex
  obtain rfl : u = Value.ref a := rx
  exact d_notIn hu I2 g ry fun s3 I3 => ⟨.bl (!ov.isSome), H2, I3, rfl, q2⟩
theorem ps_dput (hu : X.A.units + 1 < cLine) (ho : PE X o td) (hi : PE X i ty) (hv : PE X value tv) (hs : swapsWith value (some (.Subscript o i pos')) pos.line X.env = pure false) :
    PS X (.Assign [.Subscript o i pos'] value pos) (sDPut td ty tv) := by
  intro pins s σ H D I h
  refine wpAny_Assign_Subscript (thn (hv pins s σ H _ I h) fun r s1 ⟨v, H1, I1, rv, q1⟩ => thn (ho pins s1 σ H1 _ I1 q1) fun u s2 ⟨x, H2, I2, rx, q2⟩ => thn (hi pins s2 σ H2 _ I2 q2) fun iv s3 ⟨y, H3, I3, ry, a, H4, ex, g, q3⟩ => ?_) hs
  subst ex
  obtain rfl : u = Value.ref a := rx
  exact d_setItem hu I3 g ry rv fun s4 I4 => ⟨σ, H4, I4, q3⟩
end
theorem dk_empty {P : Program} {w : World} {H : Hp} (h : Heap) (hb : sysModules < h.objs.size) : ObjOk P w H (h.push { cls := .type "dict", data := .dict #[] }) h.objs.size (.dK []) :=
  ⟨Nat.zero_le _, beq_eq_false_iff_ne.mpr (Ne.symm (Nat.ne_of_lt hb)), [], .nil, Heap.DictOf.new h⟩
def tDNewK : TE := fun _ H Q => ∀ p, H p = none → Q (.ref p) (upd H p (.dK []))
section
variable {X : Cx} {pos : Pos}
theorem pe_dnewK : PE X (.Dict [] [] pos) tDNewK := fun pins s σ H Q I h =>
  wpAny_Dict_empty ⟨.ref s.heap.objs.size, _, I.laid (a := s.heap.objs.size) (o := .dK []) (t' := s.toks) (fun _ _ q => Heap.get?_push_of_some _ q) (Nat.le_refl _) (dk_empty s.heap I.big), rfl, h _ (I.hok.fresh (Nat.le_refl _))⟩
end
def tPairs : List (TE × TE) → St → Hp → (List (V × V) → Hp → Prop) → Prop
  | [], _, H, Q => Q [] H
  | (tk, tv) :: r, σ, H, Q => tk σ H fun x H1 => tv σ H1 fun y H2 => tPairs r σ H2 fun ps H3 => Q ((x, y) :: ps) H3
abbrev VV : List (V × V) → List (Value × Value) → Prop := Paired fun p q => RelV p.1 q.1 ∧ RelV p.2 q.2
def PPs (X : Cx) (pos : Pos) (keys : List (Option Expr)) (values : List Expr) (trs : List (TE × TE)) : Prop :=
  ∀ (pins : List (Addr × Obj)) (s : Shared) (σ : St) (H : Hp) (Q : List (V × V) → Hp → Prop), Inv X pins σ H s → tPairs trs σ H Q →
    wpAny (model X.prog X.w) X.A (evalPairs (pairTrees keys values X.env pos)) (fun vs s' => ∃ ps H', Inv X pins σ H' s' ∧ VV ps vs ∧ Q ps H') X.xe s
theorem pps_nil {X : Cx} {pos : Pos} : PPs X pos [] [] [] := fun pins s σ H Q I h => pairTrees_nil_walk ⟨[], H, I, .nil, h⟩
theorem pps_cons {X : Cx} {pos : Pos} {k v : Expr} {ks : List (Option Expr)} {vs : List Expr} {tk tv : TE} {trs : List (TE × TE)} (hk : PE X k tk) (hv : PE X v tv) (hr : PPs X pos ks vs trs) :
    PPs X pos (some k :: ks) (v :: vs) ((tk, tv) :: trs) := fun pins s σ H Q I h =>
  pairTrees_cons_walk (thn (hk pins s σ H _ I h) fun u s1 ⟨x, H1, I1, rx, q1⟩ => thn (hv pins s1 σ H1 _ I1 q1) fun w2 s2 ⟨y, H2, I2, ry, q2⟩ =>
    thn (hr pins s2 σ H2 _ I2 q2) fun ws s3 ⟨ps, H3, I3, rel, q3⟩ => ⟨(x, y) :: ps, H3, I3, .cons ⟨rx, ry⟩ rel, q3⟩)
def mergeK (kvs more : List (Key × V)) : List (Key × V) := more.foldl (fun acc kv => putK acc kv.1 kv.2) kvs
theorem KV.merge : ∀ {more : List (Key × V)} {rs : List (Key × Value)} {kvs : List (Key × V)} {vs : List (Key × Value)}, KV more rs → KV kvs vs → KV (mergeK kvs more) (merged vs rs) := by
  intro more rs kvs vs r
  unfold KV at r
  induction r generalizing kvs vs with
  | nil => intro q; exact q
  | @cons p q ps qs h t ih =>
    intro r0
    have e : KV (putK kvs p.1 p.2) (stored vs q.1 q.2) := by
      have := r0.put p.1 h.2
      rw [← h.1]; exact this
    exact ih e
theorem length_mergeK : ∀ (more kvs : List (Key × V)), (mergeK kvs more).length ≤ kvs.length + more.length
  | [], kvs => by show kvs.length ≤ kvs.length + 0; omega
  | p :: r, kvs => by
    have h1 := length_mergeK r (putK kvs p.1 p.2)
    have h2 := length_putK kvs p.1 p.2
    show (mergeK (putK kvs p.1 p.2) r).length ≤ _
    rw [List.length_cons]; omega
theorem carries_of {P : Program} {w : World} : ∀ {kvs : List (Key × V)} {ws : List (Value × Value)}, VV (kvs.map fun kv => (kV kv.1, kv.2)) ws → ∃ rs, Carries (mixKind P w) ws rs ∧ KV kvs rs
  | [], _, r => by rw [List.map_nil] at r; cases r; exact ⟨[], True.intro, .nil⟩
  | p :: kvs, _, r => by
    rw [List.map_cons] at r
    cases r with
    | @cons a b as bs h t =>
      obtain ⟨rs, c, q⟩ := carries_of (P := P) (w := w) t
      obtain ⟨b1, b2⟩ := b
      exact ⟨(p.1, b2) :: rs, ⟨kV_is h.1, rfl, c⟩, .cons ⟨rfl, h.2⟩ q⟩
def tDisp (trs : List (TE × TE)) : TE := fun σ H Q => ∀ p, H p = none → tPairs trs σ (upd H p (.dK [])) fun ps H2 => H2 p = some (.dK []) ∧ ∃ kvs : List (Key × V), ps = kvs.map (fun kv => (kV kv.1, kv.2)) ∧ kvs.length ≤ 15 ∧ Q (.ref p) (upd H2 p (.dK (mergeK [] kvs)))
theorem pe_disp {X : Cx} {pos : Pos} {keys : List (Option Expr)} {values : List Expr} {trs : List (TE × TE)} (h : PPs X pos keys values trs) (hall : keys.all (·.isSome) = true) (hl : keys.length = values.length) (h0 : keys ≠ [])
    (h15 : keys.length ≤ 15) : PE X (.Dict keys values pos) (tDisp trs) := by
  intro pins s σ H Q I q
  have hn := I.hok.fresh (Nat.le_refl s.heap.objs.size)
  have I1 := I.laid (a := s.heap.objs.size) (o := .dK []) (h' := s.heap.push { cls := .type "dict", data := .dict #[] }) (t' := s.toks) (fun _ _ q => Heap.get?_push_of_some _ q) (Nat.le_refl _) (dk_empty s.heap I.big)
  refine wpAny_Dict_walk (knd := mixKind X.prog X.w) hall hl h0 h15 (thn (h pins _ σ _ _ I1 (q _ hn)) fun ws s2 ⟨ps, H2, I2, rel, e, kvs, ep, lk, q2⟩ => ?_)
  subst ep
  obtain ⟨rs, c, rk⟩ := carries_of (P := X.prog) (w := X.w) rel
  obtain ⟨z, hd, vs0, r0, dd⟩ := dk_of I2.hok e
  cases r0
  refine ⟨rs, c, dd, fun h' dd' hs => ⟨.ref s.heap.objs.size, _, ?_, rfl, q2⟩⟩
  have hz : (mergeK [] kvs).length ≤ sizeLine := by
    have h1 := length_mergeK kvs []
    rw [List.length_nil] at h1
    rw [sizeLine_eq]; omega
  have he : ∃ q, h'.get? s.heap.objs.size = some q := let ⟨q, _, _, hq, _⟩ := dd'; ⟨q, hq⟩
  exact d_write I2 (by rw [e]; exact True.intro) hs he (dk_new hz hd (rk.merge .nil) dd')
structure M1 (X : Cx) (o : Expr) (m : Str) (apos : Pos) (e : Expr) (cpos : Pos) : Prop where
  base : attributeBase o m X.env (eval o X.env) = eval o X.env
  few : ((backTo cpos (starEach [e] X.env)).all (fun x => !x.1) && (backToKw cpos (keywordEach [] X.env)).all (fun x => x.1.isSome)
    && decide (([e] : List Expr).length + ([] : List Keyword).length + (if ([] : List Keyword).isEmpty then 0 else 1) < 30)) = true
  line : (apos.endLine == cpos.line) = true
  trees : backTo cpos (starEach [e] X.env) = [(false, eval e X.env)]
def IsD (H : Hp) (a : Addr) : Prop := (∃ kvs, Rd H a (.dK kvs)) ∨ ∃ kvs, Rd H a (.dT kvs)
theorem isD_at {X : Cx} {pins : List (Addr × Obj)} {σ : St} {H : Hp} {s : Shared} {a : Addr} (I : Inv X pins σ H s) (d : IsD H a) :
    s.TypeIs (.ref a) "dict" ∧ (∀ b, Value.ref a = .ref b → ∃ ob, s.heap.get? b = some ob ∧ ob.dict = none) ∧ (a == sysModules) = false := by
  rcases d with ⟨kvs, e⟩ | ⟨kvs, e⟩
  · obtain ⟨_, hd, vs, _, dd⟩ := dk_rd I.hok e
    refine ⟨dd.typeIs, fun b q => ?_, hd⟩
    cases q
    obtain ⟨ob, _, _, h1, h2, _⟩ := dd
    exact ⟨ob, h1, h2.2.1⟩
  · obtain ⟨_, hd, xs, _, dd⟩ := dt_rd I.hok e
    refine ⟨dd.typeIs, fun b q => ?_, hd⟩
    cases q
    obtain ⟨ob, _, _, h1, h2, _⟩ := dd
    exact ⟨ob, h1, h2.2.1⟩
section
variable {X : Cx} {pins : List (Addr × Obj)} {σ : St} {H : Hp} {s : Shared} {a : Addr} {y d : V} {u r : Value} {o : Option V} {A : Around} {E : Value → Shared → Prop}
end
def tDPop1 (td ty : TE) : TE := fun σ H Q => td σ H fun x H1 => ∃ a, x = .ref a ∧ IsD H1 a ∧ ty σ H1 fun y H2 => ∃ kvs k v, H2 a = some (.dK kvs) ∧ y = kV k ∧ valV kvs k = some v ∧ Q v (upd H2 a (.dK (dropK kvs k)))
section
variable {X : Cx} {o e f : Expr} {apos cpos : Pos} {td ty tx : TE}
theorem pe_dpop1 (ho : PE X o td) (he : PE X e ty) (m : M1 X o "pop" apos e cpos) : PE X (.Call (.Attribute o "pop" apos) [e] [] cpos) (tDPop1 td ty) := by
  intro pins s σ H Q I h
  refine wpAny_Call_method m.base m.few m.line PySem.F.plainAttrs_dict PySem.F.slot_dict_pop PySem.F.type_dict_pop (thn (ho pins s σ H _ I h) fun u s1 ⟨x, H1, I1, rx, a, ex, d, q1⟩ => ?_)
  subst ex
  obtain rfl : u = Value.ref a := rx
  obtain ⟨t1, t2, _⟩ := isD_at I1 d
  refine ⟨t1, t2, ?_⟩
  rw [m.trees]
  refine Calls.callWith_builtin rfl (Calls.evalArgs_plain (Calls.spliced_cons (thn (he pins s1 σ H1 _ I1 q1) fun iv s2 ⟨y, H2, I2, ry, kvs, k, v, ea, ey, l, q2⟩ => Calls.spliced_nil ?_)))
  subst ey
  exact d_pop I2 ea ry l (.inl rfl) fun w' s3 I3 rw' => ⟨v, _, I3, rw', q2⟩
end
section
variable {X : Cx} {pins : List (Addr × Obj)} {σ : St} {H : Hp} {s : Shared} {a : Addr} {kvs : List (Key × V)} {A : Around} {E : Value → Shared → Prop}
end
section
variable {X : Cx} {pins : List (Addr × Obj)} {σ : St} {H : Hp} {s : Shared} {a : Addr} {y : V} {u : Value} {A : Around} {E : Value → Shared → Prop}
end
end L2
namespace Att
open PySem PySem.W PySem.Calls PyProof.Rows
section
variable {prog : Program} {w : World} {A : Around} {E : Value → Shared → Prop} {s : Shared} {K : Frag}
end
end Att
namespace L2
open PySem PySem.Spec PyProof.Rows
end L2
namespace L2
open PySem PySem.Spec PyProof.Rows
end L2
namespace L2
open PySem PySem.Spec PyProof.Rows
section
variable {P : Program} {w : World} {K : PySem.W.Frag} {mg : Str → Option Value} {base : Heap}
end
section
variable {X : Cx}
end
section
variable {κ : Type} [DecidableEq κ]
theorem valV_not {kvs : List (κ × V)} {k : κ} (h : valV kvs k = none) : ¬ k ∈ kvs.map (·.1) := by
  intro m
  obtain ⟨p, hp, e⟩ := List.mem_map.mp m
  have q : (kvs.any fun kv => decide (kv.1 = k)) = true := List.any_eq_true.mpr ⟨p, hp, decide_eq_true e⟩
  rw [valV_any, h] at q
  exact absurd q (by simp)
theorem nd_snoc : ∀ {l : List κ} {k : κ}, l.Nodup → ¬ k ∈ l → (l ++ [k]).Nodup
  | [], k, _, _ => by simp
  | a :: r, k, h, hk => by
    obtain ⟨h1, h2⟩ := List.nodup_cons.mp h
    show (a :: (r ++ [k])).Nodup
    refine List.nodup_cons.mpr ⟨fun m => ?_, nd_snoc h2 fun m => hk (List.mem_cons.mpr (Or.inr m))⟩
    rcases List.mem_append.mp m with q | q
    · exact h1 q
    · exact hk (List.mem_cons.mpr (Or.inl (List.mem_singleton.mp q).symm))
theorem nd_putK {kvs : List (κ × V)} {k : κ} (v : V) (hn : (kvs.map (·.1)).Nodup) (h : valV kvs k = none) : ((putK kvs k v).map (·.1)).Nodup := by
  rw [putK_new v h, List.map_append]
  exact nd_snoc hn (valV_not h)
theorem dropK_pos {p : κ × V} {r : List (κ × V)} {k : κ} (e : p.1 = k) : dropK (p :: r) k = dropK r k := by
  unfold dropK
  rw [List.filter_cons, if_neg (by simp [e])]
theorem dropK_neg {p : κ × V} {r : List (κ × V)} {k : κ} (e : ¬ p.1 = k) : dropK (p :: r) k = p :: dropK r k := by
  unfold dropK
  rw [List.filter_cons, if_pos (by simp [e])]
end
end L2

namespace L2
open PySem PySem.Spec PyProof.Rows
/-! ### a list comprehension of one clause without a test -/
/-- the cells that the block is handed -/
def clOf (env : Env) (fr : List (Str × Nat)) : List (Str × Addr) := fr.map fun p => (p.1, (env.cells.lookup p.1).getD 0)
/-- what the names from outside are worth -/
def frOf (fr : List (Str × Nat)) (σ : St) : St := fr.map fun p => (σ[p.2]?).join
/-- the context of the block -/
def cxComp (X : Cx) (scope : Scope) (fr : List (Str × Nat)) (x : Str) (C : Addr) (ex : List Addr) (s : Shared) (H : Hp) : Cx where
  prog := X.prog
  w := X.w
  K := X.K
  mg := X.mg
  base := X.base
  A := X.A
  N := x :: fr.map (·.1)
  s₀ := s
  H₀ := H
  env := compEnvC scope (clOf X.env fr) C X.env
  outer := X.stack
  stack := X.stack
  ex := ex
  fn := fun _ => false
  calm := X.calm
  pn := []
  xe := fun _ _ => False
/-- what the text must show of the block's names -/
structure CompOk (X : Cx) (scope : Scope) (fr : List (Str × Nat)) (x : Str) : Prop where
  clos : closureFor scope X.env = pure (clOf X.env fr)
  cell : ∀ y ∈ scope.names, y.2 ≠ .cell
  kind : scope.kind = .function
  names : ∀ y ∈ scope.names, y.2 = .local → scope.names.lookup y.1 = some .local
  xl : scope.names.lookup x = some .local
  nd : (x :: fr.map (·.1)).Nodup
  slot : ∀ p ∈ fr, X.N[p.2]? = some p.1 ∧ X.env.kindOf p.1 = some .cell
  has : ∀ y ∈ (relabel scope X.env).names, (y.2 = .cell ∨ y.2 = .free) → y.1 ∈ fr.map (·.1)
  frk : ∀ p ∈ fr, (relabel scope X.env).names.lookup p.1 = some .cell
theorem CompOk.plain {X : Cx} {scope : Scope} {x : Str} (clos : closureFor scope X.env = pure []) (cell : ∀ y ∈ scope.names, y.2 ≠ .cell) (kind : scope.kind = .function) (names : ∀ y ∈ scope.names, y.2 = .local → scope.names.lookup y.1 = some .local)
    (hx : scope.names.lookup x = some .local) (nf : ∀ y ∈ scope.names, y.2 ≠ .free) : CompOk X scope [] x where
  clos := clos
  cell := cell
  kind := kind
  names := names
  xl := hx
  nd := by simp
  slot := fun p hp => nomatch hp
  has := fun y hy hk => by
    obtain ⟨⟨n, k⟩, hz, e⟩ := List.mem_map.mp (show y ∈ scope.names.map _ from hy)
    have h1 := nf _ hz
    have h2 := cell _ hz
    dsimp only at e h1 h2
    have hf : (k == NameKind.free) = false := by simpa using h1
    rw [hf] at e
    simp only [Bool.false_and, Bool.false_eq_true, if_false] at e
    subst e
    exact (hk.elim h2 h1).elim
  frk := fun p hp => nomatch hp
theorem CompOk.one {X : Cx} {scope : Scope} {x y : Str} {j : Nat} (clos : closureFor scope X.env = pure (clOf X.env [(y, j)])) (cell : ∀ y ∈ scope.names, y.2 ≠ .cell) (kind : scope.kind = .function) (names : ∀ y ∈ scope.names, y.2 = .local → scope.names.lookup y.1 = some .local)
    (hx : scope.names.lookup x = some .local) (nd : ([x, y] : List Str).Nodup) (hN : X.N[j]? = some y) (hk : X.env.kindOf y = some .cell) (nf : ∀ z ∈ scope.names, z.2 = .free → z.1 = y) (hr : (relabel scope X.env).names.lookup y = some .cell) : CompOk X scope [(y, j)] x where
  clos := clos
  cell := cell
  kind := kind
  names := names
  xl := hx
  nd := nd
  slot := fun p hp => by
    have e : p = (y, j) := by simpa using hp
    subst e
    exact ⟨hN, hk⟩
  has := fun z hz hk => by
    obtain ⟨⟨n, k⟩, hm, e⟩ := List.mem_map.mp (show z ∈ scope.names.map _ from hz)
    have h2 := cell _ hm
    dsimp only at e h2
    have hn : z.1 = n := by rw [← e]; split <;> rfl
    have hf : k = .free := by
      by_cases q : k = .free
      · exact q
      · have hb : (k == NameKind.free) = false := by simpa using q
        rw [hb] at e
        simp only [Bool.false_and, Bool.false_eq_true, if_false] at e
        subst e
        exact (hk.elim h2 q).elim
    have := nf _ hm hf
    rw [hn]
    simp [← this]
  frk := fun p hp => by
    have e : p = (y, j) := by simpa using hp
    subst e
    exact hr
theorem lookup_map_fst {env : Env} : ∀ {fr : List (Str × Nat)} {y : Str} {c : Addr}, (clOf env fr).lookup y = some c → y ∈ fr.map (·.1) ∧ c = (env.cells.lookup y).getD 0
  | [], _, _, h => by cases h
  | p :: r, y, c, h => by
    unfold clOf at h
    rw [List.map_cons, List.lookup_cons] at h
    cases e : y == p.1 with
    | true =>
      rw [e] at h
      have ey : y = p.1 := eq_of_beq e
      cases h
      exact ⟨by rw [ey]; exact List.mem_cons_self, by rw [ey]⟩
    | false =>
      rw [e] at h
      obtain ⟨a, b⟩ := lookup_map_fst (env := env) (fr := r) h
      exact ⟨List.mem_cons_of_mem _ a, b⟩
theorem lookup_map_some {env : Env} : ∀ {fr : List (Str × Nat)} {y : Str}, y ∈ fr.map (·.1) → (clOf env fr).lookup y = some ((env.cells.lookup y).getD 0)
  | [], _, h => by cases h
  | p :: r, y, h => by
    unfold clOf
    rw [List.map_cons, List.lookup_cons]
    cases e : y == p.1 with
    | true =>
      have ey : y = p.1 := eq_of_beq e
      rw [ey]
    | false =>
      have ny : y ≠ p.1 := fun z => by rw [z] at e; simp at e
      rcases List.mem_cons.mp h with z | z
      · exact absurd z ny
      · exact lookup_map_some (env := env) (fr := r) z
section
variable {X : Cx} {pins : List (Addr × Obj)} {σ : St} {H : Hp} {s : Shared} {scope : Scope} {fr : List (Str × Nat)} {x : Str}
/-- a cell of the block is a cell of the body around -/
theorem CompOk.cells (O : CompOk X scope fr x) (I : Inv X pins σ H s) {y : Str} {c : Addr} (h : (clOf X.env fr).lookup y = some c) : X.env.cells.lookup y = some c := by
  obtain ⟨hm, e⟩ := lookup_map_fst h
  obtain ⟨p, hp, ep⟩ := List.mem_map.mp hm
  have k := (O.slot p hp).2
  rw [ep] at k
  obtain ⟨c', e'⟩ := I.ok.has y (.inl k)
  rw [e'] at e
  rw [e', e]
  rfl
/-- the state at the block's head -/
theorem inv_comp {fp : List Addr} (O : CompOk X scope fr x) (I : Inv X pins σ H s) (hf : ∀ b ∈ fp, FpOk X pins H b) (hfs : ∀ b ∈ fp, b < s.heap.objs.size) {g h' : Heap} {tk : Nat} (hg : g = s.heap.push (LCg.lst []))
    (hk : ∀ b o, g.get? b = some o → h'.get? b = some o) (hC : h'.Ns g.objs.size fun _ => none) :
    Inv (cxComp X scope fr x g.objs.size (s.heap.objs.size :: fp) { s with heap := g } H) (X.pn ++ pins ++ [(s.heap.objs.size, LCg.lst [])]) (none :: frOf fr σ) H { s with heap := h', toks := tk } := by
  have hsz : g.objs.size = s.heap.objs.size + 1 := by rw [hg, Heap.size_push]
  have kp : ∀ b o, s.heap.get? b = some o → g.get? b = some o := fun b o e => by rw [hg]; exact Heap.get?_push_of_some _ e
  have hk0 : ∀ b o, s.heap.get? b = some o → h'.get? b = some o := fun b o e => hk b o (kp b o e)
  have hDo : h'.get? s.heap.objs.size = some (LCg.lst []) := hk _ _ (by rw [hg]; exact Heap.get?_push_size _ rfl)
  have neC : ∀ b, b < s.heap.objs.size → b ≠ g.objs.size := fun b e => by rw [hsz]; exact Nat.ne_of_lt (Nat.lt_succ_of_lt e)
  have hDC : s.heap.objs.size ≠ g.objs.size := by rw [hsz]; exact Nat.ne_of_lt (Nat.lt_succ_self _)
  have hfr : H g.objs.size = none := I.hok.fresh (by rw [hsz]; exact Nat.le_succ _)
  have hfD : H s.heap.objs.size = none := I.hok.fresh (Nat.le_refl _)
  have cne : ∀ y c, X.env.cells.lookup y = some c → c < s.heap.objs.size := fun y c e => by
    obtain ⟨v, q⟩ := I.cell y c e
    exact q.lt
  have nst : ∀ b, b ≠ X.env.locals → b ∉ X.fs → b ∉ frs X.stack := fun b h1 h2 z => (List.mem_cons.mp (I.stkSub b z)).elim h1 h2
  have nstD : s.heap.objs.size ∉ frs X.stack := nst _ (Nat.ne_of_gt I.lt) (I.nofs (Nat.le_refl _))
  refine ⟨⟨I.ok.mod, O.kind, I.ok.glob, I.ok.blt, Nat.le_refl _, ?_, ?_, fun _ _ z _ => (by cases z), I.ok.hd, I.ok.frames, .inl rfl, ?_, ?_, ?_, ?_, ?_, ?_, I.stkFree⟩, rfl, I.bare, Un.kept hk, ?_, ?_, hfr, ?_, ?_, I.hok.kept hk0, ?_⟩
  · intro y z c h1 h2
    exact I.ok.inj y z c (O.cells I h1) (O.cells I h2)
  · intro y hy
    have hm : y ∈ fr.map (·.1) := by
      rcases hy with hy | hy
      · exact O.has (y, _) (PySem.mem_of_lookup hy) (.inl rfl)
      · exact O.has (y, _) (PySem.mem_of_lookup hy) (.inr rfl)
    exact ⟨_, lookup_map_some hm⟩
  · intro b hb
    rcases List.mem_cons.mp hb with rfl | hb
    · exact ⟨hDC, fun y c e => Nat.ne_of_lt (cne y c (O.cells I e))⟩
    · exact ⟨neC b (hfs b hb), fun y c e => (hf b hb).2.2.2.2.1 y c (O.cells I e)⟩
  · intro b o e
    exact ⟨kp b o (I.bs b o e).1, (I.bs b o e).2⟩
  · show X.base.objs.size ≤ g.objs.size
    rw [hsz]
    exact Nat.le_succ_of_le (Nat.le_trans I.ok.bsz I.sz)
  · intro b o e hb
    rcases List.mem_cons.mp hb with z | hb
    · have := Heap.lt_size (I.bs b o e).1
      rw [z] at this
      exact Nat.lt_irrefl _ this
    · rcases (hf b hb).2.2.2.1 with z | z
      · exact I.ok.noex b o e z
      · exact absurd (Nat.lt_of_lt_of_le (Heap.lt_size (I.ok.bs b o e).1) z) (Nat.lt_irrefl _)
  · intro b hb
    rcases List.mem_cons.mp hb with z | hb
    · rw [z]; exact nstD
    · exact nst b (hf b hb).2.1 (hf b hb).2.2.1
  · exact (I.kept (h' := g) (t' := s.toks) kp).stack
  · refine ⟨_, hC, fun i y v e1 e2 e3 => ?_⟩
    cases i with
    | zero => cases e2
    | succ k =>
      have e1' : (fr.map (·.1))[k]? = some y := e1
      have e2' : (frOf fr σ)[k]? = some (some v) := e2
      unfold frOf at e2'
      rw [List.getElem?_map] at e1' e2'
      cases q : fr[k]? with
      | none => rw [q] at e1'; cases e1'
      | some p =>
        rw [q] at e1' e2'
        have ey : p.1 = y := Option.some.inj e1'
        have ev : (σ[p.2]?).join = some v := Option.some.inj e2'
        have hp : p ∈ fr := List.mem_of_getElem? q
        obtain ⟨hN, hK⟩ := O.slot p hp
        have hkk := O.frk p hp
        rw [ey] at hN hK hkk
        have ev' : σ[p.2]? = some (some v) := by
          cases q2 : σ[p.2]? with
          | none => rw [q2] at ev; cases ev
          | some w => rw [q2] at ev; exact congrArg some ev
        obtain ⟨m, hn, hl⟩ := I.loc
        obtain ⟨u, r, l⟩ := hl p.2 y v hN ev' (.inr (.inl hK))
        refine ⟨u, r, ?_⟩
        rcases l with ⟨k1, _⟩ | ⟨_, c, ec, z⟩
        · rw [hK] at k1; cases k1
        · have hm : y ∈ fr.map (·.1) := by rw [← ey]; exact List.mem_map.mpr ⟨p, hp, rfl⟩
          have el := lookup_map_some (env := X.env) hm
          rw [ec] at el
          exact .inr ⟨.inl hkk, c, el, by obtain ⟨o, ho, hd⟩ := z; exact ⟨o, hk0 _ _ ho, hd⟩⟩
  · intro y c e
    obtain ⟨v, o, ho, hd⟩ := I.cell y c (O.cells I e)
    exact ⟨v, o, hk0 _ _ ho, hd⟩
  · intro y c e
    exact I.freeC y c (O.cells I e)
  · intro p hp
    rcases List.mem_append.mp hp with hp | hp
    · cases hp
    · rcases List.mem_append.mp hp with hp | hp
      · obtain ⟨e, n, ne, nf, d⟩ := I.pin p hp
        exact ⟨hk0 _ _ e, n, neC _ (Heap.lt_size e), nst _ ne nf, d⟩
      · have ep : p = (s.heap.objs.size, LCg.lst []) := by simpa using hp
        subst ep
        exact ⟨hDo, hfD, hDC, nstD, fun v z => by cases z⟩
  · show (none :: frOf fr σ).length = (x :: fr.map (·.1)).length
    unfold frOf
    simp
/-- from the block's end back to the body around: the list is tracked, the block's names at C may still change -/
theorem inv_comp_end {fp : List Addr} {g : Heap} {s' : Shared} {H' : Hp} {σ' : St} {ys : List V} {us : List Value} (I : Inv X pins σ H s) (hf : ∀ b ∈ fp, FpOk X pins H b) (hg : g = s.heap.push (LCg.lst []))
    (J : Inv (cxComp X scope fr x g.objs.size (s.heap.objs.size :: fp) { s with heap := g } H) (X.pn ++ pins ++ [(s.heap.objs.size, LCg.lst us)]) σ' H' s') (hv : Vals ys us) (hl : ys.length ≤ sizeLine) :
    Inv X pins σ (upd H' s.heap.objs.size (.lst ys)) s' ∧ H' s.heap.objs.size = none ∧ FpOk X pins (upd H' s.heap.objs.size (.lst ys)) g.objs.size ∧ ∃ m, s'.heap.Ns g.objs.size m := by
  have hsz : g.objs.size = s.heap.objs.size + 1 := by rw [hg, Heap.size_push]
  have kp : ∀ b o, s.heap.get? b = some o → g.get? b = some o := fun b o e => by rw [hg]; exact Heap.get?_push_of_some _ e
  obtain ⟨eD, nD, _, _, _⟩ := J.pin (s.heap.objs.size, LCg.lst us) (by simp)
  have hDC : g.objs.size ≠ s.heap.objs.size := by rw [hsz]; exact Nat.ne_of_gt (Nat.lt_succ_self _)
  have nD' : ∀ b u, H' b = some u → b ≠ s.heap.objs.size := fun b u e z => by rw [z] at e; rw [e] at nD; cases nD
  have hx : ∀ b o, s.heap.get? b = some o → b ∉ fp → b ∉ s.heap.objs.size :: fp := fun b o e hb z => by
    rcases List.mem_cons.mp z with z | z
    · have := Heap.lt_size e
      rw [z] at this
      exact Nat.lt_irrefl _ this
    · exact hb z
  have bU : Un (frs X.stack) (s.heap.objs.size :: fp) H H' g s'.heap := J.base
  have ltD : ∀ b o, s.heap.get? b = some o → b ≠ s.heap.objs.size := fun b o e => Nat.ne_of_lt (Heap.lt_size e)
  have un : Un (frs X.stack) fp H (upd H' s.heap.objs.size (.lst ys)) s.heap s'.heap := by
    refine ⟨fun b o e n hb he => bU.keep b o (kp b o e) n hb (hx b o e he), fun b o e n hb he => bU.slot b o (kp b o e) n hb (hx b o e he), fun b o e n he => ?_, fun b o e he => bU.there b o (kp b o e) (hx b o e he), fun b xs e => ?_, fun b o u e => ?_, fun b ps e => ?_⟩
    · rw [upd_ne (ltD b o e)]; exact bU.free b o (kp b o e) n (hx b o e he)
    · have q := bU.tups b xs e
      rw [upd_ne (nD' b _ q)]; exact q
    · have q := bU.frzs b o u e
      rw [upd_ne (nD' b _ q)]; exact q
    · obtain ⟨more, q⟩ := bU.tbls b ps e
      exact ⟨more, by rw [upd_ne (nD' b _ q)]; exact q⟩
  have hok : HOk X.prog X.w (upd H' s.heap.objs.size (.lst ys)) s'.heap := fun b u e => by
    by_cases hb : b = s.heap.objs.size
    · rw [hb, upd_same] at e
      cases e
      rw [hb]
      exact ⟨hl, us, us.length, hv, eD⟩
    · rw [upd_ne hb] at e
      exact (J.hok b u e).stay (fun c v _ q => q) (fun c q => by rw [upd_ne (nD' c _ q)]; exact q) fun c xs q => by rw [upd_ne (nD' c _ q)]; exact q
  have os : s'.os = s.os := J.os
  refine ⟨I.call' os un hok J.bare fun b hb => ⟨(hf b hb).2.2.2.1, (hf b hb).2.1, (hf b hb).2.2.2.2⟩, nD, ?_, ?_⟩
  · refine I.fpOk (H' := upd H' s.heap.objs.size (.lst ys)) (b := g.objs.size) (by rw [hsz]; exact Nat.le_succ _) ?_
    rw [upd_ne hDC]
    exact J.free
  · obtain ⟨m, hn, _⟩ := J.loc
    exact ⟨m, hn⟩
end
/-- the reading: W by the turn, a measure, the items so far, the heap -/
def tCompR (te : TE) (fv : St) (J : It) (H1 : Hp) (QQ : List V → Hp → Prop) : Prop :=
  ∃ W : Nat → Nat → List V → Hp → Prop, (∃ m, W 0 m [] H1) ∧ ∀ i m ys H, W i m ys H → ys.length ≤ sizeLine ∧
    ((J.stop i H ∧ QQ ys H) ∨ (J.go i H ∧ ∃ N : V → Hp → Prop, (∀ y H2, N y H2 → ∃ m', m' < m ∧ W (i + 1) m' (ys ++ [y]) H2) ∧ ∀ x H', J.yld i H x H' → te (some x :: fv) H' N))
section
variable {X : Cx} {scope : Scope} {fr : List (Str × Nat)} {x : Str} {elt iter : Expr} {px pos : Pos} {te : TE} {wi : TI}
theorem comp_core {pins : List (Addr × Obj)} {σ : St} {H : Hp} {s : Shared} {E : Value → Shared → Prop} {it : Addr} {fp : List Addr} {tn : Nat → Heap → Prop} {J : It} {RR : Value → Addr → Result → Shared → Prop} {QQ : List V → Hp → Prop} (hc : X.calm = true) (O : CompOk X scope fr x)
    (he : ∀ C ex s H, PE (cxComp X scope fr x C ex s H) elt te) (I : Inv X pins σ H s) (T : Turn X.prog X.w X.K (.Name x px) J fp it tn) (st : tn 0 s.heap) (hf : ∀ b ∈ fp, FpOk X pins H b) (hq : tCompR te (frOf fr σ) J H QQ)
    (fin : ∀ D C H4 ys s4 m, Inv X pins σ (upd H4 D (.lst ys)) s4 → H4 D = none → FpOk X pins (upd H4 D (.lst ys)) C → s4.heap.Ns C m → QQ ys H4 → RR (.ref D) C (.ok .next) s4) :
    wpAny (model X.prog X.w) X.A (newList []) (fun acc s₃ => wpAny (model X.prog X.w) X.A (newFunctionEnv scope X.env.globals (clOf X.env fr) [] X.env.qual none .none (some X.env)) (fun cenv s₄ =>
      codeAny (model X.prog X.w) X.A (.compStart (.ListComp elt [⟨.Name x px, iter, [], 0⟩] scope pos) 0 (.ref it) acc { cenv with scope := relabel scope X.env }) (RR acc cenv.locals) s₄) E s₃) E s := by
  obtain ⟨W, ⟨m0, w0⟩, turn⟩ := hq
  have hfs : ∀ b ∈ fp, b < s.heap.objs.size := fun b hb => by
    obtain ⟨o, e, _⟩ := T.obj 0 s.heap st b hb
    exact Heap.lt_size e
  refine wpAny_newObj_type (wpAny_newFunctionEnv O.cell (by intro y hy; simp at hy) (fun h₁ hns₁ hsb₁ => ?_) O.kind)
  dsimp only at hns₁ hsb₁ ⊢
  generalize hH2 : s.heap.push { cls := .type "list", dict := none, data := .seq ([] : List Value).toArray } = g at hns₁ hsb₁ ⊢
  have hg : g = s.heap.push (LCg.lst []) := hH2.symm
  have hsz : g.objs.size = s.heap.objs.size + 1 := by rw [hg, Heap.size_push]
  have hk : ∀ b o, g.get? b = some o → h₁.get? b = some o := fun b o e => hsb₁.extBut b o (Nat.ne_of_lt (Heap.lt_size e)) (Heap.get?_push_of_some _ e)
  have kp : ∀ b o, s.heap.get? b = some o → h₁.get? b = some o := fun b o e => hk b o (by rw [hg]; exact Heap.get?_push_of_some _ e)
  have J0 := inv_comp (h' := h₁) (tk := s.toks + ([] : List (Str × Value)).length) O I hf hfs hg hk hns₁
  have stat : ∀ {H' : Hp} {us : List Value}, (∀ b ∈ fp, H' b = none) → ∀ b ∈ fp, FpOk (cxComp X scope fr x g.objs.size (s.heap.objs.size :: fp) { s with heap := g } H) (X.pn ++ pins ++ [(s.heap.objs.size, LCg.lst us)]) H' b := fun {H' us} hn b hb => by
    obtain ⟨_, f1, f2, f3, f4, f5⟩ := hf b hb
    refine ⟨hn b hb, ?_, fun z => (List.mem_cons.mp (I.stkSub b z)).elim f1 f2, .inl (List.mem_cons_of_mem _ hb), fun y c e => f4 y c (O.cells I e), fun p hp => ?_⟩
    · show b ≠ g.objs.size
      rw [hsz]; exact Nat.ne_of_lt (Nat.lt_succ_of_lt (hfs b hb))
    · rcases List.mem_append.mp hp with hp | hp
      · cases hp
      · rcases List.mem_append.mp hp with hp | hp
        · exact f5 p hp
        · have ep : p = (s.heap.objs.size, LCg.lst us) := by simpa using hp
          rw [ep]
          exact Nat.ne_of_gt (hfs b hb)
  have loop : codeAny (model X.prog X.w) X.A (.compLoop (.ListComp elt [⟨.Name x px, iter, [], 0⟩] scope pos) 0 (.ref it) (.ref s.heap.objs.size) (compEnvC scope (clOf X.env fr) g.objs.size X.env))
      (RR (.ref s.heap.objs.size) g.objs.size) { s with heap := h₁, toks := s.toks + ([] : List (Str × Value)).length } := by
    refine codeAny_compLoop_tests (fun n s' => ∃ i ys us H', Inv (cxComp X scope fr x g.objs.size (s.heap.objs.size :: fp) { s with heap := g } H) (X.pn ++ pins ++ [(s.heap.objs.size, LCg.lst us)]) (none :: frOf fr σ) H' s' ∧ Vals ys us ∧ tn i s'.heap ∧ (∀ b ∈ fp, H' b = none) ∧ W i n ys H') ?_ m0
      ⟨0, [], [], H, J0, .nil, T.keep 0 s.heap h₁ st fun b _ o e => kp b o e, fun b hb => (hf b hb).1, w0⟩
    rintro n s3 ⟨i, ys, us, H3, J3, hv, st3, fr3, w3⟩
    obtain ⟨hlen, hh⟩ := turn i n ys H3 w3
    have none_err : ∀ {α : Type} {t : Sem α} {Q : α → Shared → Prop} {E' : Value → Shared → Prop} {s : Shared}, wpAny (model X.prog X.w) X.A t Q (fun _ _ => False) s → wpAny (model X.prog X.w) X.A t Q E' s := fun h => wpAny_mono h (fun _ _ q => q) fun _ _ z => z.elim
    rcases hh with ⟨stop, qn⟩ | ⟨go, N, hN, step⟩
    · refine none_err (thn (T.done (cxComp X scope fr x g.objs.size (s.heap.objs.size :: fp) { s with heap := g } H) rfl rfl rfl hc i _ s3 _ H3 _ J3 (stat fr3) st3 stop) fun r s4 ⟨hr, J4⟩ => ?_)
      subst hr
      obtain ⟨I4, nD, fC, m, hn⟩ := inv_comp_end I hf hg J4 hv hlen
      exact fin _ _ H3 ys s4 m I4 nD fC hn qn
    · refine none_err (thn (T.item (cxComp X scope fr x g.objs.size (s.heap.objs.size :: fp) { s with heap := g } H) rfl rfl rfl hc i _ s3 _ H3 _ J3 (stat fr3) st3 go) fun r s4 ⟨u, hr, h4⟩ => ?_)
      subst hr
      have h4' := wpAny_bind (f := fun _ => assign (.Name x px) (compEnvC scope (clOf X.env fr) g.objs.size X.env) u) (thn h4 (Q' := fun _ s5 => wpAny (model X.prog X.w) X.A (assign (.Name x px) (compEnvC scope (clOf X.env fr) g.objs.size X.env) u) (fun _ s6 => ∃ (σ6 : St) (H6 : Hp) (v : V) (s5' : Shared) (H5 : Hp), Inv (cxComp X scope fr x g.objs.size (s.heap.objs.size :: fp) { s with heap := g } H) (X.pn ++ pins ++ [(s.heap.objs.size, LCg.lst us)] ++ pinsAt fp s5'.heap) σ6 H6 s6 ∧ σ6 = some v :: frOf fr σ ∧ H6 = H5 ∧ J.yld i H3 v H5 ∧ tn (i + 1) s5'.heap) (fun _ _ => False) s5) fun _ s5 ⟨v, H5, J5, r5, y5, st5, fr5⟩ => by
        have J5' := J5.pinned (stat fr5) (T.obj _ _ st5)
        have hNd : (cxComp X scope fr x g.objs.size (s.heap.objs.size :: fp) { s with heap := g } H).N.Nodup := O.nd
        have hxl : (cxComp X scope fr x g.objs.size (s.heap.objs.size :: fp) { s with heap := g } H).env.scope.names.lookup x = some .local := lookup_relabel_local O.xl
        exact thn (pg_name (X := cxComp X scope fr x g.objs.size (s.heap.objs.size :: fp) { s with heap := g } H) (i := 0) hNd rfl (.inl hxl) (.inr hxl) _ s5 _ H5 v u (fun σ6 H6 => σ6 = some v :: frOf fr σ ∧ H6 = H5) J5' r5 ⟨rfl, rfl⟩) fun _ s6 ⟨σ6, H6, J6, e6, e7⟩ => ⟨σ6, H6, v, s5, H5, J6, e6, e7, y5, st5⟩)
      refine none_err (thn h4' fun _ s6 ⟨σ6, H6, v, s5, H5, J6, e6, e7, y5, st5⟩ => ?_)
      subst e6 e7
      refine wpAny_tests_nil ?_
      rw [if_pos rfl]
      refine none_err (thn (he _ _ _ _ _ s6 _ H6 _ J6 (step v H6 y5)) fun u7 s7 ⟨v7, H7, J7, r7, q7⟩ => ?_)
      obtain ⟨m', hm, w7⟩ := hN v7 H7 q7
      obtain ⟨eD, nD, dC, dF, dd⟩ := J7.pin (s.heap.objs.size, LCg.lst us) (List.mem_append_right _ (List.mem_append_left _ (List.mem_append_right _ (by simp))))
      have hvl := hv.length
      refine append_at (hsz := by show us.toArray.size ≤ sizeLine; rw [List.size_toArray, ← hvl]; exact hlen) eD fun h8 hs8 hD8 => ?_
      have pinD : ∀ p ∈ X.pn ++ pins, p.1 ≠ s.heap.objs.size := fun p hp z => by
        have := Heap.lt_size (I.pin p hp).1
        rw [z] at this
        exact Nat.lt_irrefl _ this
      have J7a : Inv (cxComp X scope fr x g.objs.size (s.heap.objs.size :: fp) { s with heap := g } H) (X.pn ++ pins) _ H7 s7 := J7.pins_of fun p hp => J7.pin p (List.mem_append_right _ (List.mem_append_left _ (List.mem_append_left _ hp)))
      have J8 : Inv (cxComp X scope fr x g.objs.size (s.heap.objs.size :: fp) { s with heap := g } H) (X.pn ++ pins) _ H7 { s7 with heap := h8 } := J7a.turned (t' := s7.toks) (fun b o hb e => (hs8.2 b hb).trans e) nD dC (.inl List.mem_cons_self) (fun y c e z => by
        obtain ⟨w', q⟩ := I.cell y c (O.cells I e)
        have := q.lt
        rw [z] at this
        exact Nat.lt_irrefl _ this) (fun p hp => (List.mem_append.mp hp).elim (fun z => by cases z) (pinD p))
      have J9 : Inv (cxComp X scope fr x g.objs.size (s.heap.objs.size :: fp) { s with heap := g } H) (X.pn ++ pins ++ [(s.heap.objs.size, LCg.lst (us ++ [u7]))]) _ H7 { s7 with heap := h8 } := J8.pins_of fun p hp => by
        rcases List.mem_append.mp hp with hp | hp
        · exact J8.pin p (List.mem_append_right _ hp)
        · have ep : p = (s.heap.objs.size, LCg.lst (us ++ [u7])) := by simpa using hp
          subst ep
          exact ⟨hD8.trans (congrArg some (LCg.lst_snoc us u7)), nD, dC, dF, fun v z => by cases z⟩
      have J10 := J9.weak (σ' := none :: frOf fr σ) rfl fun i v e => by
        cases i with
        | zero => cases e
        | succ k => exact e
      have pinF : ∀ b ∈ fp, ∀ o, s5.heap.get? b = some o → s7.heap.get? b = some o ∧ H7 b = none := fun b hb o e => by
        obtain ⟨q1, q2, _⟩ := J7.pin (b, o) (List.mem_append_right _ (List.mem_append_right _ (mem_pinsAt hb e)))
        exact ⟨q1, q2⟩
      refine ⟨m', hm, i + 1, ys ++ [v7], us ++ [u7], H7, J10, hv.append (.cons r7 .nil), T.keep _ _ _ st5 fun b hb o e => (hs8.2 b (Nat.ne_of_lt (hfs b hb))).trans (pinF b hb o e).1, fun b hb => ?_, w7⟩
      obtain ⟨o, e, _⟩ := T.obj _ _ st5 b hb
      exact (pinF b hb o e).2
  exact codeAny_compStart_list loop (T.self X.A 0 _ _ _ (T.keep 0 s.heap h₁ st fun b _ o e => kp b o e) loop)
/-- [elt for x in iter] -/
def tComp (wi : TI) (te : TE) (fr : List (Str × Nat)) : TE := fun σ H Q => wi σ H fun J H1 => tCompR te (frOf fr σ) J H1 fun ys H2 => ∀ D, H2 D = none → Q (.ref D) (upd H2 D (.lst ys))
theorem pe_comp (hc : X.calm = true) (O : CompOk X scope fr x) (hi : PI X (.Name x px) iter wi) (he : ∀ C ex s H, PE (cxComp X scope fr x C ex s H) elt te) (hs : ∀ x, foldedSetIterable iter X.env x = pure x := by intro _; rfl) :
    PE X (.ListComp elt [⟨.Name x px, iter, [], 0⟩] scope pos) (tComp wi te fr) := by
  intro pins s σ H Q I h
  rw [eval_ListComp]
  refine wpAny_comprehension_free (use := none) rfl hs O.clos O.kind O.names (thn (hi pins s σ H _ I h) fun xv s1 h1 => thn h1 fun itv s2 h2 => ?_)
  obtain ⟨it, fp, tn, J, H2, e, I2, T, st2, f2, q2⟩ := h2
  subst e
  refine comp_core (RR := fun acc C => compPost (model X.prog X.w) X.A X.xe none (EP X pins σ Q) acc C) hc O he I2 T st2 f2 q2 ?_
  intro D C H4 ys s4 m I4 nD fC hn q4
  refine ⟨m, hn, fun h' hs' => ?_⟩
  obtain ⟨g0, g1, g2, g3, g4, g5⟩ := fC
  exact ⟨.ref D, _, I4.turned (t' := s4.toks) (fun b o hb e => (hs'.2 b hb).trans e) g0 g1 g3 g4 g5, rfl, q4 D nD⟩
/-- y = [elt for x in iter], y a plain local name -/
def tAsgComp (i : Nat) (wi : TI) (te : TE) (fr : List (Str × Nat)) : TS := fun D σ H => wi σ H fun J H1 => tCompR te (frOf fr σ) J H1 fun ys H2 => ∀ a, H2 a = none → D.nx (σ.set i (some (.ref a))) (upd H2 a (.lst ys))
theorem ps_setComp {i : Nat} {y : Str} {py spos : Pos} (hc : X.calm = true) (hN : X.N.Nodup) (hi' : X.N[i]? = some y) (hy : X.env.scope.names.lookup y = some .local) (O : CompOk X scope fr x) (hi : PI X (.Name x px) iter wi) (he : ∀ C ex s H, PE (cxComp X scope fr x C ex s H) elt te)
    (hsw : swapsWith (.ListComp elt [⟨.Name x px, iter, [], 0⟩] scope pos) (some (.Name y py)) spos.line X.env = pure true := by rfl) (hs : ∀ x, foldedSetIterable iter X.env x = pure x := by intro _; rfl) :
    PS X (.Assign [.Name y py] (.ListComp elt [⟨.Name x px, iter, [], 0⟩] scope pos) spos) (tAsgComp i wi te fr) := by
  intro pins s σ H D I h
  rw [exec_Assign_Name_used _ _ _ _ hsw]
  refine wpAny_bind (wpAny_standAt (wpAny_bind ?_))
  show wpAny _ X.A (do let _ ← comprehension (.ListComp elt [⟨.Name x px, iter, [], 0⟩] scope pos) scope X.env _ (newList []) false (eval iter X.env) (some (assign (.Name y py) X.env))) _ _ s
  refine wpAny_bind (thn (wpAny_comprehension_free (use := some (assign (.Name y py) X.env)) (Q := fun _ s' => SP X pins D .next s') rfl hs O.clos O.kind O.names (thn (hi pins s σ H _ I h) fun xv s1 h1 => thn h1 fun itv s2 h2 => ?_)) fun _ s' hq => wpAny_pure (wpAny_pure hq))
  obtain ⟨it, fp, tn, J, H2, e, I2, T, st2, f2, q2⟩ := h2
  subst e
  refine comp_core (RR := fun acc C => compPost (model X.prog X.w) X.A X.xe (some (assign (.Name y py) X.env)) (fun _ s' => SP X pins D .next s') acc C) hc O he I2 T st2 f2 q2 ?_
  intro a C H4 ys s4 m I4 nD fC hn q4
  obtain ⟨g0, g1, g2, g3, g4, g5⟩ := fC
  obtain ⟨oC, eC, hoC⟩ := LCg.ns_obj hn
  have I5 : Inv X (pins ++ [(C, oC)]) σ (upd H4 a (.lst ys)) s4 := I4.pins_of fun p hp => by
    rcases List.mem_append.mp hp with hp | hp
    · exact I4.pin p (List.mem_append_right _ hp)
    · have ep : p = (C, oC) := by simpa using hp
      subst ep
      obtain ⟨es, epp, hd, _⟩ := hoC
      exact ⟨eC, g0, g1, g2, fun v z => by rw [hd] at z; cases z⟩
  show wpAny _ X.A (assign (.Name y py) X.env (.ref a)) _ _ _
  refine wpAny_assign_Name (store_ok I5 hN hi' (.inl hy) (v := .ref a) rfl (fun s6 I6 => ?_) (.inr hy))
  obtain ⟨e6, _⟩ := I6.pin (C, oC) (List.mem_append_right _ (List.mem_append_right _ (by simp)))
  refine ⟨m, hoC.ns e6, fun h' hs' => ?_⟩
  exact ⟨_, _, I6.unpinned.turned (t' := s6.toks) (fun b o hb e => (hs'.2 b hb).trans e) g0 g1 g3 g4 g5, q4 a nD⟩
end
/-! ### the forms one uses -/
/-- over a list that stays as it is -/
theorem comp_list {K : PySem.W.Frag} {a : Addr} {xs : List V} {te : TE} {fv : St} {H1 : Hp} {QQ : List V → Hp → Prop} (Pv : Nat → List V → Hp → Prop) (hz : xs.length ≤ sizeLine) (h0 : Pv 0 [] H1) (hl : ∀ i ys H, i ≤ xs.length → Pv i ys H → SqL K H a xs)
    (hs : ∀ i x ys H, xs[i]? = some x → Pv i ys H → te (some x :: fv) H fun y H2 => Pv (i + 1) (ys ++ [y]) H2) (hd : ∀ ys H, ys.length = xs.length → Pv xs.length ys H → QQ ys H)
    : tCompR te fv (Itl K a) H1 QQ := by
  refine ⟨fun i m ys H => m = xs.length - i ∧ i ≤ xs.length ∧ ys.length = i ∧ Pv i ys H, ⟨xs.length, by simp, Nat.zero_le _, rfl, h0⟩, ?_⟩
  rintro i m ys H ⟨rfl, hi, hy, p⟩
  have q := hl i ys H hi p
  refine ⟨by omega, ?_⟩
  by_cases hlt : i < xs.length
  · refine .inr ⟨⟨xs, xs[i], q, by simp [hlt]⟩, fun y H2 => Pv (i + 1) (ys ++ [y]) H2, fun y H2 p2 => ⟨xs.length - (i + 1), by omega, rfl, hlt, by rw [List.length_append, hy]; rfl, p2⟩, fun x H' y => ?_⟩
    obtain ⟨e, y⟩ := y
    subst e
    exact hs i x ys _ (y xs q) p
  · have e : i = xs.length := by omega
    subst e
    exact .inl ⟨⟨xs, q, Nat.le_refl _⟩, hd ys H hy p⟩
theorem comp_range {lo : Int} {n : Nat} {te : TE} {fv : St} {H1 : Hp} {QQ : List V → Hp → Prop} (Pv : Nat → List V → Hp → Prop) (hz : n ≤ sizeLine) (h0 : Pv 0 [] H1)
    (hs : ∀ i ys H, i < n → Pv i ys H → te (some (.int (lo + i)) :: fv) H fun y H2 => Pv (i + 1) (ys ++ [y]) H2) (hd : ∀ ys H, ys.length = n → Pv n ys H → QQ ys H)
    : tCompR te fv (Itr lo n) H1 QQ := by
  refine ⟨fun i m ys H => m = n - i ∧ i ≤ n ∧ ys.length = i ∧ Pv i ys H, ⟨n, by simp, Nat.zero_le _, rfl, h0⟩, ?_⟩
  rintro i m ys H ⟨rfl, hi, hy, p⟩
  refine ⟨by omega, ?_⟩
  by_cases hlt : i < n
  · refine .inr ⟨hlt, fun y H2 => Pv (i + 1) (ys ++ [y]) H2, fun y H2 p2 => ⟨n - (i + 1), by omega, rfl, hlt, by rw [List.length_append, hy]; rfl, p2⟩, fun x H' y => ?_⟩
    obtain ⟨e, y⟩ := y
    subst e y
    exact hs i ys _ hlt p
  · have e : i = n := by omega
    subst e
    exact .inl ⟨Nat.le_refl _, hd ys H hy p⟩
end L2

namespace L2
open PySem PySem.Spec PyProof.Rows
theorem bt_int : bootBuiltins "int" = some (.type "int") := by decide +kernel
theorem bt_bool : bootBuiltins "bool" = some (.type "bool") := by decide +kernel
theorem bt_list : bootBuiltins "list" = some (.type "list") := by decide +kernel
theorem bt_tuple : bootBuiltins "tuple" = some (.type "tuple") := by decide +kernel
theorem bt_len : bootBuiltins "len" = some (.builtin "len") := by decide +kernel
theorem bt_isinstance : bootBuiltins "isinstance" = some (.builtin "isinstance") := by decide +kernel
theorem bt_reversed : bootBuiltins "reversed" = some (.type "reversed") := by decide +kernel
theorem bt_enumerate : bootBuiltins "enumerate" = some (.type "enumerate") := by decide +kernel
/-! ### a callee, all that a call asks -/
structure Cal (P : Program) (w : World) (K : PySem.W.Frag) (mg : Str → Option Value) (base : Heap) (k : Nat) (x : Str) (ps : List Str) (sp : Sp) (f : Addr) (fd : FuncData) : Prop where
  ok : FnOk P w K mg base CX0 k f fd ps sp
  bn : Binds K fd ps []
  mg : mg x = some (.ref f)
  kp : PySem.W.keepIn K (.ref f) = true
/-! ### a block by what one asks of it -/
theorem pss_imp {X : Cx} {sts : List Stmt} {t t2 : TS} (h : PSs X sts t) (i : ∀ D σ H, t2 D σ H → t D σ H) : PSs X sts t2 := fun pins s σ H D I q => h pins s σ H D I (i D σ H q)
/-! ### isinstance(x, c), c one class -/
section
variable {X : Cx}
def rIsi (K : PySem.W.Frag) : List V → Hp → VK → Prop := fun xs H Q => ∃ x c t b u, xs = [x, c] ∧ TyOf K H x t ∧ ((∃ n, c = .ty n ∧ u = Value.type n) ∨ ∃ a, c = .ref a ∧ u = Value.ref a) ∧ PySem.W.kitOne K t u = some b ∧ Q (.bl b) H
theorem call_isi : CallR X (.builtin "isinstance") (rIsi X.K) := by
  intro pins s σ H xs us Q I r h
  obtain ⟨x, c, t, b, u, rfl, ty, hu, e, q⟩ := h
  obtain ⟨v1, v2, rfl, r1, r2⟩ := vals2 r
  have e2 : v2 = u := by
    rcases hu with ⟨n, rfl, rfl⟩ | ⟨a, rfl, rfl⟩
    · exact r2
    · exact r2
  subst e2
  exact isinst_ok I r1 ty e fun tk => ⟨.bl b, H, I.tok tk, rfl, q⟩
theorem kit_ii (K : PySem.W.Frag) : PySem.W.kitOne K (.type "int") (.type "int") = some true := by with_unfolding_all rfl
theorem kit_ib (K : PySem.W.Frag) : PySem.W.kitOne K (.type "int") (.type "bool") = some false := by with_unfolding_all rfl
theorem kit_tt (K : PySem.W.Frag) : PySem.W.kitOne K (.type "tuple") (.type "tuple") = some true := by with_unfolding_all rfl
end
/-! ### == of two things that hold the same data: lists and tuples of ints, bools, texts, at any depth -/
inductive RdD (K : PySem.W.Frag) (H : Hp) : V → PyData → Prop where
  | non : RdD K H .non .none
  | bl (b : Bool) : RdD K H (.bl b) (.bool b)
  | int (i : Int) : RdD K H (.int i) (.int i)
  | lst {a : Addr} {xs : List V} {ds : List PyData} (h : SqL K H a xs) (hl : xs.length = ds.length) (r : ∀ (i : Nat) (x : V) (d : PyData), xs[i]? = some x → ds[i]? = some d → RdD K H x d) : RdD K H (.ref a) (.list ds)
  | tup {a : Addr} {xs : List V} {ds : List PyData} (h : SqT K H a xs) (hl : xs.length = ds.length) (r : ∀ (i : Nat) (x : V) (d : PyData), xs[i]? = some x → ds[i]? = some d → RdD K H x d) : RdD K H (.ref a) (.tuple ds)
theorem readsAll_of {h : Heap} : ∀ {xs : List V} {us : List Value} {ds : List PyData}, Vals xs us → xs.length = ds.length → (∀ (i : Nat) x d, xs[i]? = some x → ds[i]? = some d → ∀ u, RelV x u → ∃ as, Reads h u d as) → ∃ as, ReadsAll h us ds as
  | _, _, [], .nil, _, _ => ⟨_, .nil⟩
  | _, _, _ :: _, .nil, e, _ => by cases e
  | _, _, [], .cons _ _, e, _ => by cases e
  | _, _, d :: ds, .cons r rr, e, k => by
    obtain ⟨a1, q1⟩ := k 0 _ d rfl rfl _ r
    obtain ⟨a2, q2⟩ := readsAll_of rr (Nat.succ.inj e) fun i x d' e1 e2 => k (i + 1) x d' e1 e2
    exact ⟨_, .cons q1 q2⟩
section
variable {X : Cx}
theorem RdD.reads {pins : List (Addr × Obj)} {σ : St} {H : Hp} {s : Shared} (I : Inv X pins σ H s) {x : V} {d : PyData} (r : RdD X.K H x d) : ∀ u, RelV x u → ∃ as, Reads s.heap u d as := by
  induction r with
  | non => intro u hu; cases hu; exact ⟨_, .none⟩
  | bl b => intro u hu; cases hu; exact ⟨_, .bool b⟩
  | int i => intro u hu; obtain ⟨t, rfl⟩ := hu; exact ⟨_, .int i t⟩
  | lst h hl r ih =>
    intro u hu
    cases hu
    obtain ⟨its, rv, p, _⟩ := I.list h
    obtain ⟨as, q⟩ := readsAll_of (h := s.heap) rv hl ih
    obtain ⟨o, n, e, c, _, d⟩ := p
    exact ⟨_, .list e c d (by simpa using q)⟩
  | tup h hl r ih =>
    intro u hu
    cases hu
    obtain ⟨its, rv, p, _⟩ := I.tuple h
    obtain ⟨as, q⟩ := readsAll_of (h := s.heap) rv hl ih
    obtain ⟨o, e, c, n, d⟩ := p
    exact ⟨_, .tuple e c d (by simpa using q)⟩
def rSame (b : Bool) (K : PySem.W.Frag) : R2 := fun x y H Q => ∃ d, RdD K H x d ∧ RdD K H y d ∧ SeqAt.shaped d = true ∧ Q (.bl b) H
theorem op_neD (hu : X.A.units + 64 < cLine) : OpR X (compareOp .NotEq) (rSame false X.K) := by
  intro pins s σ H x y v u Q I rx ry h
  obtain ⟨d, r1, r2, hs, q⟩ := h
  obtain ⟨as, q1⟩ := r1.reads I v rx
  obtain ⟨bs, q2⟩ := r2.reads I u ry
  refine ne_dataH q1 q2 hs hs hu ?_
  rw [SeqAt.eqv_refl d (SeqAt.canLay_of_shaped hs)]
  exact ⟨.bl false, H, I, rfl, q⟩
end
/-! ### range(a, b, c), c above nought -/
section
variable {X : Cx} {tg : Expr}
end
end L2

namespace L2
open PySem PySem.Spec PyProof.Rows
/-! ## exceptions of own classes: raised, passed on, caught -/
section
variable {P : Program} {w : World} {H : Hp} {h : Heap} {a : Addr} {o : HO}
theorem ObjOk.get (x : ObjOk P w H h a o) : ∃ ob, h.get? a = some ob := by
  cases o with
  | lst xs => obtain ⟨_, _, _, _, e⟩ := x; exact ⟨_, e⟩
  | tup xs => obtain ⟨_, _, _, ob, e, _⟩ := x; exact ⟨_, e⟩
  | dK kvs => obtain ⟨_, _, _, _, o, _, _, e, _⟩ := x; exact ⟨_, e⟩
  | dT kvs => obtain ⟨_, _, _, _, o, _, _, e, _⟩ := x; exact ⟨_, e⟩
  | set S n => obtain ⟨o, _, _, _, e, _⟩ := x; exact ⟨_, e⟩
  | ins C dx fs => obtain ⟨_, _, _, e, _⟩ := x; exact ⟨_, e⟩
  | own y => exact x
  | xd fs => obtain ⟨_, ⟨_, _, _, e, _⟩, _⟩ := x; exact ⟨_, e⟩
  | rng lo hi => obtain ⟨_, _, _, e⟩ := x; exact ⟨_, e⟩
  | frz ob u => exact ⟨_, x.1⟩
  | tbl ps => exact ⟨_, (show h.get? a = some _ from x)⟩
  | met f y => exact ⟨_, (show h.get? a = some _ from x)⟩
  | ext φ => exact x.2.1
theorem HOk.none_of (x : HOk P w H h) (e : h.get? a = none) : H a = none := by
  cases q : H a with
  | none => rfl
  | some u =>
    obtain ⟨ob, z⟩ := (x a u q).get
    rw [e] at z
    cases z
end

/-- an object of nobody: not there at the entry, not tracked, no frame, no cell, no pin -/
structure XOk (X : Cx) (pins : List (Addr × Obj)) (H : Hp) (b : Addr) : Prop where
  old : X.s₀.heap.get? b = none
  trk : H b = none
  nl : b ≠ X.env.locals
  nc : ∀ x c, X.env.cells.lookup x = some c → c ≠ b
  np : ∀ p ∈ X.pn ++ pins, p.1 ≠ b
section
variable {X : Cx} {pins : List (Addr × Obj)} {σ : St} {H H' : Hp} {s s' : Shared} {b : Addr}
/-- what is not there is nobody's -/
theorem Inv.xok (I : Inv X pins σ H s) (hx : X.ex = []) (e : s.heap.get? b = none) (n : H' b = none) : XOk X pins H' b := by
  refine ⟨?_, n, fun z => ?_, fun x c q z => ?_, fun p hp z => ?_⟩
  · cases q : X.s₀.heap.get? b with
    | none => rfl
    | some o =>
      obtain ⟨o', e'⟩ := I.base.there b o q (by rw [hx]; simp)
      rw [e] at e'
      cases e'
  · obtain ⟨m, ⟨o, _, _, ho, _⟩, _⟩ := I.loc
    rw [z, ho] at e
    cases e
  · obtain ⟨v, o, ho, _⟩ := I.cell x c q
    rw [z, e] at ho
    cases ho
  · have := (I.pin p hp).1
    rw [z, e] at this
    cases this
/-- an object of nobody is tracked -/
theorem Inv.xtrack {a : Addr} {o : HO} (I : Inv X pins σ H s) (f : XOk X pins H a) (new : ObjOk X.prog X.w (upd H a o) s.heap a o) : Inv X pins σ (upd H a o) s := by
  have ne : ∀ b u, H b = some u → b ≠ a := fun b u e => ne_of_none e f.trk
  have nb : ∀ b u, s.heap.get? b = some u → b ≠ a → H b = none → upd H a o b = none := fun b u _ n q => by rw [upd_ne n]; exact q
  refine ⟨I.ok, I.os, I.bare, ⟨I.base.keep, I.base.slot, fun b ob e n hx => ?_, I.base.there, fun b xs e => ?_, fun b ob xs e => ?_, fun b ps e => ?_⟩, I.loc, I.cell, ?_, fun x c e => ?_, fun p hp => ?_, fun b u e => ?_, I.len⟩
  · rw [upd_ne (fun z => by rw [z, f.old] at e; cases e)]
    exact I.base.free b ob e n hx
  · have := I.base.tups b xs e
    rw [upd_ne (ne _ _ this)]
    exact this
  · have := I.base.frzs b ob xs e
    rw [upd_ne (ne _ _ this)]
    exact this
  · obtain ⟨m, q⟩ := I.base.tbls b ps e
    exact ⟨m, by rw [upd_ne (ne _ _ q)]; exact q⟩
  · rw [upd_ne (Ne.symm f.nl)]
    exact I.free
  · rw [upd_ne (f.nc x c e)]
    exact I.freeC x c e
  · obtain ⟨e, n, r⟩ := I.pin p hp
    exact ⟨e, by rw [upd_ne (f.np p hp)]; exact n, r⟩
  · by_cases hb : b = a
    · rw [hb, upd_same] at e
      cases e
      rw [hb]
      exact new
    · rw [upd_ne hb] at e
      exact (I.hok b u e).stay (fun c v _ q => q) (fun c q => by rw [upd_ne (ne c _ q)]; exact q) fun c xs q => by rw [upd_ne (ne c _ q)]; exact q
end

section
variable {X : Cx} {pins : List (Addr × Obj)} {σ : St} {H : Hp} {s : Shared} {x : Addr} {C : Value} {E : Value → Shared → Prop}
end


section
variable {X : Cx} {k : Nat} {f C : Addr} {fd : FuncData} {ps : List Str} {sp : Sp} {dvs : List V} {ds : List Value} {W : WK} {x m : Str} {p pos apos : Pos} {e o : Expr} {es : List Expr} {ta : TE} {t : TA}
end
end L2

namespace L2
open PySem PySem.Spec PyProof.Rows
/-! ## exceptions, second part: raise, try, what was caught -/
section
variable {X : Cx} {pins : List (Addr × Obj)} {σ : St} {H : Hp} {s : Shared} {x : Addr} {C : Value}
end
section
variable {M : Model} {A : Around} {E : Value → Shared → Prop} {h : Heap} {g : Array GenState} {d : Drawn} {t : Nat} {os : OsState}
end
section
variable {X : Cx} {pins pins' : List (Addr × Obj)} {σ : St} {H : Hp} {s : Shared} {E : Value → Shared → Prop} {b : Addr}
end
section
variable {X : Cx} {k : Nat} {f : Addr} {fd : FuncData} {ps : List Str} {sp : Sp} {dvs : List V} {ds : List Value} {W : WK} {x : Str} {p pos : Pos} {e : Expr} {es : List Expr} {t : TA}
end
/-! ### isinstance of what was caught, of its very class -/
end L2
namespace L2
open PySem PySem.Spec PyProof.Rows
end L2

namespace L2
open PySem PySem.Spec PyProof.Rows
section
variable {prog : Program} {w : World} {A : Around} {E : Value → Shared → Prop} {s : Shared}
theorem lri_nolen : typeLookup (.type "list_reverseiterator") "__len__" = pure none := by rw [typeLookup_type, builtinLookup_eq_fast]; kernel_rfl
theorem lri_hint : typeLookup (.type "list_reverseiterator") "__length_hint__" = pure (some (.builtin "list_reverseiterator.__length_hint__")) := by rw [typeLookup_type, builtinLookup_eq_fast]; kernel_rfl
theorem hint_rev {r : Addr} {Q : Bool → Shared → Prop} (hT : s.TypeIs (.ref r) "list_reverseiterator") (h : Q false s) : wpAny (model prog w) A (Builtin.List.listLengthHint (.ref r)) Q E s := by
  unfold Builtin.List.listLengthHint
  refine wpAny_bind (wpAny_specialOf hT lri_nolen ?_)
  wp_delta
  refine wpAny_ite_split (fun hab => absurd hab (by decide)) (fun _ => ?_)
  refine wpAny_ite_split (fun hab => absurd hab (by decide)) (fun _ => ?_)
  refine wpAny_bind (wpAny_specialOf hT lri_hint ?_)
  generalize hid : ("list_reverseiterator.__length_hint__" : String) = id0
  wp_delta
  rw [show splitId id0 = some ("list_reverseiterator", "__length_hint__") from by subst hid; decide +kernel]
  subst hid
  refine wpAny_bind (wpAny_isInstance (T := "list_reverseiterator") (b := true) hT (by rw [isSubtype_type]; kernel_rfl) ?_)
  refine wpAny_ite_split (fun hab => absurd hab (by decide)) (fun _ => ?_)
  refine wpAny_ite_split (fun _ => ?_) (fun hab => absurd (by decide +kernel) hab)
  refine wpAny_ite_split (fun hab => absurd hab (by decide +kernel)) (fun _ => ?_)
  exact wpAny_pure h
end
end L2

namespace L2
open PySem PySem.Spec PyProof.Rows
section
variable {prog : Program} {w : World} {A : Around} {E : Value → Shared → Prop} {s : Shared}
theorem extend_rev {R : Result → Shared → Prop} {r l S : Addr} {items : Array Value} (hh : A.handled = none) (hit : s.heap.IsRevIter r l ((items.size : Int) - 1)) (hl : s.heap.IsList l items) (hSr : S ≠ r) (hSl : S ≠ l) (hrl : l ≠ r) (res : Value) (c0 : Nat)
    (hS : s.heap.get? S = some { cls := .type "list", data := .seq #[] c0 })
    (hR : ∀ h' tk acc' c', (∀ b o, b ≠ S → b ≠ r → s.heap.get? b = some o → h'.get? b = some o) → h'.get? S = some { cls := .type "list", dict := none, data := .seq acc' c', slots := #[] } → ItemsOf (fun i v => items[items.size - 1 - i]? = some v) acc' items.size → R (.ok (.ret res)) { s with heap := h', toks := tk }) (hn : items.size ≤ sizeLine) :
    wpAny (model prog w) A.in1 (Builtin.List.listExtendWith (.ref S) (.ref r) res)
      (fun fin s' => match fin with | .done f => R (.ok f) s' | .again c' => c'.quiet = true ∧ codeAny (model prog w) A c' R s') (fun e s' => R (.error e) s') s := by
  have W := Walks.listRev (prog := prog) (w := w) (A := A.in1) hh r l hrl items
  have hSf : S ∉ [r, l] := by simp only [List.mem_cons, List.not_mem_nil, or_false, not_or]; exact ⟨hSr, hSl⟩
  have key : ∀ (h : Heap) (c1 tk : Nat), (0 ≤ items.size ∧ h.IsRevIter r l ((items.size : Int) - 1 - ((0 : Nat) : Int)) ∧ h.IsList l items) → (∀ b o, b ≠ S → b ≠ r → s.heap.get? b = some o → h.get? b = some o) →
      h.get? S = some { cls := .type "list", data := .seq #[] c1 } → codeAny (model prog w) A (.builtin "list.extend.loop" ⟨[.ref S, .ref r, res], []⟩) R { s with heap := h, toks := tk } := by
    intro h c1 tk hst hk hS1
    refine codeAny_extend_loopS W.toS hn S hSf res items.size 0 _ #[] c1 rfl (Nat.zero_le _) hst hS1 (ItemsOf.nil _) fun s' acc' c' hm hS' hacc => ?_
    rw [Moved.eq_with hm]
    refine hR s'.heap s'.toks acc' c' (fun b o hb hbr e => hm.heap b o (fun hmem => ?_) (hk b o hb hbr e)) hS' hacc
    rcases List.mem_cons.mp hmem with e' | hmem
    · exact hb e'
    · exact hbr (List.mem_singleton.mp hmem)
  have hit0 : s.heap.IsRevIter r l ((items.size : Int) - 1 - ((0 : Nat) : Int)) := by
    have e : (items.size : Int) - 1 - ((0 : Nat) : Int) = (items.size : Int) - 1 := by omega
    rw [e]; exact hit
  unfold Builtin.List.listExtendWith
  refine wpAny_bind (wpAny_typeOf (T := "list_reverseiterator") hit.typeIs ?_)
  have h1 : Builtin.List.listSameRef (.ref S) (.ref r) = false := by simp [Builtin.List.listSameRef, hSr]
  have h2 : (Value.type "list_reverseiterator" == Value.type "list") = false := by decide
  have h3 : (Value.type "list_reverseiterator" == Value.type "tuple") = false := by decide
  simp only [h1, h2, h3, Bool.or_false, Bool.false_eq_true, if_false]
  refine wpAny_bind (wpAny_pyIter_revIter hit ?_)
  refine wpAny_bind (wpAny_holding (hint_rev hit.typeIs ?_))
  refine wpAny_ite_split (fun _ => ?_) (fun _ => wpAny_pure ⟨plainId_quiet PySem.F.plain_extend_loop _, key _ c0 _ ⟨Nat.zero_le _, hit0, hl⟩ (fun b o _ _ e => e) hS⟩)
  refine wpAny_bind (wpAny_rule ?_)
  refine wpAny_bind ?_
  show wpAny _ _ (updateSeq S (·.push .none) >>= fun _ => updateSeq S (·.pop)) _ _ _
  refine wpAny_bind (wpAny_updateSeq hS rfl ?_)
  have hS2 := Heap.get?_update_self (Obj.mapSeq (·.push Value.none)) hS rfl
  refine wpAny_updateSeq (hz := by seq_fits) hS2 rfl ?_
  have hS3 := Heap.get?_update_self (Obj.mapSeq (·.pop)) hS2 rfl
  have oth : ∀ b o, b ≠ S → s.heap.get? b = some o → ((s.heap.update S (Obj.mapSeq (·.push Value.none))).update S (Obj.mapSeq (·.pop))).get? b = some o := fun b o hb e => (Heap.get?_update_other _ _ (Ne.symm hb)).trans ((Heap.get?_update_other _ _ (Ne.symm hb)).trans e)
  refine wpAny_pure ⟨plainId_quiet PySem.F.plain_extend_loop _, key _ _ _ ⟨Nat.zero_le _, hit0.at fun o e => oth r o (Ne.symm hSr) e, hl.at fun o e => oth l o (Ne.symm hSl) e⟩ (fun b o hb _ e => oth b o hb e) hS3⟩
theorem init_rev {R : Result → Shared → Prop} {r l S : Addr} {items : Array Value} (hh : A.handled = none) (hit : s.heap.IsRevIter r l ((items.size : Int) - 1)) (hl : s.heap.IsList l items) (hSr : S ≠ r) (hSl : S ≠ l) (hrl : l ≠ r)
    (hS : s.heap.get? S = some { cls := .type "list", data := .seq #[] })
    (hR : ∀ h' tk acc' c', (∀ b o, b ≠ S → b ≠ r → s.heap.get? b = some o → h'.get? b = some o) → h'.get? S = some { cls := .type "list", dict := none, data := .seq acc' c', slots := #[] } → ItemsOf (fun i v => items[items.size - 1 - i]? = some v) acc' items.size → R (.ok (.ret .none)) { s with heap := h', toks := tk }) (hn : items.size ≤ sizeLine) :
    wpAny (model prog w) A.in1 (Builtin.«list.__init__» ⟨[.ref S, .ref r], []⟩)
      (fun fin s' => match fin with | .done f => R (.ok f) s' | .again c' => c'.quiet = true ∧ codeAny (model prog w) A c' R s') (fun e s' => R (.error e) s') s := by
  show wpAny _ _ (do let old ← Builtin.List.listItems (.ref S); Builtin.List.listUpdate (.ref S) (fun _ => #[]); letGo old.toList.reverse; Builtin.List.listExtendWith (.ref S) (.ref r) .none) _ _ s
  refine wpAny_bind ?_
  unfold Builtin.List.listItems
  refine wpAny_bind (wpAny_seqItems hS rfl (wpAny_pure ?_))
  show wpAny _ _ (updateSeq S (fun _ => #[]) >>= fun _ => letGo (#[] : Array Value).toList.reverse >>= fun _ => Builtin.List.listExtendWith (.ref S) (.ref r) .none) _ _ s
  refine wpAny_bind (wpAny_updateSeq hS rfl ?_)
  have hS2 := Heap.get?_update_self (Obj.mapSeq (fun _ => (#[] : Array Value))) hS rfl
  have oth : ∀ b o, b ≠ S → s.heap.get? b = some o → (s.heap.update S (Obj.mapSeq (fun _ => (#[] : Array Value)))).get? b = some o := fun b o hb e => (Heap.get?_update_other _ _ (Ne.symm hb)).trans e
  refine wpAny_bind (wpAny_letGo ?_)
  refine extend_rev hh (hit.at fun o e => oth r o (Ne.symm hSr) e) (hl.at fun o e => oth l o (Ne.symm hSl) e) hSr hSl hrl .none _ hS2 (fun h' tk acc' c' hk hS' hacc => ?_) hn
  exact hR h' tk acc' c' (fun b o hb hbr e => hk b o hb hbr (oth b o hb e)) hS' hacc
theorem list_of_rev {r l : Addr} {items : Array Value} {Q : Value → Shared → Prop} (hh : A.handled = none) (hit : s.heap.IsRevIter r l ((items.size : Int) - 1)) (hl : s.heap.IsList l items) (hrl : l ≠ r) (hn : items.size ≤ sizeLine)
    (hQ : ∀ h' tk acc' c', (∀ b o, b ≠ r → s.heap.get? b = some o → h'.get? b = some o) → h'.get? s.heap.objs.size = some { cls := .type "list", dict := none, data := .seq acc' c', slots := #[] } → ItemsOf (fun i v => items[items.size - 1 - i]? = some v) acc' items.size → Q (.ref s.heap.objs.size) { s with heap := h', toks := tk }) :
    wpAny (model prog w) A (call (.type "list") [.ref r]) Q E s := by
  refine callType_codes (Q₁ := fun obj s₁ => obj = .ref s.heap.objs.size ∧ s₁ = { s with heap := s.heap.push { cls := .type "list", data := .seq #[] } }) PySem.F.called_list (PySem.F.typeCall_list_1 _) PySem.F.entry_list_init
    (code_list_new _ ⟨rfl, rfl⟩) fun obj s₁ h₁ => ?_
  obtain ⟨rfl, rfl⟩ := h₁
  have hS : (s.heap.push { cls := .type "list", data := .seq #[] }).get? s.heap.objs.size = some { cls := .type "list", data := .seq #[] } := Heap.get?_push_size _ rfl
  have hr : r < s.heap.objs.size := let ⟨_, ho, _⟩ := hit; Heap.lt_size ho
  have hl' : l < s.heap.objs.size := let ⟨_, ho, _⟩ := hl; Heap.lt_size ho
  refine ⟨⟨_, hS, rfl⟩, PySem.F.args_list_init_2 _ _, init_rev (A := A.in1) hh (hit.at fun o e => Heap.get?_push_of_some _ e) (hl.push _) (Nat.ne_of_gt hr) (Nat.ne_of_gt hl') hrl hS (fun h' tk acc' c' hk hS' hacc => ?_) hn⟩
  exact ⟨rfl, hQ h' tk acc' c' (fun b o hb e => hk b o (Nat.ne_of_lt (Heap.lt_size e)) hb (Heap.get?_push_of_some _ e)) hS' hacc⟩
end
section
variable {X : Cx}
/-- an object of ours that lies there untracked is tracked from here on -/
theorem Inv.track {pins : List (Addr × Obj)} {σ : St} {H : Hp} {s : Shared} {a : Addr} {o : HO} (I : Inv X pins σ H s) (f : FpOk X pins H a) (new : ObjOk X.prog X.w (upd H a o) s.heap a o) : Inv X pins σ (upd H a o) s := by
  obtain ⟨f0, f1, f2, f3, f4, f5⟩ := f
  have ne : ∀ b u, H b = some u → b ≠ a := fun b u e => ne_of_none e f0
  refine I.step (g' := s.gens) (t' := s.toks) (d' := s.drawn) (h' := s.heap) (ch := [a]) (fun b hb => ?_) (fun b o _ _ _ e _ => e) (fun b o _ _ _ e _ => ⟨o.slots, e⟩) (fun b o hc e n => ?_) (fun b o _ e => ⟨o, e⟩) (fun b xs e => by rw [upd_ne (ne b _ e)]; exact e) (fun b o u e => by rw [upd_ne (ne b _ e)]; exact e)
    (fun b ps e => ⟨#[], by rw [upd_ne (ne b _ e), e]; simp⟩) (fun m hm => hm) (fun b u e => ?_) I.bare
  · have eb : b = a := by simpa using hb
    rw [eb]
    exact ⟨f3, f1, f4, f5⟩
  · rw [upd_ne (fun z => hc (by simp [z]))]
    exact n
  · by_cases hb : b = a
    · rw [hb, upd_same] at e
      cases e
      rw [hb]
      exact new
    · rw [upd_ne hb] at e
      exact (I.hok b u e).stay (fun c v _ q => q) (fun c q => by rw [upd_ne (ne c _ q)]; exact q) fun c xs q => by rw [upd_ne (ne c _ q)]; exact q
theorem vals_rev {ys : List V} {its : List Value} {acc : Array Value} (rv : Vals ys its) (h : ItemsOf (fun i v => its.toArray[its.toArray.size - 1 - i]? = some v) acc its.toArray.size) : Vals ys.reverse acc.toList := by
  have e : acc.toList = its.reverse := by
    apply List.ext_getElem?
    intro i
    by_cases hi : i < its.length
    · have hacc : i < acc.size := by rw [h.1]; simpa using hi
      have q := h.2 i acc[i] (Array.getElem?_eq_getElem hacc)
      rw [Array.getElem?_toList, Array.getElem?_eq_getElem hacc, List.getElem?_reverse hi, ← q]
      simp
    · rw [List.getElem?_eq_none (by rw [Array.length_toList, h.1]; simpa using hi), List.getElem?_eq_none (by rw [List.length_reverse]; omega)]
  rw [e]
  exact rv.reverse
/-- list(reversed(e)) -/
theorem pe_listrev {e : Expr} {te : TE} {p p2 pos pos2 : Pos} (hc : X.calm = true) (hg : Gl X "list") (hm : X.mg "list" = none) (hg2 : Gl X "reversed") (hm2 : X.mg "reversed" = none) (he : PE X e te)
    (h1 : starEach [.Call (.Name "reversed" p2) [e] [] pos2] X.env = [(false, eval (.Call (.Name "reversed" p2) [e] [] pos2) X.env)] := by rfl) (h2 : starEach [e] X.env = (false, eval e X.env) :: starEach [] X.env := by rfl) :
    PE X (.Call (.Name "list" p) [.Call (.Name "reversed" p2) [e] [] pos2] [] pos) (fun σ H Q => te σ H fun x H1 => ∃ l ys, x = .ref l ∧ SqL X.K H1 l ys ∧ ∀ q, H1 q = none → Q (.ref q) (upd H1 q (.lst ys.reverse))) := by
  intro pins s σ H Q I h
  refine wpAny_Call_Name_kw (ld_blt I hg hm bt_list ?_)
  refine PyProof.Rows.callWith_type1 ?_ h1 rfl
  rw [h1]
  refine Calls.spliced_cons ?_
  refine wpAny_Call_Name_kw (ld_blt I hg2 hm2 bt_reversed ?_)
  refine PyProof.Rows.callWith_type1 ?_ h2 rfl
  rw [h2]
  refine Calls.spliced_cons (thn (he pins s σ H _ I h) fun u s1 ⟨x, H1, I1, r1, q1⟩ => ?_)
  obtain ⟨l, ys, rfl, hq, q⟩ := q1
  cases r1
  refine Calls.spliced_nil ?_
  obtain ⟨its, rv, pl, hz⟩ := I1.list hq
  have hn : its.toArray.size = ys.length := by rw [List.size_toArray, rv.length]
  refine call_reversed_list pl.isList ?_
  refine Calls.spliced_nil ?_
  have hlt : l < s1.heap.objs.size := by
    obtain ⟨o, n, e1, _⟩ := pl
    exact Heap.lt_size e1
  have I2 : Inv X pins σ H1 { s1 with heap := s1.heap.push (revObj l ((its.toArray.size : Int) - 1)) } := I1.kept (t' := s1.toks) fun b o e => Heap.get?_push_of_some _ e
  have hit : (s1.heap.push (revObj l ((its.toArray.size : Int) - 1))).IsRevIter s1.heap.objs.size l ((its.toArray.size : Int) - 1) := ⟨_, Heap.get?_push_size _ rfl, rfl, rfl⟩
  refine list_of_rev (I.ok.hd hc) hit (pl.isList.push _) (Nat.ne_of_lt hlt) (by rw [hn]; exact hz) fun h' tk acc' c' hk hS hacc => ?_
  obtain ⟨f0, f1, f2, f3, f4, f5⟩ := I1.fpOk (H' := H1) (Nat.le_refl _) (I1.hok.fresh (Nat.le_refl _))
  have I3 : Inv X pins σ H1 { s1 with heap := h', toks := tk } := I2.turned (t' := tk) (fun b o hb e => hk b o hb e) f0 f1 f3 f4 f5
  have fS := I2.fpOk (H' := H1) (Nat.le_refl _) (I2.hok.fresh (Nat.le_refl _))
  have I4 := I3.track (o := .lst ys.reverse) fS ⟨by rw [List.length_reverse]; exact hz, acc'.toList, c', vals_rev rv hacc, by rw [Array.toArray_toList]; exact hS⟩
  exact ⟨.ref _, _, I4, rfl, q _ fS.1⟩
end
end L2

namespace L2
open PySem PySem.Spec PyProof.Rows
section
variable {X : Cx}
end
end L2

namespace L2
open PySem PySem.Spec PyProof.Rows
/-! ### several records of ours turned -/
theorem Inv.turnedL {X : Cx} {pins : List (Addr × Obj)} {σ : St} {H : Hp} {s : Shared} {h' : Heap} {t' : Nat} {fp : List Addr} (I : Inv X pins σ H s) (k : ∀ b o, b ∉ fp → s.heap.get? b = some o → h'.get? b = some o) (hf : ∀ b ∈ fp, FpOk X pins H b) : Inv X pins σ H { s with heap := h', toks := t' } := by
  have nit : ∀ b u, H b = some u → b ∉ fp := fun b u e z => by rw [(hf b z).1] at e; cases e
  refine I.step (g' := s.gens) (d' := s.drawn) (ch := fp) (fun b hb => ?_) (fun b o _ _ hc e _ => k b o hc e) (fun b o _ _ hc e _ => ⟨o.slots, k b o hc e⟩) (fun _ _ _ _ n => n)
    (fun b o hc e => ⟨o, k b o hc e⟩) (fun _ _ e => e) (fun _ _ _ e => e) (fun b ps e => ⟨#[], by rw [e]; simp⟩) (fun m hm => ?_) (fun b u e => ?_) I.bare
  · obtain ⟨f0, f1, f2, f3, f4, f5⟩ := hf b hb
    exact ⟨f3, f1, f4, f5⟩
  · obtain ⟨o, es, ep, ho, r⟩ := hm
    exact ⟨o, es, ep, k _ o (fun z => (hf _ z).2.1 rfl) ho, r⟩
  · refine (I.hok b u e).stay (fun c v hc q => k c v ?_ q) (fun _ q => q) fun _ _ q => q
    rcases hc with z | z
    · rw [z]; exact nit b u e
    · exact nit c _ z
/-! ### enumerate(list), walked by a pair of names -/
def Ite (K : PySem.W.Frag) (a : Addr) : It :=
  ⟨fun i H => ∃ xs x, SqL K H a xs ∧ xs[i]? = some x, fun i H v H' => ∃ T x, H T = none ∧ v = .ref T ∧ H' = upd H T (.tup [.int (i : Int), x]) ∧ ∀ xs, SqL K H a xs → xs[i]? = some x, fun i H => ∃ xs, SqL K H a xs ∧ xs.length ≤ i⟩
theorem turn_enum {P : Program} {w : World} {K : PySem.W.Frag} {es : List Expr} {k : Nat} {pos : Pos} (a e it : Addr) (hei : e ≠ it) : Turn P w K (.Tuple es k pos) (Ite K a) [e, it] e (fun i h => (∃ old, IsEnum h e it ((i : Nat) : Int) old) ∧ h.IsListIter it a i) where
  mem := by simp
  obj := fun i h st b hb => by
    obtain ⟨⟨old, he⟩, o, e2, c, d⟩ := st
    rcases List.mem_cons.mp hb with rfl | hb
    · exact ⟨_, he, fun v z => by
        have z' : Data.fields _ = Data.cell v := z
        cases z'⟩
    · have e3 : b = it := by simpa using hb
      subst e3
      exact ⟨o, e2, fun v z => by rw [d] at z; cases z⟩
  keep := fun i h h' st kk => by
    obtain ⟨⟨old, he⟩, hit⟩ := st
    exact ⟨⟨old, kk e (by simp) _ he⟩, hit.at fun o q => kk it (by simp) o q⟩
  item := by
    intro X hP hw hK hc i pins s σ H E I hf st hg
    subst hP hw hK
    obtain ⟨xs, x, hq, hx⟩ := hg
    obtain ⟨its, rv, p, hz⟩ := I.list hq
    obtain ⟨u, hu, ru⟩ := rv.get hx
    obtain ⟨⟨old, he⟩, hit⟩ := st
    refine wpAny_pyNext_enum_item he hit p.isList (x := u) (by simpa using hu) hei fun h' ho hit' hT hsz hk => ?_
    refine ⟨_, rfl, ?_⟩
    refine wpAny_letOwnedTupleGo_enum ho fun h2 he2 hs2 => ?_
    have hs2' : Heap.SameBut e h' h2 := hs2
    have hel : e < s.heap.objs.size := Heap.lt_size he
    have hil : it < s.heap.objs.size := by obtain ⟨_, q, _⟩ := hit; exact Heap.lt_size q
    have hfr : H s.heap.objs.size = none := I.hok.fresh (Nat.le_refl _)
    have I0 : Inv X pins σ (upd H s.heap.objs.size (.tup [.int (i : Int), x])) { s with heap := s.heap.push { cls := .type "tuple", data := .seq #[.int (i : Int) s.toks, u] }, toks := s.toks + 1 } :=
      I.laid (t' := s.toks + 1) (fun b u e => Heap.get?_push_of_some _ e) (Nat.le_refl _) ⟨by show 2 ≤ sizeLine; decide, [.int (i : Int) s.toks, u], .cons ⟨_, rfl⟩ (.cons ru .nil), ⟨_, Heap.get?_push_size _ rfl, rfl, _, rfl⟩⟩
    have hfb : ∀ b ∈ [e, it], b < s.heap.objs.size := fun b hb => by
      rcases List.mem_cons.mp hb with rfl | hb
      · exact hel
      · have e3 : b = it := by simpa using hb
        rw [e3]; exact hil
    have hn : ∀ b ∈ [e, it], upd H s.heap.objs.size (.tup [.int (i : Int), x]) b = none := fun b hb => by
      rw [upd_ne (Nat.ne_of_lt (hfb b hb))]
      exact (hf b hb).1
    have I2 : Inv X pins σ (upd H s.heap.objs.size (.tup [.int (i : Int), x])) { s with heap := h2, toks := s.toks + 1 } := Inv.turnedL (s := { s with heap := s.heap.push { cls := .type "tuple", data := .seq #[.int (i : Int) s.toks, u] }, toks := s.toks + 1 }) (h' := h2) I0 (t' := s.toks + 1) (fp := [e, it]) (fun b o hb q => by
      have nb : b ≠ e := fun z => hb (by simp [z])
      have nb2 : b ≠ it := fun z => hb (by simp [z])
      refine (hs2'.2 b nb).trans ?_
      rcases Heap.get?_push_cases q with ⟨z1, z2⟩ | q
      · rw [z1, z2]; exact hT
      · exact hk b o nb nb2 q) fun b hb => ⟨hn b hb, (hf b hb).2⟩
    refine ⟨.ref s.heap.objs.size, _, I2, rfl, ⟨s.heap.objs.size, x, hfr, rfl, rfl, fun ys hy => by rw [I.list_inj hy hq]; exact hx⟩, ?_, hn⟩
    refine ⟨⟨u, ?_⟩, hit'.at fun o q => (hs2'.2 it (Ne.symm hei)).trans q⟩
    have e4 : (((i + 1 : Nat) : Nat) : Int) = (i : Int) + 1 := by omega
    rw [e4]
    exact he2
  done := by
    intro X hP hw hK hc i pins s σ H E I hf st hg
    subst hP hw hK
    obtain ⟨xs, hq, hx⟩ := hg
    obtain ⟨its, rv, p, hz⟩ := I.list hq
    obtain ⟨⟨old, he⟩, hit⟩ := st
    have hl := rv.length
    obtain ⟨f0, f1, f2, f3, f4, f5⟩ := hf it (by simp)
    exact wpAny_pyNext_enum_end (I.ok.hd hc) he hit p.isList (by simp; omega) fun h' eb => ⟨rfl, I.turned (t' := s.toks) (fun b o hb e => eb b o hb e) f0 f1 f3 f4 f5⟩
  self := fun _ _ _ _ _ st h => by
    obtain ⟨⟨old, he⟩, _⟩ := st
    exact wpAny_pyIter_enum he h
section
variable {X : Cx}
def iEnum (K : PySem.W.Frag) (ta : TA) : TI := fun σ H R => ta σ H fun vs H1 => ∃ a, vs = [.ref a] ∧ (∃ xs, SqL K H1 a xs) ∧ R (Ite K a) H1
theorem pi_enum {l : Expr} {ta : TA} {es : List Expr} {k : Nat} {tp p pos : Pos} (hg : Gl X "enumerate") (hm : X.mg "enumerate" = none) (ha : PA X [l] ta) (hs : starEach [l] X.env = [(false, eval l X.env)] := by rfl) :
    PI X (.Tuple es k tp) (.Call (.Name "enumerate" p) [l] [] pos) (iEnum X.K ta) := by
  intro pins s σ H R I h
  refine Call_ (ld_blt I hg hm bt_enumerate (PyProof.Rows.callWith_type1 (thn (ha pos pins s σ H _ I h) fun us s1 ⟨vs, H1, I1, r1, q1⟩ => ?_) hs rfl))
  obtain ⟨a, e, ⟨xs, hq⟩, q⟩ := q1
  subst e
  obtain ⟨u, rfl, ru⟩ := vals1 r1
  cases ru
  obtain ⟨its, rv, p, hz⟩ := I1.list hq
  refine call_enumerate_list p.isList fun h' he hit hsz hk => ?_
  refine wpAny_pyIter_enum he ?_
  refine ⟨s1.heap.objs.size + 1, [s1.heap.objs.size + 1, s1.heap.objs.size], _, _, H1, rfl, I1.kept (t' := s1.toks) hk, turn_enum a _ _ (Nat.succ_ne_self _), ⟨⟨_, he⟩, hit⟩, fun b hb => ?_, q⟩
  have hb' : s1.heap.objs.size ≤ b := by
    rcases List.mem_cons.mp hb with rfl | hb
    · exact Nat.le_succ _
    · have e3 : b = s1.heap.objs.size := by simpa using hb
      rw [e3]; exact Nat.le_refl _
  exact I1.fpOk hb' (I1.hok.fresh hb')
end
theorem for_enum {K : PySem.W.Frag} {a : Addr} {xs : List V} {g : TG} {tb : TS} {D : Ends} {σ : St} {H : Hp} (Pv : Nat → St → Hp → Prop) (h0 : Pv 0 σ H) (hl : ∀ i σ H, i ≤ xs.length → Pv i σ H → SqL K H a xs)
    (hs : ∀ i x σ H T, xs[i]? = some x → Pv i σ H → H T = none → g (.ref T) σ (upd H T (.tup [.int (i : Int), x])) fun σ2 H2 => tb { D with nx := Pv (i + 1), ct := Pv (i + 1), bk := D.nx } σ2 H2) (hd : ∀ σ H, Pv xs.length σ H → D.nx σ H) :
    ∃ W : Nat → Nat → St → Hp → Prop, (∃ m, W 0 m σ H) ∧ ∀ i m σ H, W i m σ H →
      ((Ite K a).stop i H ∧ D.nx σ H) ∨ ((Ite K a).go i H ∧ ∃ N : St → Hp → Prop, (∀ σ' H', N σ' H' → ∃ m', m' < m ∧ W (i + 1) m' σ' H') ∧ ∀ x H', (Ite K a).yld i H x H' → g x σ H' fun σ2 H2 => tb { D with nx := N, ct := N, bk := D.nx } σ2 H2) := by
  refine ⟨fun i m σ H => m = xs.length - i ∧ i ≤ xs.length ∧ Pv i σ H, ⟨xs.length, by simp, Nat.zero_le _, h0⟩, ?_⟩
  rintro i m σ H ⟨rfl, hi, p⟩
  have q := hl i σ H hi p
  by_cases hlt : i < xs.length
  · refine .inr ⟨⟨xs, xs[i], q, by simp [hlt]⟩, Pv (i + 1), fun σ' H' p' => ⟨xs.length - (i + 1), by omega, rfl, hlt, p'⟩, fun v H' y => ?_⟩
    obtain ⟨T, x, hT, rfl, rfl, y⟩ := y
    exact hs i x σ _ T (y xs q) p hT
  · have e : i = xs.length := by omega
    subst e
    exact .inl ⟨⟨xs, q, Nat.le_refl _⟩, hd σ H p⟩
end L2
namespace L2
open PySem PySem.Spec PyProof.Rows
section
variable {X : Cx}
end
theorem ixN_nat {n j : Nat} (h : j < n) : ixN n (j : Int) = some j := by
  unfold ixN
  rw [if_pos (by omega), if_pos (by omega)]
  rfl
end L2
namespace L2
open PySem PySem.Spec PyProof.Rows
theorem canLayAll_of : ∀ {ds : List PyData}, (∀ d ∈ ds, d.canLay0 = true) → PyData.canLayAll0 ds = true
  | [], _ => by simp [PyData.canLayAll0]
  | d :: ds, h => by
    rw [PyData.canLayAll0, h d (by simp), canLayAll_of fun x hx => h x (by simp [hx])]
    rfl
theorem depthAll_of {n : Nat} : ∀ {ds : List PyData}, (∀ d ∈ ds, d.depth ≤ n) → PyData.depthAll ds ≤ n
  | [], _ => by simp [PyData.depthAll]
  | d :: ds, h => by
    have h1 := h d (by simp)
    have h2 := depthAll_of (ds := ds) fun x hx => h x (List.mem_cons_of_mem _ hx)
    rw [PyData.depthAll]
    omega
theorem shaped_flat {ds : List PyData} (h : ∀ d ∈ ds, d.canLay0 = true ∧ d.depth ≤ 10) : SeqAt.shaped (.list ds) = true := by
  have h1 := canLayAll_of fun d hd => (h d hd).1
  have h2 := depthAll_of fun d hd => (h d hd).2
  have h3 : PyData.depth (.list ds) ≤ 64 := by simp only [PyData.depth]; omega
  show (PyData.canLay0 (.list ds) && decide (PyData.depth (.list ds) ≤ 64)) = true
  rw [Bool.and_eq_true]
  exact ⟨by simp only [PyData.canLay0]; exact h1, decide_eq_true h3⟩
theorem flat3 (i j k : Int) : (PyData.tuple [.int i, .int j, .int k]).canLay0 = true ∧ (PyData.tuple [.int i, .int j, .int k]).depth ≤ 10 := by
  constructor
  · simp [PyData.canLay0, PyData.canLayAll0]
  · simp [PyData.depth, PyData.depthAll]
end L2

namespace L2
open PySem PySem.Spec PyProof.Rows
/-! ### a list comprehension of one clause, by names or a tuple of names, with or without a test -/
def cxG (X : Cx) (scope : Scope) (fr : List (Str × Nat)) (xs : List Str) (C : Addr) (ex : List Addr) (s : Shared) (H : Hp) : Cx where
  prog := X.prog
  w := X.w
  K := X.K
  mg := X.mg
  base := X.base
  A := X.A
  N := xs ++ fr.map (·.1)
  s₀ := s
  H₀ := H
  env := compEnvC scope (clOf X.env fr) C X.env
  outer := X.stack
  stack := X.stack
  ex := ex
  fn := fun _ => false
  calm := X.calm
  pn := []
  xe := fun _ _ => False
structure CompG (X : Cx) (scope : Scope) (fr : List (Str × Nat)) (xs : List Str) : Prop where
  clos : closureFor scope X.env = pure (clOf X.env fr)
  cell : ∀ y ∈ scope.names, y.2 ≠ .cell
  kind : scope.kind = .function
  names : ∀ y ∈ scope.names, y.2 = .local → scope.names.lookup y.1 = some .local
  slot : ∀ p ∈ fr, X.N[p.2]? = some p.1 ∧ X.env.kindOf p.1 = some .cell
  has : ∀ y ∈ (relabel scope X.env).names, (y.2 = .cell ∨ y.2 = .free) → y.1 ∈ fr.map (·.1)
  frk : ∀ p ∈ fr, (relabel scope X.env).names.lookup p.1 = some .cell
theorem CompG.of {X : Cx} {scope : Scope} {fr : List (Str × Nat)} {xs : List Str} (clos : closureFor scope X.env = pure (clOf X.env fr)) (cell : ∀ y ∈ scope.names, y.2 ≠ .cell) (kind : scope.kind = .function) (names : ∀ y ∈ scope.names, y.2 = .local → scope.names.lookup y.1 = some .local)
    (slot : ∀ p ∈ fr, X.N[p.2]? = some p.1 ∧ X.env.kindOf p.1 = some .cell) (nf : ∀ z ∈ scope.names, z.2 = .free → z.1 ∈ fr.map (·.1)) (frk : ∀ p ∈ fr, (relabel scope X.env).names.lookup p.1 = some .cell) : CompG X scope fr xs where
  clos := clos
  cell := cell
  kind := kind
  names := names
  slot := slot
  has := fun z hz hk => by
    obtain ⟨⟨n, k⟩, hm, e⟩ := List.mem_map.mp (show z ∈ scope.names.map _ from hz)
    have h2 := cell _ hm
    dsimp only at e h2
    have hn : z.1 = n := by rw [← e]; split <;> rfl
    have hf : k = .free := by
      by_cases q : k = .free
      · exact q
      · have hb : (k == NameKind.free) = false := by simpa using q
        rw [hb] at e
        simp only [Bool.false_and, Bool.false_eq_true, if_false] at e
        subst e
        exact (hk.elim h2 q).elim
    have := nf _ hm hf
    rw [hn]
    exact this
  frk := frk
/-- nothing yet -/
abbrev nons (xs : List Str) : St := List.replicate xs.length none
section
variable {X : Cx} {pins : List (Addr × Obj)} {σ : St} {H : Hp} {s : Shared} {scope : Scope} {fr : List (Str × Nat)} {xs : List Str}
theorem CompG.cells (O : CompG X scope fr xs) (I : Inv X pins σ H s) {y : Str} {c : Addr} (h : (clOf X.env fr).lookup y = some c) : X.env.cells.lookup y = some c := by
  obtain ⟨hm, e⟩ := lookup_map_fst h
  obtain ⟨p, hp, ep⟩ := List.mem_map.mp hm
  have k := (O.slot p hp).2
  rw [ep] at k
  obtain ⟨c', e'⟩ := I.ok.has y (.inl k)
  rw [e'] at e
  rw [e', e]
  rfl
theorem inv_compG {fp : List Addr} (O : CompG X scope fr xs) (I : Inv X pins σ H s) (hf : ∀ b ∈ fp, FpOk X pins H b) (hfs : ∀ b ∈ fp, b < s.heap.objs.size) {g h' : Heap} {tk : Nat} (hg : g = s.heap.push (LCg.lst []))
    (hk : ∀ b o, g.get? b = some o → h'.get? b = some o) (hC : h'.Ns g.objs.size fun _ => none) :
    Inv (cxG X scope fr xs g.objs.size (s.heap.objs.size :: fp) { s with heap := g } H) (X.pn ++ pins ++ [(s.heap.objs.size, LCg.lst [])]) (nons xs ++ frOf fr σ) H { s with heap := h', toks := tk } := by
  have hsz : g.objs.size = s.heap.objs.size + 1 := by rw [hg, Heap.size_push]
  have kp : ∀ b o, s.heap.get? b = some o → g.get? b = some o := fun b o e => by rw [hg]; exact Heap.get?_push_of_some _ e
  have hk0 : ∀ b o, s.heap.get? b = some o → h'.get? b = some o := fun b o e => hk b o (kp b o e)
  have hDo : h'.get? s.heap.objs.size = some (LCg.lst []) := hk _ _ (by rw [hg]; exact Heap.get?_push_size _ rfl)
  have neC : ∀ b, b < s.heap.objs.size → b ≠ g.objs.size := fun b e => by rw [hsz]; exact Nat.ne_of_lt (Nat.lt_succ_of_lt e)
  have hDC : s.heap.objs.size ≠ g.objs.size := by rw [hsz]; exact Nat.ne_of_lt (Nat.lt_succ_self _)
  have hfr : H g.objs.size = none := I.hok.fresh (by rw [hsz]; exact Nat.le_succ _)
  have hfD : H s.heap.objs.size = none := I.hok.fresh (Nat.le_refl _)
  have cne : ∀ y c, X.env.cells.lookup y = some c → c < s.heap.objs.size := fun y c e => by
    obtain ⟨v, q⟩ := I.cell y c e
    exact q.lt
  have nst : ∀ b, b ≠ X.env.locals → b ∉ X.fs → b ∉ frs X.stack := fun b h1 h2 z => (List.mem_cons.mp (I.stkSub b z)).elim h1 h2
  have nstD : s.heap.objs.size ∉ frs X.stack := nst _ (Nat.ne_of_gt I.lt) (I.nofs (Nat.le_refl _))
  refine ⟨⟨I.ok.mod, O.kind, I.ok.glob, I.ok.blt, Nat.le_refl _, ?_, ?_, fun _ _ z _ => (by cases z), I.ok.hd, I.ok.frames, .inl rfl, ?_, ?_, ?_, ?_, ?_, ?_, I.stkFree⟩, rfl, I.bare, Un.kept hk, ?_, ?_, hfr, ?_, ?_, I.hok.kept hk0, ?_⟩
  · intro y z c h1 h2
    exact I.ok.inj y z c (O.cells I h1) (O.cells I h2)
  · intro y hy
    have hm : y ∈ fr.map (·.1) := by
      rcases hy with hy | hy
      · exact O.has (y, _) (PySem.mem_of_lookup hy) (.inl rfl)
      · exact O.has (y, _) (PySem.mem_of_lookup hy) (.inr rfl)
    exact ⟨_, lookup_map_some hm⟩
  · intro b hb
    rcases List.mem_cons.mp hb with rfl | hb
    · exact ⟨hDC, fun y c e => Nat.ne_of_lt (cne y c (O.cells I e))⟩
    · exact ⟨neC b (hfs b hb), fun y c e => (hf b hb).2.2.2.2.1 y c (O.cells I e)⟩
  · intro b o e
    exact ⟨kp b o (I.bs b o e).1, (I.bs b o e).2⟩
  · show X.base.objs.size ≤ g.objs.size
    rw [hsz]
    exact Nat.le_succ_of_le (Nat.le_trans I.ok.bsz I.sz)
  · intro b o e hb
    rcases List.mem_cons.mp hb with z | hb
    · have := Heap.lt_size (I.bs b o e).1
      rw [z] at this
      exact Nat.lt_irrefl _ this
    · rcases (hf b hb).2.2.2.1 with z | z
      · exact I.ok.noex b o e z
      · exact absurd (Nat.lt_of_lt_of_le (Heap.lt_size (I.ok.bs b o e).1) z) (Nat.lt_irrefl _)
  · intro b hb
    rcases List.mem_cons.mp hb with z | hb
    · rw [z]; exact nstD
    · exact nst b (hf b hb).2.1 (hf b hb).2.2.1
  · exact (I.kept (h' := g) (t' := s.toks) kp).stack
  · refine ⟨_, hC, fun i y v e1 e2 e3 => ?_⟩
    have e1a : (xs ++ fr.map (·.1))[i]? = some y := e1
    by_cases hi : i < xs.length
    · rw [List.getElem?_append_left (by simpa using hi)] at e2
      rw [List.getElem?_replicate, if_pos hi] at e2
      cases e2
    · have e1' : (fr.map (·.1))[i - xs.length]? = some y := by
        rw [List.getElem?_append_right (by omega)] at e1a
        exact e1a
      have e2' : (frOf fr σ)[i - xs.length]? = some (some v) := by
        rw [List.getElem?_append_right (by simp; omega)] at e2
        simpa using e2
      generalize i - xs.length = k at e1' e2'
      unfold frOf at e2'
      rw [List.getElem?_map] at e1' e2'
      cases q : fr[k]? with
      | none => rw [q] at e1'; cases e1'
      | some p =>
        rw [q] at e1' e2'
        have ey : p.1 = y := Option.some.inj e1'
        have ev : (σ[p.2]?).join = some v := Option.some.inj e2'
        have hp : p ∈ fr := List.mem_of_getElem? q
        obtain ⟨hN, hK⟩ := O.slot p hp
        have hkk := O.frk p hp
        rw [ey] at hN hK hkk
        have ev' : σ[p.2]? = some (some v) := by
          cases q2 : σ[p.2]? with
          | none => rw [q2] at ev; cases ev
          | some w => rw [q2] at ev; exact congrArg some ev
        obtain ⟨m, hn, hl⟩ := I.loc
        obtain ⟨u, r, l⟩ := hl p.2 y v hN ev' (.inr (.inl hK))
        refine ⟨u, r, ?_⟩
        rcases l with ⟨k1, _⟩ | ⟨_, c, ec, z⟩
        · rw [hK] at k1; cases k1
        · have hm : y ∈ fr.map (·.1) := by rw [← ey]; exact List.mem_map.mpr ⟨p, hp, rfl⟩
          have el := lookup_map_some (env := X.env) hm
          rw [ec] at el
          exact .inr ⟨.inl hkk, c, el, by obtain ⟨o, ho, hd⟩ := z; exact ⟨o, hk0 _ _ ho, hd⟩⟩
  · intro y c e
    obtain ⟨v, o, ho, hd⟩ := I.cell y c (O.cells I e)
    exact ⟨v, o, hk0 _ _ ho, hd⟩
  · intro y c e
    exact I.freeC y c (O.cells I e)
  · intro p hp
    rcases List.mem_append.mp hp with hp | hp
    · cases hp
    · rcases List.mem_append.mp hp with hp | hp
      · obtain ⟨e, n, ne, nf, d⟩ := I.pin p hp
        exact ⟨hk0 _ _ e, n, neC _ (Heap.lt_size e), nst _ ne nf, d⟩
      · have ep : p = (s.heap.objs.size, LCg.lst []) := by simpa using hp
        subst ep
        exact ⟨hDo, hfD, hDC, nstD, fun v z => by cases z⟩
  · show (nons xs ++ frOf fr σ).length = (xs ++ fr.map (·.1)).length
    unfold frOf
    simp
theorem inv_comp_endG {fp : List Addr} {g : Heap} {s' : Shared} {H' : Hp} {σ' : St} {ys : List V} {us : List Value} (I : Inv X pins σ H s) (hf : ∀ b ∈ fp, FpOk X pins H b) (hg : g = s.heap.push (LCg.lst []))
    (J : Inv (cxG X scope fr xs g.objs.size (s.heap.objs.size :: fp) { s with heap := g } H) (X.pn ++ pins ++ [(s.heap.objs.size, LCg.lst us)]) σ' H' s') (hv : Vals ys us) (hl : ys.length ≤ sizeLine) :
    Inv X pins σ (upd H' s.heap.objs.size (.lst ys)) s' ∧ H' s.heap.objs.size = none ∧ FpOk X pins (upd H' s.heap.objs.size (.lst ys)) g.objs.size ∧ ∃ m, s'.heap.Ns g.objs.size m := by
  have hsz : g.objs.size = s.heap.objs.size + 1 := by rw [hg, Heap.size_push]
  have kp : ∀ b o, s.heap.get? b = some o → g.get? b = some o := fun b o e => by rw [hg]; exact Heap.get?_push_of_some _ e
  obtain ⟨eD, nD, _, _, _⟩ := J.pin (s.heap.objs.size, LCg.lst us) (by simp)
  have hDC : g.objs.size ≠ s.heap.objs.size := by rw [hsz]; exact Nat.ne_of_gt (Nat.lt_succ_self _)
  have nD' : ∀ b u, H' b = some u → b ≠ s.heap.objs.size := fun b u e z => by rw [z] at e; rw [e] at nD; cases nD
  have hx : ∀ b o, s.heap.get? b = some o → b ∉ fp → b ∉ s.heap.objs.size :: fp := fun b o e hb z => by
    rcases List.mem_cons.mp z with z | z
    · have := Heap.lt_size e
      rw [z] at this
      exact Nat.lt_irrefl _ this
    · exact hb z
  have bU : Un (frs X.stack) (s.heap.objs.size :: fp) H H' g s'.heap := J.base
  have ltD : ∀ b o, s.heap.get? b = some o → b ≠ s.heap.objs.size := fun b o e => Nat.ne_of_lt (Heap.lt_size e)
  have un : Un (frs X.stack) fp H (upd H' s.heap.objs.size (.lst ys)) s.heap s'.heap := by
    refine ⟨fun b o e n hb he => bU.keep b o (kp b o e) n hb (hx b o e he), fun b o e n hb he => bU.slot b o (kp b o e) n hb (hx b o e he), fun b o e n he => ?_, fun b o e he => bU.there b o (kp b o e) (hx b o e he), fun b xs e => ?_, fun b o u e => ?_, fun b ps e => ?_⟩
    · rw [upd_ne (ltD b o e)]; exact bU.free b o (kp b o e) n (hx b o e he)
    · have q := bU.tups b xs e
      rw [upd_ne (nD' b _ q)]; exact q
    · have q := bU.frzs b o u e
      rw [upd_ne (nD' b _ q)]; exact q
    · obtain ⟨more, q⟩ := bU.tbls b ps e
      exact ⟨more, by rw [upd_ne (nD' b _ q)]; exact q⟩
  have hok : HOk X.prog X.w (upd H' s.heap.objs.size (.lst ys)) s'.heap := fun b u e => by
    by_cases hb : b = s.heap.objs.size
    · rw [hb, upd_same] at e
      cases e
      rw [hb]
      exact ⟨hl, us, us.length, hv, eD⟩
    · rw [upd_ne hb] at e
      exact (J.hok b u e).stay (fun c v _ q => q) (fun c q => by rw [upd_ne (nD' c _ q)]; exact q) fun c xs q => by rw [upd_ne (nD' c _ q)]; exact q
  have os : s'.os = s.os := J.os
  refine ⟨I.call' os un hok J.bare fun b hb => ⟨(hf b hb).2.2.2.1, (hf b hb).2.1, (hf b hb).2.2.2.2⟩, nD, ?_, ?_⟩
  · refine I.fpOk (H' := upd H' s.heap.objs.size (.lst ys)) (b := g.objs.size) (by rw [hsz]; exact Nat.le_succ _) ?_
    rw [upd_ne hDC]
    exact J.free
  · obtain ⟨m, hn, _⟩ := J.loc
    exact ⟨m, hn⟩
end
/-- the tests of a clause -/
def PTs (X : Cx) (ifs : List Expr) (t : TT) : Prop :=
  ∀ (pins : List (Addr × Obj)) (s : Shared) (σ : St) (H : Hp) (Q : Bool → Hp → Prop), Inv X pins σ H s → t σ H Q →
    wpAny (model X.prog X.w) X.A (forIn ifs true fun c r => if r = true then do let ok ← isTrue c X.env (eval c X.env); pure (ForInStep.yield ok) else pure (ForInStep.yield r)) (fun b s' => ∃ H', Inv X pins σ H' s' ∧ Q b H') X.xe s
def tYes : TT := fun _ H Q => Q true H
theorem pts_nil {X : Cx} : PTs X [] tYes := fun _ _ _ H _ I h => wpAny_tests_nil ⟨H, I, h⟩
theorem pts_one {X : Cx} {c : Expr} {t : TT} (h : PT X c t) : PTs X [c] t := fun pins s σ H Q I q => wpAny_tests_one (h pins s σ H Q I q)
section
variable {prog : Program} {w : World} {A : Around} {s : Shared}
theorem compLoopG {elt target iter : Expr} {ifs : List Expr} {scope : Scope} {pos : Pos} {it acc : Value} {env : Env} {R : Result → Shared → Prop} (I : Nat → Shared → Prop)
    (turn : ∀ n s, I n s → wpAny (model prog w) A (pyNext it) (fun r s₁ => match r with
      | none => R (.ok .next) s₁
      | some v => wpAny (model prog w) A (letOwnedTupleGo target it v) (fun _ s₀ => wpAny (model prog w) A (assign target env v) (fun _ s₂ =>
          wpAny (model prog w) A (forIn ifs true fun c r => if r = true then do let ok ← isTrue c env (eval c env); pure (ForInStep.yield ok) else pure (ForInStep.yield r)) (fun ok s₃ => if ok = true then wpAny (model prog w) A (eval elt env) (fun x s₄ =>
            wpAny (model prog w) A (call (.builtin "list.append") [acc, x]) (fun _ s₅ => ∃ m, m < n ∧ I m s₅) (notedBy (model prog w) A env fun e s' => R (.error e) s') s₄) (notedBy (model prog w) A env fun e s' => R (.error e) s') s₃
            else ∃ m, m < n ∧ I m s₃) (notedBy (model prog w) A env fun e s' => R (.error e) s') s₂)
          (notedBy (model prog w) A env fun e s' => R (.error e) s') s₀) (notedBy (model prog w) A env fun e s' => R (.error e) s') s₁) (notedBy (model prog w) A env fun e s' => R (.error e) s') s)
    (n : Nat) (h : I n s) : codeAny (model prog w) A (.compLoop (.ListComp elt [⟨target, iter, ifs, 0⟩] scope pos) 0 it acc env) R s := by
  refine codeAny_loop rfl I (fun n s hI => ?_) n h
  show wpAny _ A ((compTurn (.ListComp elt [⟨target, iter, ifs, 0⟩] scope pos) 0 it acc env).onRaise (fun x => do noteFrame x env; theTreesLotGoes x)) _ _ s
  refine wpAny_noted ?_
  rw [compTurn_list]
  refine wpAny_bind (wpAny_standAt (wpAny_bind (wpAny_mono (turn n s hI) (fun r s₁ h₁ => ?_) fun _ _ h' => h')))
  cases r with
  | none => exact wpAny_pure h₁
  | some v =>
    refine wpAny_bind (wpAny_mono h₁ (fun _ s₀ h₀' => ?_) fun _ _ h' => h')
    refine wpAny_bind (wpAny_mono h₀' (fun _ s₂ h₂ => ?_) fun _ _ h' => h')
    refine wpAny_bind (wpAny_mono h₂ (fun okb s₃ h₃ => ?_) fun _ _ h' => h')
    cases okb with
    | false => exact wpAny_pure ⟨rfl, h₃⟩
    | true => exact wpAny_bind (wpAny_bind (wpAny_mono h₃ (fun x s₄ h₄ => wpAny_bind (wpAny_mono h₄ (fun _ s₅ h₅ => wpAny_pure (wpAny_pure ⟨rfl, h₅⟩)) fun _ _ h' => h')) fun _ _ h' => h'))
end
/-- the reading: W by the turn, a measure, the items so far, the heap -/
def tCompG (g : TG) (tt : TT) (te : TE) (n : Nat) (fv : St) (J : It) (H1 : Hp) (QQ : List V → Hp → Prop) : Prop :=
  ∃ W : Nat → Nat → List V → Hp → Prop, (∃ m, W 0 m [] H1) ∧ ∀ i m ys H, W i m ys H → ys.length ≤ sizeLine ∧
    ((J.stop i H ∧ QQ ys H) ∨ (J.go i H ∧ ∃ N : List V → Hp → Prop, (∀ zs H2, N zs H2 → ∃ m', m' < m ∧ W (i + 1) m' zs H2) ∧
      ∀ x H', J.yld i H x H' → g x (List.replicate n none ++ fv) H' fun σ2 H2 => σ2.drop n = fv ∧ tt σ2 H2 fun b H3 => if b = true then te σ2 H3 (fun y H4 => N (ys ++ [y]) H4) else N ys H3))
section
variable {X : Cx} {scope : Scope} {fr : List (Str × Nat)} {xs : List Str} {elt iter tg : Expr} {ifs : List Expr} {pos : Pos} {te : TE} {tt : TT} {tgt : TG} {wi : TI}
theorem comp_coreG {pins : List (Addr × Obj)} {σ : St} {H : Hp} {s : Shared} {E : Value → Shared → Prop} {it : Addr} {fp : List Addr} {tn : Nat → Heap → Prop} {J : It} {RR : Value → Addr → Result → Shared → Prop} {QQ : List V → Hp → Prop} (hc : X.calm = true) (O : CompG X scope fr xs)
    (hg0 : ∀ C ex s H, PG (cxG X scope fr xs C ex s H) tg tgt) (ht : ∀ C ex s H, PTs (cxG X scope fr xs C ex s H) ifs tt) (he : ∀ C ex s H, PE (cxG X scope fr xs C ex s H) elt te) (I : Inv X pins σ H s) (T : Turn X.prog X.w X.K tg J fp it tn) (st : tn 0 s.heap) (hf : ∀ b ∈ fp, FpOk X pins H b) (hq : tCompG tgt tt te xs.length (frOf fr σ) J H QQ)
    (fin : ∀ D C H4 ys s4 m, Inv X pins σ (upd H4 D (.lst ys)) s4 → H4 D = none → FpOk X pins (upd H4 D (.lst ys)) C → s4.heap.Ns C m → QQ ys H4 → RR (.ref D) C (.ok .next) s4) :
    wpAny (model X.prog X.w) X.A (newList []) (fun acc s₃ => wpAny (model X.prog X.w) X.A (newFunctionEnv scope X.env.globals (clOf X.env fr) [] X.env.qual none .none (some X.env)) (fun cenv s₄ =>
      codeAny (model X.prog X.w) X.A (.compStart (.ListComp elt [⟨tg, iter, ifs, 0⟩] scope pos) 0 (.ref it) acc { cenv with scope := relabel scope X.env }) (RR acc cenv.locals) s₄) E s₃) E s := by
  obtain ⟨W, ⟨m0, w0⟩, turn⟩ := hq
  have hfs : ∀ b ∈ fp, b < s.heap.objs.size := fun b hb => by
    obtain ⟨o, e, _⟩ := T.obj 0 s.heap st b hb
    exact Heap.lt_size e
  refine wpAny_newObj_type (wpAny_newFunctionEnv O.cell (by intro y hy; simp at hy) (fun h₁ hns₁ hsb₁ => ?_) O.kind)
  dsimp only at hns₁ hsb₁ ⊢
  generalize hH2 : s.heap.push { cls := .type "list", dict := none, data := .seq ([] : List Value).toArray } = g at hns₁ hsb₁ ⊢
  have hg : g = s.heap.push (LCg.lst []) := hH2.symm
  have hsz : g.objs.size = s.heap.objs.size + 1 := by rw [hg, Heap.size_push]
  have hk : ∀ b o, g.get? b = some o → h₁.get? b = some o := fun b o e => hsb₁.extBut b o (Nat.ne_of_lt (Heap.lt_size e)) (Heap.get?_push_of_some _ e)
  have kp : ∀ b o, s.heap.get? b = some o → h₁.get? b = some o := fun b o e => hk b o (by rw [hg]; exact Heap.get?_push_of_some _ e)
  have J0 := inv_compG (h' := h₁) (tk := s.toks + ([] : List (Str × Value)).length) O I hf hfs hg hk hns₁
  have stat : ∀ {H' : Hp} {us : List Value}, (∀ b ∈ fp, H' b = none) → ∀ b ∈ fp, FpOk (cxG X scope fr xs g.objs.size (s.heap.objs.size :: fp) { s with heap := g } H) (X.pn ++ pins ++ [(s.heap.objs.size, LCg.lst us)]) H' b := fun {H' us} hn b hb => by
    obtain ⟨_, f1, f2, f3, f4, f5⟩ := hf b hb
    refine ⟨hn b hb, ?_, fun z => (List.mem_cons.mp (I.stkSub b z)).elim f1 f2, .inl (List.mem_cons_of_mem _ hb), fun y c e => f4 y c (O.cells I e), fun p hp => ?_⟩
    · show b ≠ g.objs.size
      rw [hsz]; exact Nat.ne_of_lt (Nat.lt_succ_of_lt (hfs b hb))
    · rcases List.mem_append.mp hp with hp | hp
      · cases hp
      · rcases List.mem_append.mp hp with hp | hp
        · exact f5 p hp
        · have ep : p = (s.heap.objs.size, LCg.lst us) := by simpa using hp
          rw [ep]
          exact Nat.ne_of_gt (hfs b hb)
  have loop : codeAny (model X.prog X.w) X.A (.compLoop (.ListComp elt [⟨tg, iter, ifs, 0⟩] scope pos) 0 (.ref it) (.ref s.heap.objs.size) (compEnvC scope (clOf X.env fr) g.objs.size X.env))
      (RR (.ref s.heap.objs.size) g.objs.size) { s with heap := h₁, toks := s.toks + ([] : List (Str × Value)).length } := by
    refine compLoopG (fun n s' => ∃ i ys us H', Inv (cxG X scope fr xs g.objs.size (s.heap.objs.size :: fp) { s with heap := g } H) (X.pn ++ pins ++ [(s.heap.objs.size, LCg.lst us)]) (nons xs ++ frOf fr σ) H' s' ∧ Vals ys us ∧ tn i s'.heap ∧ (∀ b ∈ fp, H' b = none) ∧ W i n ys H') ?_ m0
      ⟨0, [], [], H, J0, .nil, T.keep 0 s.heap h₁ st fun b _ o e => kp b o e, fun b hb => (hf b hb).1, w0⟩
    rintro n s3 ⟨i, ys, us, H3, J3, hv, st3, fr3, w3⟩
    obtain ⟨hlen, hh⟩ := turn i n ys H3 w3
    have none_err : ∀ {α : Type} {t : Sem α} {Q : α → Shared → Prop} {E' : Value → Shared → Prop} {s : Shared}, wpAny (model X.prog X.w) X.A t Q (fun _ _ => False) s → wpAny (model X.prog X.w) X.A t Q E' s := fun h => wpAny_mono h (fun _ _ q => q) fun _ _ z => z.elim
    have weakN : ∀ {σ6 : St}, σ6.length = (nons xs ++ frOf fr σ).length → σ6.drop xs.length = frOf fr σ → ∀ (i : Nat) v, (nons xs ++ frOf fr σ)[i]? = some (some v) → σ6[i]? = some (some v) := fun {σ6} hl6 e6 i v e => by
      by_cases hi : i < xs.length
      · rw [List.getElem?_append_left (by simpa using hi), List.getElem?_replicate, if_pos hi] at e
        cases e
      · rw [List.getElem?_append_right (by simp; omega), ← e6, List.getElem?_drop] at e
        have : xs.length + (i - (nons xs).length) = i := by simp; omega
        rw [this] at e
        exact e
    rcases hh with ⟨stop, qn⟩ | ⟨go, N, hN, step⟩
    · refine none_err (thn (T.done (cxG X scope fr xs g.objs.size (s.heap.objs.size :: fp) { s with heap := g } H) rfl rfl rfl hc i _ s3 _ H3 _ J3 (stat fr3) st3 stop) fun r s4 ⟨hr, J4⟩ => ?_)
      subst hr
      obtain ⟨I4, nD, fC, m, hn⟩ := inv_comp_endG I hf hg J4 hv hlen
      exact fin _ _ H3 ys s4 m I4 nD fC hn qn
    · refine none_err (thn (T.item (cxG X scope fr xs g.objs.size (s.heap.objs.size :: fp) { s with heap := g } H) rfl rfl rfl hc i _ s3 _ H3 _ J3 (stat fr3) st3 go) fun r s4 ⟨u, hr, h4⟩ => ?_)
      subst hr
      refine none_err (thn h4 fun _ s5 ⟨v, H5, J5, r5, y5, st5, fr5⟩ => ?_)
      have J5' := J5.pinned (stat fr5) (T.obj _ _ st5)
      refine none_err (thn (hg0 _ _ _ _ _ s5 _ H5 v u _ J5' r5 (step v H5 y5)) fun _ s6 ⟨σ6, H6, J6, e6, q6⟩ => ?_)
      refine none_err (thn (ht _ _ _ _ _ s6 σ6 H6 _ J6 q6) fun b s6' ⟨H6', J6', q6'⟩ => ?_)
      have hl6 : σ6.length = (nons xs ++ frOf fr σ).length := J6.len.trans J3.len.symm
      cases b with
      | false =>
        rw [if_neg Bool.false_ne_true] at q6' ⊢
        obtain ⟨m', hm, w7⟩ := hN ys H6' q6'
        have pinF : ∀ b ∈ fp, ∀ o, s5.heap.get? b = some o → s6'.heap.get? b = some o ∧ H6' b = none := fun b hb o e => by
          obtain ⟨q1, q2, _⟩ := J6'.pin (b, o) (List.mem_append_right _ (List.mem_append_right _ (mem_pinsAt hb e)))
          exact ⟨q1, q2⟩
        refine ⟨m', hm, i + 1, ys, us, H6', J6'.unpinned.weak (σ' := nons xs ++ frOf fr σ) hl6.symm (weakN hl6 e6), hv, T.keep _ _ _ st5 fun b hb o e => (pinF b hb o e).1, fun b hb => ?_, w7⟩
        obtain ⟨o, e, _⟩ := T.obj _ _ st5 b hb
        exact (pinF b hb o e).2
      | true =>
        rw [if_pos rfl] at q6' ⊢
        refine none_err (thn (he _ _ _ _ _ s6' _ H6' _ J6' q6') fun u7 s7 ⟨v7, H7, J7, r7, q7⟩ => ?_)
        obtain ⟨m', hm, w7⟩ := hN _ H7 q7
        obtain ⟨eD, nD, dC, dF, dd⟩ := J7.pin (s.heap.objs.size, LCg.lst us) (List.mem_append_right _ (List.mem_append_left _ (List.mem_append_right _ (by simp))))
        have hvl := hv.length
        refine append_at (hsz := by show us.toArray.size ≤ sizeLine; rw [List.size_toArray, ← hvl]; exact hlen) eD fun h8 hs8 hD8 => ?_
        have pinD : ∀ p ∈ X.pn ++ pins, p.1 ≠ s.heap.objs.size := fun p hp z => by
          have := Heap.lt_size (I.pin p hp).1
          rw [z] at this
          exact Nat.lt_irrefl _ this
        have J7a : Inv (cxG X scope fr xs g.objs.size (s.heap.objs.size :: fp) { s with heap := g } H) (X.pn ++ pins) _ H7 s7 := J7.pins_of fun p hp => J7.pin p (List.mem_append_right _ (List.mem_append_left _ (List.mem_append_left _ hp)))
        have J8 : Inv (cxG X scope fr xs g.objs.size (s.heap.objs.size :: fp) { s with heap := g } H) (X.pn ++ pins) _ H7 { s7 with heap := h8 } := J7a.turned (t' := s7.toks) (fun b o hb e => (hs8.2 b hb).trans e) nD dC (.inl List.mem_cons_self) (fun y c e z => by
          obtain ⟨w', q⟩ := I.cell y c (O.cells I e)
          have := q.lt
          rw [z] at this
          exact Nat.lt_irrefl _ this) (fun p hp => (List.mem_append.mp hp).elim (fun z => by cases z) (pinD p))
        have J9 : Inv (cxG X scope fr xs g.objs.size (s.heap.objs.size :: fp) { s with heap := g } H) (X.pn ++ pins ++ [(s.heap.objs.size, LCg.lst (us ++ [u7]))]) _ H7 { s7 with heap := h8 } := J8.pins_of fun p hp => by
          rcases List.mem_append.mp hp with hp | hp
          · exact J8.pin p (List.mem_append_right _ hp)
          · have ep : p = (s.heap.objs.size, LCg.lst (us ++ [u7])) := by simpa using hp
            subst ep
            exact ⟨hD8.trans (congrArg some (LCg.lst_snoc us u7)), nD, dC, dF, fun v z => by cases z⟩
        have J10 := J9.weak (σ' := nons xs ++ frOf fr σ) hl6.symm (weakN hl6 e6)
        have pinF : ∀ b ∈ fp, ∀ o, s5.heap.get? b = some o → s7.heap.get? b = some o ∧ H7 b = none := fun b hb o e => by
          obtain ⟨q1, q2, _⟩ := J7.pin (b, o) (List.mem_append_right _ (List.mem_append_right _ (mem_pinsAt hb e)))
          exact ⟨q1, q2⟩
        refine ⟨m', hm, i + 1, ys ++ [v7], us ++ [u7], H7, J10, hv.append (.cons r7 .nil), T.keep _ _ _ st5 fun b hb o e => (hs8.2 b (Nat.ne_of_lt (hfs b hb))).trans (pinF b hb o e).1, fun b hb => ?_, w7⟩
        obtain ⟨o, e, _⟩ := T.obj _ _ st5 b hb
        exact (pinF b hb o e).2
  exact codeAny_compStart_list loop (T.self X.A 0 _ _ _ (T.keep 0 s.heap h₁ st fun b _ o e => kp b o e) loop)
/-- [elt for tg in iter if ..] -/
def tCompE (wi : TI) (g : TG) (tt : TT) (te : TE) (n : Nat) (fr : List (Str × Nat)) : TE := fun σ H Q => wi σ H fun J H1 => tCompG g tt te n (frOf fr σ) J H1 fun ys H2 => ∀ D, H2 D = none → Q (.ref D) (upd H2 D (.lst ys))
theorem pe_compG (hc : X.calm = true) (O : CompG X scope fr xs) (hi : PI X tg iter wi) (hg0 : ∀ C ex s H, PG (cxG X scope fr xs C ex s H) tg tgt) (ht : ∀ C ex s H, PTs (cxG X scope fr xs C ex s H) ifs tt) (he : ∀ C ex s H, PE (cxG X scope fr xs C ex s H) elt te) (hs : ∀ x, foldedSetIterable iter X.env x = pure x := by intro _; rfl) :
    PE X (.ListComp elt [⟨tg, iter, ifs, 0⟩] scope pos) (tCompE wi tgt tt te xs.length fr) := by
  intro pins s σ H Q I h
  rw [eval_ListComp]
  refine wpAny_comprehension_free (use := none) rfl hs O.clos O.kind O.names (thn (hi pins s σ H _ I h) fun xv s1 h1 => thn h1 fun itv s2 h2 => ?_)
  obtain ⟨it, fp, tn, J, H2, e, I2, T, st2, f2, q2⟩ := h2
  subst e
  refine comp_coreG (RR := fun acc C => compPost (model X.prog X.w) X.A X.xe none (EP X pins σ Q) acc C) hc O hg0 ht he I2 T st2 f2 q2 ?_
  intro D C H4 ys s4 m I4 nD fC hn q4
  refine ⟨m, hn, fun h' hs' => ?_⟩
  obtain ⟨g0, g1, g2, g3, g4, g5⟩ := fC
  exact ⟨.ref D, _, I4.turned (t' := s4.toks) (fun b o hb e => (hs'.2 b hb).trans e) g0 g1 g3 g4 g5, rfl, q4 D nD⟩
/-- y = [elt for ..], y a plain local name -/
def tAsgCompG (i : Nat) (wi : TI) (g : TG) (tt : TT) (te : TE) (n : Nat) (fr : List (Str × Nat)) : TS := fun D σ H => wi σ H fun J H1 => tCompG g tt te n (frOf fr σ) J H1 fun ys H2 => ∀ a, H2 a = none → D.nx (σ.set i (some (.ref a))) (upd H2 a (.lst ys))
theorem ps_setCompG {i : Nat} {y : Str} {py spos : Pos} (hc : X.calm = true) (hN : X.N.Nodup) (hi' : X.N[i]? = some y) (hy : X.env.scope.names.lookup y = some .local) (O : CompG X scope fr xs) (hi : PI X tg iter wi) (hg0 : ∀ C ex s H, PG (cxG X scope fr xs C ex s H) tg tgt) (ht : ∀ C ex s H, PTs (cxG X scope fr xs C ex s H) ifs tt) (he : ∀ C ex s H, PE (cxG X scope fr xs C ex s H) elt te)
    (hsw : swapsWith (.ListComp elt [⟨tg, iter, ifs, 0⟩] scope pos) (some (.Name y py)) spos.line X.env = pure true := by rfl) (hs : ∀ x, foldedSetIterable iter X.env x = pure x := by intro _; rfl) :
    PS X (.Assign [.Name y py] (.ListComp elt [⟨tg, iter, ifs, 0⟩] scope pos) spos) (tAsgCompG i wi tgt tt te xs.length fr) := by
  intro pins s σ H D I h
  rw [exec_Assign_Name_used _ _ _ _ hsw]
  refine wpAny_bind (wpAny_standAt (wpAny_bind ?_))
  show wpAny _ X.A (do let _ ← comprehension (.ListComp elt [⟨tg, iter, ifs, 0⟩] scope pos) scope X.env _ (newList []) false (eval iter X.env) (some (assign (.Name y py) X.env))) _ _ s
  refine wpAny_bind (thn (wpAny_comprehension_free (use := some (assign (.Name y py) X.env)) (Q := fun _ s' => SP X pins D .next s') rfl hs O.clos O.kind O.names (thn (hi pins s σ H _ I h) fun xv s1 h1 => thn h1 fun itv s2 h2 => ?_)) fun _ s' hq => wpAny_pure (wpAny_pure hq))
  obtain ⟨it, fp, tn, J, H2, e, I2, T, st2, f2, q2⟩ := h2
  subst e
  refine comp_coreG (RR := fun acc C => compPost (model X.prog X.w) X.A X.xe (some (assign (.Name y py) X.env)) (fun _ s' => SP X pins D .next s') acc C) hc O hg0 ht he I2 T st2 f2 q2 ?_
  intro a C H4 ys s4 m I4 nD fC hn q4
  obtain ⟨g0, g1, g2, g3, g4, g5⟩ := fC
  obtain ⟨oC, eC, hoC⟩ := LCg.ns_obj hn
  have I5 : Inv X (pins ++ [(C, oC)]) σ (upd H4 a (.lst ys)) s4 := I4.pins_of fun p hp => by
    rcases List.mem_append.mp hp with hp | hp
    · exact I4.pin p (List.mem_append_right _ hp)
    · have ep : p = (C, oC) := by simpa using hp
      subst ep
      obtain ⟨es, epp, hd, _⟩ := hoC
      exact ⟨eC, g0, g1, g2, fun v z => by rw [hd] at z; cases z⟩
  show wpAny _ X.A (assign (.Name y py) X.env (.ref a)) _ _ _
  refine wpAny_assign_Name (store_ok I5 hN hi' (.inl hy) (v := .ref a) rfl (fun s6 I6 => ?_) (.inr hy))
  obtain ⟨e6, _⟩ := I6.pin (C, oC) (List.mem_append_right _ (List.mem_append_right _ (by simp)))
  refine ⟨m, hoC.ns e6, fun h' hs' => ?_⟩
  exact ⟨_, _, I6.unpinned.turned (t' := s6.toks) (fun b o hb e => (hs'.2 b hb).trans e) g0 g1 g3 g4 g5, q4 a nD⟩
end
/-! ### the forms one uses -/
theorem compG_list {K : PySem.W.Frag} {a : Addr} {xs : List V} {g : TG} {tt : TT} {te : TE} {n : Nat} {fv : St} {H1 : Hp} {QQ : List V → Hp → Prop} (Pv : Nat → List V → Hp → Prop) (hz : xs.length ≤ sizeLine) (h0 : Pv 0 [] H1) (hl : ∀ i ys H, i ≤ xs.length → Pv i ys H → SqL K H a xs)
    (hs : ∀ i x ys H, xs[i]? = some x → Pv i ys H → g x (List.replicate n none ++ fv) H fun σ2 H2 => σ2.drop n = fv ∧ tt σ2 H2 fun b H3 => if b = true then te σ2 H3 (fun y H4 => Pv (i + 1) (ys ++ [y]) H4) else Pv (i + 1) ys H3) (hd : ∀ ys H, Pv xs.length ys H → QQ ys H) (hy : ∀ i ys H, Pv i ys H → ys.length ≤ i)
    : tCompG g tt te n fv (Itl K a) H1 QQ := by
  refine ⟨fun i m ys H => m = xs.length - i ∧ i ≤ xs.length ∧ Pv i ys H, ⟨xs.length, by simp, Nat.zero_le _, h0⟩, ?_⟩
  rintro i m ys H ⟨rfl, hi, p⟩
  have q := hl i ys H hi p
  have hyl := hy i ys H p
  refine ⟨by omega, ?_⟩
  by_cases hlt : i < xs.length
  · refine .inr ⟨⟨xs, xs[i], q, by simp [hlt]⟩, fun zs H2 => Pv (i + 1) zs H2, fun zs H2 p2 => ⟨xs.length - (i + 1), by omega, rfl, hlt, p2⟩, fun x H' y => ?_⟩
    obtain ⟨e, y⟩ := y
    subst e
    exact hs i x ys _ (y xs q) p
  · have e : i = xs.length := by omega
    subst e
    exact .inl ⟨⟨xs, q, Nat.le_refl _⟩, hd ys H p⟩
theorem compG_range {lo : Int} {k : Nat} {g : TG} {tt : TT} {te : TE} {n : Nat} {fv : St} {H1 : Hp} {QQ : List V → Hp → Prop} (Pv : Nat → List V → Hp → Prop) (hz : k ≤ sizeLine) (h0 : Pv 0 [] H1)
    (hs : ∀ i ys H, i < k → Pv i ys H → g (.int (lo + i)) (List.replicate n none ++ fv) H fun σ2 H2 => σ2.drop n = fv ∧ tt σ2 H2 fun b H3 => if b = true then te σ2 H3 (fun y H4 => Pv (i + 1) (ys ++ [y]) H4) else Pv (i + 1) ys H3) (hd : ∀ ys H, Pv k ys H → QQ ys H) (hy : ∀ i ys H, Pv i ys H → ys.length ≤ i)
    : tCompG g tt te n fv (Itr lo k) H1 QQ := by
  refine ⟨fun i m ys H => m = k - i ∧ i ≤ k ∧ Pv i ys H, ⟨k, by simp, Nat.zero_le _, h0⟩, ?_⟩
  rintro i m ys H ⟨rfl, hi, p⟩
  have hyl := hy i ys H p
  refine ⟨by omega, ?_⟩
  by_cases hlt : i < k
  · refine .inr ⟨hlt, fun zs H2 => Pv (i + 1) zs H2, fun zs H2 p2 => ⟨k - (i + 1), by omega, rfl, hlt, p2⟩, fun x H' y => ?_⟩
    obtain ⟨e, y⟩ := y
    subst e y
    exact hs i ys _ hlt p
  · have e : i = k := by omega
    subst e
    exact .inl ⟨Nat.le_refl _, hd ys H p⟩
end L2
namespace L2
open PySem PySem.Spec PyProof.Rows
/-! ### rules whose reading names the part K itself (for the blocks of comprehensions) -/
section
variable {X : Cx} {K : PySem.W.Frag} {pos : Pos}
theorem ixK_list (h : X.K = K) : IxR X (rIxL K) := h ▸ ix_list
theorem ixK_tup (h : X.K = K) : IxR X (rIxT K) := h ▸ ix_tup
theorem pgK_tup {es : List Expr} {k : Nat} {t : TGs} {n : Nat} (hK : X.K = K) (hc : X.calm = true) (h : PGs X es t) (hn : (assignEach es X.env).length = n := by rfl) (hst : (assignEach es X.env).findIdx? (·.1) = none := by rfl) : PG X (.Tuple es k pos) (gTup K n t) := hK ▸ pg_tup hc h hn hst
end
end L2

namespace L2
open PySem PySem.Spec PyProof.Rows
section
variable {X : Cx}
/-- xs.insert(k, y), k within the list -/
def rInsert : V → List V → Hp → VK → Prop := fun x vs H Q => ∃ l xs k y, x = .ref l ∧ vs = [.int k, y] ∧ H l = some (.lst xs) ∧ 0 ≤ k ∧ k ≤ xs.length ∧ xs.length < sizeLine ∧ Q .non (upd H l (.lst (xs.take k.toNat ++ y :: xs.drop k.toNat)))
theorem mt_insert : MtM X "list.insert" rInsert := by
  intro pins s σ H x vs v us Q I rx rv h
  obtain ⟨l, xs, k, y, rfl, rfl, hH, h0, hk, hz, q⟩ := h
  cases rx
  obtain ⟨u1, u2, rfl, r1, r2⟩ := rv.two
  obtain ⟨t, rfl⟩ := r1
  obtain ⟨z, its, n, r, hl, e⟩ := I.lstM hH
  have hn := line63
  have hfit : ¬ (!Builtin.List.listFitsIndex k) = true := by
    rw [fitsIndex_both (by omega) (by omega)]
    exact Bool.false_ne_true
  refine call_meets F.slot_list_insert ⟨_, e, rfl⟩ F.entry_list_insert (F.args_list_insert_3 _ _ _) (AutoListH.list_insert_list_int_val_1 l its.toArray n k t u2 hfit (by rw [List.size_toArray]; omega)) ⟨e, ?_⟩
  refine ⟨.non, _, I.lset (its' := its.take k.toNat ++ u2 :: its.drop k.toNat) hH e ?_ ((r.take _).append (.cons r2 (r.drop _))) ?_, rfl, q⟩
  · dsimp only
    rw [if_neg (by omega), List.size_toArray, Nat.min_eq_left (by omega)]
    simp
    exact List.take_of_length_le (by rw [List.length_drop]; omega)
  · rw [List.length_append, List.length_cons, List.length_take, List.length_drop]
    omega
/-- sum of a list of ints -/
theorem ints_are : ∀ {ns : List Int} {us : List Value}, Vals (ns.map V.int) us → IntsAre us ns
  | [], _, .nil => .nil
  | n :: ns, _, .cons r rr => by
    obtain ⟨t, rfl⟩ := r
    exact .cons n t (ints_are rr)
theorem call_sum (hc : X.calm = true) : CallR X (.builtin "sum") (fun xs H Q => ∃ (p : Addr) (ns : List Int), xs = [.ref p] ∧ SqL X.K H p (ns.map V.int) ∧ Q (.int ns.sum) H) := by
  intro pins s σ H xs us Q I r h
  obtain ⟨p, ns, rfl, hq, q⟩ := h
  obtain ⟨u, rfl, ru⟩ := vals1 r
  cases ru
  obtain ⟨its, rv, pl, hz⟩ := I.list hq
  have hi := ints_are rv
  obtain ⟨zs, e⟩ := hi.allInts.items
  have hns : (numsOf its) = ns := hi.numsOf
  have hl : s.heap.IsList p (intItems zs) := by rw [← e]; exact pl.isList
  refine sum_intListG (I.ok.hd hc) hl fun h' tk t' hk => ⟨.int ns.sum, H, I.kept (t' := tk) hk, ⟨t', ?_⟩, q⟩
  have h2 : numsOf (intItems zs).toList = ns := by rw [← e]; exact hns
  rw [nums_intItems] at h2
  rw [preSum_eq, List.take_of_length_le (by simp), ← h2]
end
end L2
namespace L2
open PySem PySem.Spec PyProof.Rows
section
variable {X : Cx}
end
end L2

namespace L2
open PySem PySem.Spec PyProof.Rows
section
variable {X : Cx}
end
end L2
namespace L2
open PySem PySem.Spec PyProof.Rows
section
variable {X : Cx} {tg : Expr}
end
end L2

namespace L2
open PySem PySem.Spec PyProof.Rows
theorem bt_min : bootBuiltins "min" = some (.builtin "min") := by decide +kernel
theorem bt_max : bootBuiltins "max" = some (.builtin "max") := by decide +kernel
section
variable {X : Cx}
def rCatS (K : PySem.W.Frag) : R2 := fun x y H Q => ∃ l b xs zs, x = .ref l ∧ y = .ref b ∧ SqL K H l xs ∧ SqL K H b zs ∧ xs.length + zs.length ≤ sizeLine ∧ ∀ p, H p = none → Q (.ref p) (upd H p (.lst (xs ++ zs)))
theorem op_catS : OpR X (binaryOp .Add) (rCatS X.K) := by
  intro pins s σ H x y v u Q I rx ry h
  obtain ⟨l, b, xs, zs, rfl, rfl, hH, hB, hz, q⟩ := h
  cases rx
  cases ry
  obtain ⟨its, r, pl, _⟩ := I.list hH
  obtain ⟨its2, r2, pl2, _⟩ := I.list hB
  obtain ⟨⟨cls, dd, data, sl⟩, ho, hc, n, hd⟩ := pl.isList
  obtain ⟨⟨cls2, dd2, data2, sl2⟩, ho2, hc2, n2, hd2⟩ := pl2.isList
  simp only at hc hd hc2 hd2
  subst hc hd hc2 hd2
  have ea : its.toArray ++ its2.toArray = (its ++ its2).toArray := by simp
  have e1 := r.length
  have e2 := r2.length
  refine concat_meets ⟨_, ho, rfl⟩ ⟨_, ho2, rfl⟩ noFill_list_add seq_list_add PySem.F.slot_list_add PySem.F.entry_list_add (PySem.F.args_list_add_2 _ _) (list_addW l b its.toArray its2.toArray n n2 dd dd2 sl sl2 (by rw [List.size_toArray, List.size_toArray]; omega)) ⟨ho, ho2, ?_⟩
  rw [ea]
  exact ⟨.ref _, _, I.lnew (t' := s.toks) (r.append r2) (by rw [List.length_append]; omega), rfl, q _ I.fresh⟩
end
end L2
namespace L2
open PySem PySem.Spec PyProof.Rows
theorem bt_sum : bootBuiltins "sum" = some (.builtin "sum") := by decide +kernel
theorem yesT {σ : St} {H : Hp} {A B : Hp → Prop} (h : A H) : tYes σ H fun b H3 => if b = true then A H3 else B H3 :=
  show (if true = true then A H else B H) from iteT (B := B H) h
/-! ### zip(list, list), walked by a pair of names -/
section
variable {X : Cx}
end
section
variable {X : Cx}
end
end L2
/-! ### lists of things of one kind -/
namespace L2
open PySem PySem.Spec PyProof.Rows
def LsAt {α : Type} (R : Hp → V → α → Prop) (H : Hp) (ys : List V) (xs : List α) : Prop := ys.length = xs.length ∧ ∀ (i : Nat) (x : α), xs[i]? = some x → ∃ y, ys[i]? = some y ∧ R H y x
theorem LsAt.nil {α : Type} {R : Hp → V → α → Prop} {H : Hp} : LsAt R H [] [] := ⟨rfl, fun i x e => by simp at e⟩
theorem LsAt.imp {α : Type} {R R' : Hp → V → α → Prop} {H H' : Hp} {ys : List V} {xs : List α} (h : LsAt R H ys xs) (m : ∀ y x, R H y x → R' H' y x) : LsAt R' H' ys xs := ⟨h.1, fun i x e => by
  obtain ⟨y, a, b⟩ := h.2 i x e
  exact ⟨y, a, m y x b⟩⟩
theorem LsAt.snoc {α : Type} {R : Hp → V → α → Prop} {H : Hp} {ys : List V} {xs : List α} {y : V} {x : α} (h : LsAt R H ys xs) (r : R H y x) : LsAt R H (ys ++ [y]) (xs ++ [x]) := by
  refine ⟨by rw [List.length_append, List.length_append, h.1]; rfl, fun j k e => ?_⟩
  by_cases hj : j < xs.length
  · rw [List.getElem?_append_left hj] at e
    obtain ⟨p, a1, a2⟩ := h.2 j k e
    exact ⟨p, by rw [List.getElem?_append_left (by rw [h.1]; exact hj)]; exact a1, a2⟩
  · rw [List.getElem?_append_right (by omega)] at e
    have hj2 : j = xs.length := by
      have := (List.getElem?_eq_some_iff.mp e).1
      rw [List.length_singleton] at this
      omega
    subst hj2
    rw [Nat.sub_self] at e
    cases e
    exact ⟨y, by rw [← h.1, List.getElem?_append_right (Nat.le_refl _), Nat.sub_self]; rfl, r⟩
theorem LsAt.get {α : Type} {R : Hp → V → α → Prop} {H : Hp} {ys : List V} {xs : List α} {i : Nat} {y : V} (h : LsAt R H ys xs) (e : ys[i]? = some y) : ∃ x, xs[i]? = some x ∧ R H y x := by
  have hi : i < xs.length := by rw [← h.1]; exact (List.getElem?_eq_some_iff.mp e).1
  obtain ⟨z, a, b⟩ := h.2 i _ (List.getElem?_eq_getElem hi)
  rw [e] at a
  cases a
  exact ⟨_, List.getElem?_eq_getElem hi, b⟩
end L2

namespace L2
open PySem PySem.Spec PyProof.Rows
section
variable {X : Cx}
end
/-! ### a for whose iterable may raise, and whose body does not -/
section
variable {X : Cx} {tg : Expr}
end
/-! ### a def with defaults -/
section
variable {P : Program} {w : World} {K : PySem.W.Frag} {mg : Str → Option Value} {base : Heap}
end
end L2

namespace L2
open PySem PySem.Spec PyProof.Rows
section
variable {X : Cx}
end
end L2

namespace L2
open PySem PySem.Spec PyProof.Rows
/-! ### zip walked by one name: its pair may be handed out anew or made anew -/
section
variable {prog : Program} {w : World} {A : Around} {E : Value → Shared → Prop} {s : Shared} {z TI TO i1 i2 l1 l2 : Addr} {f0 : Value} {f1 : Bool}
end
section
variable {X : Cx}
end
end L2

namespace L2
open PySem PySem.Spec PyProof.Rows
section
variable {X : Cx}
end
end L2

namespace L2
open PySem PySem.Spec PyProof.Rows
/-! ### d.items(), walked by two names: the dict is held still meanwhile -/
section
variable {prog : Program} {w : World} {A : Around} {E : Value → Shared → Prop} {s : Shared} {d : Addr}
end
section
variable {X : Cx} {pins : List (Addr × Obj)} {σ : St} {H : Hp} {s : Shared} {d : Addr} {u : HO} {o : Obj}
end
section
variable {X : Cx}
end
end L2

namespace L2
open PySem PySem.Spec PyProof.Rows
/-! ## min(d, key=lambda each: told[each]), d a dict with ints for keys -/
abbrev lamPrm (p : Pos) : Arguments := { posonlyargs := [], args := [{ arg := "each", annotation := none, pos := p }], vararg := none, kwonlyargs := [], kw_defaults := [], kwarg := none, defaults := [] }
abbrev lamSc : Scope := { kind := .function, names := [("each", .local), ("told", .free)], isGenerator := false, isCoroutine := false, more := [] }
abbrev lamBd (p1 p2 p3 : Pos) : Expr := .Subscript (.Name "told" p1) (.Name "each" p2) p3
section
variable {prog : Program} {w : World} {A : Around} {E : Value → Shared → Prop} {s : Shared}
/-- the lambda is called -/
theorem lam_run {f c' ct t : Addr} {qual : Str} {p0 p1 p2 p3 : Pos} {pm ctv v : Value} {its : Array Value} {k : Int} {tk : Tok} {Q : Value → Shared → Prop}
    (hroom : A.depth < recursionLimit) (hf : s.heap.get? f = some (PySem.W.kla_obj "<lambda>" qual (lamPrm p0) (lamBd p1 p2 p3) lamSc [("told", ct)] pm c' ctv)) (hcr : s.heap.CodeRec (.ref c') qual) (lim : s.heap.NoLimit)
    (hc : s.heap.IsCell ct (some (.ref t))) (hl : s.heap.IsList t its) (k0 : 0 ≤ k) (k63 : k < 2 ^ 63) (hit : its[k.toNat]? = some v)
    (hQ : ∀ h' tk', (∀ b o, s.heap.get? b = some o → h'.get? b = some o) → Q v { s with heap := h', toks := tk' }) :
    wpAny (model prog w) A (call (.ref f) [.int k tk]) Q E s := by
  refine wpAny_call (PySem.W.kla_callFunE hroom hf rfl rfl rfl rfl hcr ?_)
  have hb : bindArgs (PySem.W.kla_fn "<lambda>" qual (lamPrm p0) (lamBd p1 p2 p3) lamSc [("told", ct)] pm (.ref c') ctv) ⟨[.int k tk], []⟩ = (pure [(("each" : Str), Value.int k tk)] : Sem (List (Str × Value))) := rfl
  rw [hb]
  refine wpAny_pure (wpAny_newFunctionEnv (fun x hx => ?_) (fun x hx => ?_) (fun h1 hns hsb => ?_) rfl)
  · have hx' : x = (("each" : Str), NameKind.local) ∨ x = (("told" : Str), NameKind.free) := by simpa using hx
    rcases hx' with rfl | rfl <;> exact fun z => by cases z
  · rw [List.mem_singleton.mp hx]
    rfl
  have kp : ∀ b o, s.heap.get? b = some o → h1.get? b = some o := fun b o e => hsb.extBut b o (Nat.ne_of_lt (Heap.lt_size e)) (Heap.get?_push_of_some _ e)
  refine ⟨lim.keeps kp, PySem.W.kla_codeExpr ?_⟩
  refine Subscript_ (wpAny_Name (wpAny_loadName_free (c := ct) rfl rfl rfl (hc.keeps kp) ?_))
  refine wpAny_Name (wpAny_loadName_local rfl rfl hns rfl ?_)
  exact item_listR (hl.at fun o e => kp _ _ e) k0 k63 hit (hQ _ _ kp)
abbrev Kp (h h' : Heap) : Prop := ∀ b o, h.get? b = some o → h'.get? b = some o
theorem Kp.but {g h h' : Heap} {I : Addr} (k : Kp g h) (n : g.get? I = none) (m : ∀ b o, b ∉ [I] → h.get? b = some o → h'.get? b = some o) : Kp g h' := fun b o e => m b o (fun z => by rw [List.mem_singleton.mp z, n] at e; cases e) (k b o e)
theorem Kp.same {g h h' : Heap} {S : Addr} (k : Kp g h) (n : g.get? S = none) (m : Heap.SameBut S h h') : Kp g h' := fun b o e => (m.2 b (fun z => by rw [z, n] at e; cases e)).trans (k b o e)
/-- the loop of min, one key behind the other -/
theorem min_walk {J S q : Addr} {fp : List Addr} {n : Nat} {P : Nat → Value → Prop} {St : Nat → Heap → Prop} {g : Heap} {R : Result → Shared → Prop} (W : Walks prog w A.in1 J fp [J] n P St) (gJ : g.get? J = none) (gS : g.get? S = none) (hSJ : S ≠ J) (hSf : S ∉ fp)
    (turn : ∀ i v, i < n → P i v → ∀ (h : Heap) (tk : Nat) (Q : Value → Shared → Prop) (E : Value → Shared → Prop), Kp g h → (∀ nv t h' tk', Kp h h' → Q (.int nv t) { s with heap := h', toks := tk' }) → wpAny (model prog w) A.in1 (call (.ref q) [v]) Q E { s with heap := h, toks := tk })
    (fin : ∀ i v h' tk', i < n → P i v → Kp g h' → R (.ok (.ret v)) { s with heap := h', toks := tk' }) :
    ∀ (r j i : Nat) (h : Heap) (tk : Nat) (vb : Value) (nb : Int) (tb : Tok) (c : Nat), n - (j + 1) = r → j + 1 ≤ n → Kp g h → h.get? S = some (seqObj "list" #[vb, .int nb tb] c) → St (j + 1) h → i < n → P i vb →
      codeAny (model prog w) A (.builtin "min.loop" ⟨[.ref J, .ref q, .ref S], []⟩) R { s with heap := h, toks := tk } := by
  have nm : (toString "min" ++ toString ".loop" : String) = "min.loop" := by decide
  intro r
  induction r with
  | zero =>
    intro j i h tk vb nb tb c er hj kg hS st hi hP
    have ej : j + 1 = n := by omega
    refine codeAny_builtin PySem.F.entry_min_loop ?_; rw [Around.under_plainId PySem.F.plain_min_loop _]
    refine wpAny_bind (m := seqItems? (.ref S)) (wpAny_seqItems hS rfl ?_)
    show wpAny _ A.in1 (tryCatch (pyNext (.ref J)) _ >>= _) _ _ _
    refine wpAny_bind (wpAny_tryCatch (W.done _ _ _ (by rw [← ej]; exact st) fun h' tk' kk => ?_))
    have kg' := kg.but gJ kk
    have hS' := kk S _ (by simpa using hSJ) hS
    have su := Heap.SameBut.update h' S (Obj.mapSeq fun _ => (#[] : Array Value))
    refine wpAny_bind (m := updateSeq S fun _ => #[]) (wpAny_updateSeq hS' rfl (wpAny_bind (wpAny_letGo (wpAny_pure ?_))))
    exact fin i vb _ _ hi hP (kg'.same gS su)
  | succ r ih =>
    intro j i h tk vb nb tb c er hj kg hS st hi hP
    have lt : j + 1 < n := by omega
    refine codeAny_builtin PySem.F.entry_min_loop ?_; rw [Around.under_plainId PySem.F.plain_min_loop _]
    refine wpAny_bind (m := seqItems? (.ref S)) (wpAny_seqItems hS rfl ?_)
    show wpAny _ A.in1 (tryCatch (pyNext (.ref J)) _ >>= _) _ _ _
    refine wpAny_bind (wpAny_tryCatch (W.item (j + 1) _ _ _ lt st fun v h1 tk1 hv st1 k1 => ?_))
    have kg1 := kg.but gJ k1
    have hS1 := k1 S _ (by simpa using hSJ) hS
    show wpAny _ A.in1 (tryCatch (holding [v] (call (.ref q) [v])) _ >>= _) _ _ _
    refine wpAny_bind (wpAny_tryCatch (wpAny_holding (turn (j + 1) v lt hv h1 tk1 _ _ kg1 fun nv t h2 tk2 k2 => ?_)))
    have kg2 : Kp g h2 := fun b o e => k2 b o (kg1 b o e)
    have hS2 := k2 _ _ hS1
    have st2 := W.frame _ _ h2 st1 fun b _ o e => k2 b o e
    show wpAny _ A.in1 (tryCatch (holding [v, .int nv t] (richCompare .Lt (.int nv t) (.int nb tb) >>= _)) _ >>= _) _ _ _
    refine wpAny_bind (wpAny_tryCatch (wpAny_holding (wpAny_bind (CmpOf.ints_lt (prog := prog) (w := w) (A := A.in1) (P := fun (i : Nat) v => ∃ t, v = .int (if i = 0 then nv else nb) t) (fun i => if i = 0 then nv else nb) (fun i v h => h) 0 1 _ _ _ _ _ ⟨t, rfl⟩ ⟨tb, rfl⟩ ?_))))
    refine wpAny_bind (wpAny_holding (wpAny_truthy_bool (wpAny_bind (wpAny_letGo (wpAny_pure ?_)))))
    by_cases cc : nv < nb
    · have su := Heap.SameBut.update h2 S (Obj.mapSeq fun _ => #[v, .int nv t])
      obtain ⟨c2, hc2⟩ : ∃ c2, (h2.update S (Obj.mapSeq fun _ => #[v, .int nv t])).get? S = some (seqObj "list" #[v, .int nv t] c2) := ⟨_, get?_update_seq hS2 fun _ => #[v, .int nv t]⟩
      simp [cc]
      refine wpAny_bind (wpAny_updateSeq hS2 rfl (wpAny_bind (wpAny_letGo ?_)))
      refine wpAny_pure ⟨plainId_quiet PySem.F.plain_min_loop _, ih (j + 1) (j + 1) _ _ v nv t c2 (by omega) lt (kg2.same gS su) hc2 (W.frame _ _ _ st2 fun b hb o e => (su.2 b (fun z => hSf (z ▸ hb))).trans e) lt hv⟩
    · simp [cc]
      refine wpAny_bind (wpAny_letGo (wpAny_pure ?_)); refine ⟨plainId_quiet PySem.F.plain_min_loop _, ih (j + 1) i _ _ vb nb tb c (by omega) lt kg2 hS2 st2 hi hP⟩
theorem min_key {d q : Addr} {KK : Type} [DecidableEq KK] {knd : PySem.KeyKind prog w KK} {kvs : List (KK × Value)} {ep : Nat} {Q : Value → Shared → Prop} (hh : A.handled = none) (hd : Heap.DictAt knd s.heap d kvs ep) (ds : (d == sysModules) = false) (hne : 0 < kvs.length)
    (turn : ∀ (i : Nat) (v : Value) (k : KK) (x : Value), kvs[i]? = some (k, x) → knd.is k v = true → ∀ (h : Heap) (tk : Nat) (Q : Value → Shared → Prop) (E : Value → Shared → Prop), Kp s.heap h → (∀ nv t h' tk', Kp h h' → Q (.int nv t) { s with heap := h', toks := tk' }) → wpAny (model prog w) A.in1 (call (.ref q) [v]) Q E { s with heap := h, toks := tk })
    (fin : ∀ (i : Nat) (v : Value) (k : KK) (x : Value) (h' : Heap) (tk' : Nat), kvs[i]? = some (k, x) → knd.is k v = true → Kp s.heap h' → Q v { s with heap := h', toks := tk' }) :
    wpAny (model prog w) A (call (.builtin "min") [.ref d] [(Str.ofString "key", .ref q)]) Q E s := by
  have nm : (toString "min" ++ toString ".loop" : String) = "min.loop" := by decide
  obtain ⟨od, _, hod, _⟩ := id hd
  have dl : d < s.heap.objs.size := Heap.lt_size hod
  refine kmk_tree PySem.F.kind_min PySem.F.plain_min PySem.F.entry_min (kmk_min_key _ _) ?_
  show wpAny _ A.in1 (Builtin.Builtins.bindParams "min" ["key", "default"] 0 ⟨[], [(Str.ofString "key", .ref q)]⟩ >>= _) _ _ s
  refine wpAny_bind (wpAny_of_eq (show Builtin.Builtins.bindParams "min" ["key", "default"] 0 ⟨[], [(Str.ofString "key", .ref q)]⟩ = pure [some (.ref q), none] from rfl) (wpAny_bind (wpAny_pure (wpAny_bind (wpAny_pyIter_dict ds hd ?_)))))
  refine wpAny_bind (wpAny_newList ?_ (Nat.zero_le _)); rw [nm]
  obtain ⟨ob, eob⟩ : ∃ ob : Obj, ob = { cls := Value.type "dict_keyiterator", data := Data.fields #[Value.ref d, Value.int 0 0, Value.int (kvs.length : Int) 0, Value.int (ep : Int) 0] } := ⟨_, rfl⟩
  rw [← eob]
  have sz : (s.heap.push ob).objs.size = s.heap.objs.size + 1 := by rw [Heap.size_push]
  have neS : (s.heap.push ob).objs.size ≠ s.heap.objs.size := by omega
  have neD : d ≠ s.heap.objs.size := Nat.ne_of_lt dl
  have fr : ∀ b, s.heap.objs.size ≤ b → s.heap.get? b = none := fun b hb => Heap.get?_none_of_le hb
  have kp : Kp s.heap ((s.heap.push ob).push (seqObj "list" #[] 0)) := fun b o e => Heap.get?_push_of_some _ (Heap.get?_push_of_some _ e)
  have hS : ((s.heap.push ob).push (seqObj "list" #[] 0)).get? (s.heap.push ob).objs.size = some (seqObj "list" #[] 0) := Heap.get?_push_size _ rfl
  have hJ : ((s.heap.push ob).push (seqObj "list" #[] 0)).get? s.heap.objs.size = some ob := Heap.get?_push_of_some _ (Heap.get?_push_size _ (by rw [eob]; rfl))
  have W := Walks.dictKeys (prog := prog) (w := w) (knd := knd) (A := A.in1) hh s.heap.objs.size d neD kvs ep
  have turn' : ∀ (i : Nat) (v : Value), i < kvs.length → (∃ k x, kvs[i]? = some (k, x) ∧ knd.is k v = true) → ∀ (h : Heap) (tk : Nat) (Q : Value → Shared → Prop) (E : Value → Shared → Prop), Kp s.heap h → (∀ nv t h' tk', Kp h h' → Q (.int nv t) { s with heap := h', toks := tk' }) → wpAny (model prog w) A.in1 (call (.ref q) [v]) Q E { s with heap := h, toks := tk } := fun i v _ ⟨k, x, e1, e2⟩ => turn i v k x e1 e2
  refine wpAny_pure ⟨plainId_quiet PySem.F.plain_min_loop _, codeAny_builtin PySem.F.entry_min_loop ?_⟩; rw [Around.under_plainId PySem.F.plain_min_loop _]
  refine wpAny_bind (m := seqItems? (.ref (s.heap.push ob).objs.size)) (wpAny_seqItems hS rfl ?_)
  show wpAny _ A.in1 (tryCatch (pyNext (.ref s.heap.objs.size)) _ >>= _) _ _ _
  refine wpAny_bind (wpAny_tryCatch (W.item 0 _ _ _ hne ⟨⟨ob, hJ, by rw [eob], by rw [eob]; rfl⟩, hd.at' fun o e => kp _ _ e⟩ fun v h1 tk1 hv st1 k1 => ?_))
  have kg1 := kp.but (fr _ (Nat.le_refl _)) k1
  have hS1 := k1 _ _ (by simpa using neS) hS
  show wpAny _ A.in1 (tryCatch (holding [v] (call (.ref q) [v])) _ >>= _) _ _ _
  refine wpAny_bind (wpAny_tryCatch (wpAny_holding (turn' 0 v hne hv h1 tk1 _ _ kg1 fun nv t h2 tk2 k2 => ?_)))
  have kg2 : Kp s.heap h2 := fun b o e => k2 b o (kg1 b o e)
  have hS2 := k2 _ _ hS1
  have st2 := W.frame _ _ h2 st1 fun b _ o e => k2 b o e
  have su := Heap.SameBut.update h2 (s.heap.push ob).objs.size (Obj.mapSeq fun _ => #[v, .int nv t])
  obtain ⟨c2, hc2⟩ : ∃ c2, (h2.update (s.heap.push ob).objs.size (Obj.mapSeq fun _ => #[v, .int nv t])).get? (s.heap.push ob).objs.size = some (seqObj "list" #[v, .int nv t] c2) := ⟨_, get?_update_seq hS2 fun _ => #[v, .int nv t]⟩
  have nf : (s.heap.push ob).objs.size ∉ [s.heap.objs.size, d] := fun z => by
    rcases List.mem_cons.mp z with z | z
    · exact neS z
    · have z' := List.mem_singleton.mp z
      exact absurd dl (by rw [← z', sz]; exact Nat.not_lt_of_le (Nat.le_succ _))
  refine wpAny_bind (m := updateSeq _ fun _ => #[v, .int nv t]) (wpAny_updateSeq hS2 rfl ?_); rw [nm]
  refine wpAny_pure ⟨plainId_quiet PySem.F.plain_min_loop _, min_walk W (fr _ (Nat.le_refl _)) (fr _ (by omega)) neS nf turn' (fun i v h' tk' _ ⟨k, x, e1, e2⟩ kk => fin i v k x h' tk' e1 e2 kk) _ 0 0 _ _ v nv t c2 rfl hne (kg2.same (fr _ (by omega)) su) hc2 (W.frame _ _ _ st2 fun b hb o e => (su.2 b (fun z => nf (z ▸ hb))).trans e) hne hv⟩
end
/-! ### a code's table grows -/
section
variable {X : Cx} {pins : List (Addr × Obj)} {σ : St} {H : Hp} {s : Shared} {h' : Heap} {T : Addr} {ps more : Array Value} {t' : Nat}
theorem Inv.tab (I : Inv X pins σ H s) (e : H T = some (.tbl ps)) (hx : ∀ b o, b ≠ T → s.heap.get? b = some o → h'.get? b = some o) (hT : h'.get? T = some { cls := .none, data := .fields (ps ++ more) }) :
    Inv X pins σ (upd H T (.tbl (ps ++ more))) { s with heap := h', toks := t' } := by
  have ne : ∀ {b : Addr} {o : Option HO}, H b = o → o ≠ some (.tbl ps) → b ≠ T := fun q n z => n (by rw [← q, z, e])
  refine I.un ⟨fun b o g n _ _ => hx b o (ne n (by simp)) g, fun b o g n _ _ => ⟨o.slots, hx b o (ne n (by simp)) g⟩, fun b o g n _ => ?_, fun b o g _ => ?_, fun b xs q => ?_, fun b o u q => ?_, fun b p q => ?_⟩ fun b u q => ?_
  · rw [upd_ne (ne n (by simp))]
    exact n
  · by_cases z : b = T
    · rw [z]; exact ⟨_, hT⟩
    · exact ⟨o, hx b o z g⟩
  · rw [upd_ne (ne q (by simp))]
    exact q
  · rw [upd_ne (ne q (by simp))]
    exact q
  · by_cases z : b = T
    · subst z
      rw [e] at q
      cases q
      exact ⟨more, upd_same⟩
    · exact ⟨#[], by rw [upd_ne z, q]; simp⟩
  · by_cases z : b = T
    · subst z
      rw [upd_same] at q
      cases q
      exact hT
    · rw [upd_ne z] at q
      refine (I.hok b u q).stay (fun c o hc g => hx c o (fun y => ?_) g) (fun c g => ?_) fun c o g => ?_
      · rcases hc with y2 | y2
        · exact z (y2 ▸ y)
        · rw [y, e] at y2; cases y2
      · rw [upd_ne (ne g (by simp))]; exact g
      · rw [upd_ne (ne g (by simp))]; exact g
end
/-- the code of the lambda -/
def codO (c : Addr) (q : Str) : HO := .ext fun h => h.CodeRec (.ref c) q
/-- the table of the def's code: empty, or with the lambda's code -/
def Tb (q : Str) (lp : Pos) (T : Addr) (H : Hp) : Prop := H T = some (.tbl #[]) ∨ ∃ c, H T = some (.tbl #[rawInt lp.line, rawInt lp.col, .ref c]) ∧ H c = some (codO c q)
/-- all but the table is as it was -/
def TbS (T : Addr) (H H' : Hp) : Prop := ∀ b o, b ≠ T → H b = some o → H' b = some o
/-- what a def shows that holds the lambda -/
structure Lam (X : Cx) (c T ct : Addr) (lq : Str) : Prop where
  code : X.env.code = .ref c
  hd : PySem.W.CodeHd X.base c T
  bm : ∃ bm o, X.mg "__builtins__" = some (.ref bm) ∧ bm ≠ builtinsNs ∧ X.base.get? bm = some o ∧ o.cls = .type "module" ∧ o.dict = some builtinsNs ∧ o.data = .plain
  kind : X.env.kindOf "told" = some .cell
  cl : closureFor lamSc X.env = pure [(("told" : Str), ct)]
  cell : X.env.cells.lookup ("told" : Str) = some ct
  q : X.env.qual ++ "<lambda>" = lq
theorem kv_at {κ : Type} : ∀ {kvs : List (κ × V)} {vs : List (κ × Value)}, KV kvs vs → ∀ {i : Nat} {k : κ} {y : Value}, vs[i]? = some (k, y) → ∃ kv, kv ∈ kvs ∧ k = kv.1
  | _, _, .nil, i, k, y, e => by simp at e
  | p :: _, q :: _, .cons h r, 0, k, y, e => by
    cases e
    exact ⟨p, List.mem_cons_self .., h.1.symm⟩
  | p :: _, _ :: _, .cons _ r, i + 1, k, y, e => by
    obtain ⟨kv, m, ek⟩ := kv_at r (show _ = some (k, y) from e)
    exact ⟨kv, List.mem_cons_of_mem _ m, ek⟩
def tMinK (lq : Str) (lp : Pos) (T : Addr) (it : Nat) (t : TA) : TE := fun σ H Q => t σ H fun vs H1 => ∃ d kvs a xs, vs = [.ref d] ∧ H1 d = some (.dK kvs) ∧ kvs ≠ [] ∧ σ[it]? = some (some (.ref a)) ∧ H1 a = some (.lst xs) ∧ Tb lq lp T H1 ∧
  (∀ kv ∈ kvs, ∃ (k : Nat) (n : Int), kv.1 = .inl (k : Int) ∧ xs[k]? = some (.int n)) ∧ ∀ kv ∈ kvs, ∀ H', TbS T H1 H' → Tb lq lp T H' → Q (kV kv.1) H'
theorem pe_minK {X : Cx} {c T ct : Addr} {lq x : Str} {it : Nat} {t : TA} {np xp p0 p1 p2 p3 lp kp pos : Pos} (L : Lam X c T ct lq) (hx : X.ex = []) (hc : X.calm = true) (hr : Room 0 X.A) (hN : X.N[it]? = some ("told" : Str)) (hv : Vis X.env.scope "told") (hg : Gl X "min") (hm : X.mg "min" = none) (ha : PA X [.Name x xp] t) :
    PE X (.Call (.Name "min" np) [.Name x xp] [⟨some "key", .Lambda (lamPrm p0) (lamBd p1 p2 p3) lamSc lp, kp⟩] pos) (tMinK lq lp T it t) := by
  intro pins s σ H Q I h
  refine wpAny_Call_Name_kw (ld_blt I hg hm bt_min ?_)
  refine callWith_kw (thn (ha pos pins s σ H _ I h) fun us s1 ⟨vs, H1, I1, r1, q1⟩ => ?_)
  obtain ⟨d, kvs, a, xs, rfl, hd, hne, hσ, hl, tb, hk, q⟩ := q1
  obtain ⟨u, rfl, ru⟩ := vals1 r1
  cases ru
  refine kws_cons (PySem.W.kla_eval rfl ?_)
  rw [L.q]
  have lp' : 0 < kvs.length := List.length_pos_iff.mpr hne
  have go : ∀ (H2 : Hp) (s2 : Shared) (f c' : Addr) (pm ctv : Value), Inv X pins σ H2 s2 → s2.heap.get? f = some (PySem.W.kla_obj "<lambda>" lq (lamPrm p0) (lamBd p1 p2 p3) lamSc [("told", ct)] pm c' ctv) → s2.heap.CodeRec (.ref c') lq → H2 d = some (.dK kvs) → H2 a = some (.lst xs) → (∀ kv ∈ kvs, Q (kV kv.1) H2) →
      wpAny (model X.prog X.w) X.A (call (.builtin "min") [.ref d] [(Str.ofString "key", .ref f)]) (EP X pins σ Q) X.xe s2 := by
    intro H2 s2 f c' pm ctv I2 hf hcr hd2 hl2 q2
    obtain ⟨_, ds, vs, kv2, od, es, ep, hod⟩ := dk_of I2.hok hd2
    have vl := kv2.length
    refine min_key (knd := mixKind X.prog X.w) (kvs := vs) (ep := ep) (I2.ok.hd hc) ⟨od, es, hod⟩ ds (by omega) ?_ ?_
    · intro i v k y e1 e2 h' tk Q' E' kk hQ'
      obtain ⟨⟨k1, w1⟩, m1, ek⟩ := kv_at kv2 e1
      obtain ⟨j, n, ej, hn⟩ := hk _ m1
      have ek' : k = .inl (j : Int) := ek.trans ej
      subst ek'
      have sh : ∃ t, v = Value.int (j : Int) t := by
        rcases keyIs_shape (show keyIs (.inl (j : Int)) v = true from e2) with ⟨i', t', z1, z2⟩ | ⟨_, _, z1, _⟩
        · cases z1; exact ⟨t', z2⟩
        · cases z1
      obtain ⟨tv, rfl⟩ := sh
      obtain ⟨hz, its, ncap, rv, hgl⟩ := I2.hok a _ hl2
      obtain ⟨wv, hwv, rwv⟩ := rv.get hn
      obtain ⟨tn, rfl⟩ := rwv
      have jl : j < xs.length := (List.getElem?_eq_some_iff.mp hn).1
      have l63 := line63
      obtain ⟨m, hns, hlook⟩ := I2.loc
      obtain ⟨u, ru, lk⟩ := hlook it "told" (.ref a) hN hσ hv
      cases ru
      have hcell : s2.heap.IsCell ct (some (.ref a)) := by
        rcases lk with ⟨kl, _⟩ | ⟨_, c2, ec, z⟩
        · exact absurd kl (by rw [L.kind]; intro z; cases z)
        · rw [L.cell] at ec; cases ec; exact z
      refine lam_run (A := X.A.in1) (f := f) (c' := c') (t := a) (its := its.toArray) (k := (j : Int)) ?_ (kk _ _ hf) (hcr.keeps kk) (I2.nolimit.keeps kk) (hcell.keeps kk) ⟨_, kk _ _ hgl, rfl, _, rfl⟩ (by omega) (by omega) (by rw [Int.toNat_natCast]; simpa using hwv) fun h3 tk3 k3 => hQ' _ _ _ _ k3
      have := hr.dp
      show X.A.depth < recursionLimit
      omega
    · intro i v k y h' tk e1 e2 kk
      obtain ⟨kv, m1, ek⟩ := kv_at kv2 e1
      refine ⟨kV k, H2, I2.kept kk, ?_, by rw [ek]; exact q2 kv m1⟩
      rcases keyIs_shape (show keyIs k v = true from e2) with ⟨i', t', rfl, rfl⟩ | ⟨y', t', rfl, rfl⟩
      · exact ⟨t', rfl⟩
      · exact ⟨t', rfl⟩
  have bat : s1.heap.BuiltinsAt X.mg T := by
    obtain ⟨bm, o, b1, b2, b3, b4, b5, b6⟩ := L.bm
    obtain ⟨o1, es1, ep1, g1, g2, _⟩ := id I1.mod.glob
    have hT : H1 T ≠ none := by
      rcases tb with z | ⟨_, z, _⟩ <;> rw [z] <;> simp
    refine ⟨bm, o, b1, b2, fun z => ?_, fun z => ?_, I1.bk _ _ b3, b4, b5, b6⟩
    · rw [z, g1] at b3; cases b3; rw [g2] at b6; cases b6
    · rw [z] at b3; exact hT (I1.bs _ _ b3).2
  have neT : mainGlobals ≠ T := fun z => by
    obtain ⟨o1, es1, ep1, g1, g2, _⟩ := id I1.mod.glob
    have := (I1.bs _ _ g1).2
    rw [z] at this
    rcases tb with y | ⟨_, y, _⟩ <;> rw [y] at this <;> cases this
  have nsg := I1.mod.glob.keeps I1.bk
  rcases tb with hT | ⟨c', hT, hco⟩
  · have gT : s1.heap.get? T = some (PySem.W.tabObj #[]) := I1.hok T _ hT
    refine PySem.W.kla_makeFunction (mg := X.mg) L.cl I1.ok.glob nsg L.code (L.hd.keeps I1.bk) gT trivial rfl neT bat fun c' ctv h' tk hxt hge hlt hrec htb => kws_nil ?_
    have cT : c' ≠ T := fun z => by
      have := Heap.lt_size gT
      rw [← z] at this
      exact absurd this (Nat.not_lt_of_le hge)
    have I2 := I1.tab (more := #[rawInt lp.line, rawInt lp.col, .ref c']) (t' := tk) hT (fun b o n e => hxt b o n e) (by simpa using htb)
    have e0 : (#[] : Array Value) ++ #[rawInt lp.line, rawInt lp.col, .ref c'] = #[rawInt lp.line, rawInt lp.col, .ref c'] := by simp
    rw [e0] at I2
    have fr : s1.heap.get? c' = none := Heap.get?_none_of_le hge
    have H1c : H1 c' = none := I1.hok.none_of fr
    obtain ⟨c3, oc, vs3, t3, ec, g1, g2, g3⟩ := id hrec
    cases ec
    have I3 := I2.xtrack (a := c') (o := codO c' lq) (I1.xok hx fr (by rw [upd_ne cT]; exact H1c)) ⟨hrec, ⟨oc, g1⟩, fun h1 h2 ⟨c4, o4, v4, t4, z1, z2, z3, z4⟩ kk => by cases z1; exact ⟨_, o4, v4, t4, rfl, kk o4 z2, z3, z4⟩⟩
    have kpsh : Kp h' (h'.push (PySem.W.kla_obj "<lambda>" lq (lamPrm p0) (lamBd p1 p2 p3) lamSc [("told", ct)] ((X.mg "__name__").getD .none) c' ctv)) := fun b o e => Heap.get?_push_of_some _ e
    have I4 := I3.kept (t' := tk) kpsh
    have dT : d ≠ T := fun z => by rw [z, hT] at hd; cases hd
    have aT : a ≠ T := fun z => by rw [z, hT] at hl; cases hl
    have dc : d ≠ c' := fun z => by rw [z, H1c] at hd; cases hd
    have ac : a ≠ c' := fun z => by rw [z, H1c] at hl; cases hl
    have sm : TbS T H1 (upd (upd H1 T (.tbl #[rawInt lp.line, rawInt lp.col, .ref c'])) c' (codO c' lq)) := fun b o n e => by
      rw [upd_ne (fun z => by rw [z, H1c] at e; cases e), upd_ne n]
      exact e
    refine go _ _ h'.objs.size c' _ _ I4 (Heap.get?_push_size _ rfl) (hrec.keeps kpsh) (sm _ _ dT hd) (sm _ _ aT hl) fun kv m => q kv m _ sm (.inr ⟨c', by rw [upd_ne (Ne.symm cT)]; exact upd_same, upd_same⟩)
  · have gT : s1.heap.get? T = some (PySem.W.tabObj #[rawInt lp.line, rawInt lp.col, .ref c']) := I1.hok T _ hT
    obtain ⟨hrec, _, _⟩ := (show ObjOk X.prog X.w H1 s1.heap c' (codO c' lq) from I1.hok c' _ hco)
    refine PySem.W.kla_makeFunctionHit (mg := X.mg) (cv := .ref c') L.cl I1.ok.glob nsg L.code (L.hd.keeps I1.bk) gT trivial (by simp [codeAmong, rawInt]) bat fun ctv h' tk kk sz => kws_nil ?_
    have kpsh : Kp s1.heap (h'.push (PySem.W.kla_obj "<lambda>" lq (lamPrm p0) (lamBd p1 p2 p3) lamSc [("told", ct)] ((X.mg "__name__").getD .none) c' ctv)) := fun b o e => Heap.get?_push_of_some _ (kk b o e)
    have I4 := I1.kept (t' := tk) kpsh
    exact go _ _ h'.objs.size c' _ _ I4 (Heap.get?_push_size _ rfl) (hrec.keeps kpsh) hd hl fun kv m => q kv m _ (fun b o _ e => e) (.inr ⟨c', hT, hco⟩)
/-! ### the head of a law whose program holds one lambda in the def fn -/
abbrev Bm (mg : Str → Option Value) (h : Heap) : Prop := ∃ bm o, mg "__builtins__" = some (.ref bm) ∧ bm ≠ builtinsNs ∧ h.get? bm = some o ∧ o.cls = .type "module" ∧ o.dict = some builtinsNs ∧ o.data = .plain
theorem law_callT {P : Program} {w : World} {K : PySem.W.Frag} {mg mb : Str → Option Value} {CX : CXT} {k : Nat} {fa a c T : Addr} {fd : FuncData} {x : Str} {sp : Sp} {s : Shared} {vs : List Value} {ns : List Int}
    (KX : K.In s.heap) (hg : s.heap.Ns mainGlobals mg) (hb : s.heap.Ns builtinsNs mb) (hbb : ∀ x : Str, x ≠ "__name__" → mb x = bootBuiltins x) (lim : s.heap.NoLimit) (gens : s.gens = #[])
    (hc : PySem.W.CodeHd s.heap c T) (hT : s.heap.get? T = some (PySem.W.tabObj #[])) (nT : K.lookup T = none) (hbm : Bm mg s.heap)
    (ha : s.heap.get? a = some { cls := .type "list", data := .seq vs.toArray }) (hi : IntsAre vs ns) (hl : ns.length ≤ sizeLine) (hr : Room k callerA)
    (F : ∀ base : Heap, K.In base → base.Ns mainGlobals mg → PySem.W.CodeHd base c T → Bm mg base → FnOk P w K mg base CX k fa fd [x] sp) (bind : ∀ (s : Shared) (u : Value), BindsTo s fd ⟨[u], []⟩ [(x, u)])
    (hsp : ∀ H : Hp, H T = some (.tbl #[]) → SqL K H a (ns.map V.int) → sp [.ref a] H (fun v _ => v = .bl true) fun _ _ _ => False)
    (hCX : ∀ H e s', CX [] H s (fun _ _ _ => False) e s' → False) :
    codeAny (model P w) callerA (.call (.ref fa) ⟨[.ref a], []⟩) (fun r s' => r = .ok (.ret (.bool true)) ∧ OldK s.heap s'.heap ∧ s'.os = s.os ∧ AllBare s'.gens) s := by
  have rv := vals_ints hi
  have aT : a ≠ T := fun z => by rw [z, hT] at ha; cases ha
  obtain ⟨H, eT, eS, hok, only, frz⟩ : ∃ H : Hp, H T = some (.tbl #[]) ∧ SqL K H a (ns.map V.int) ∧ HOk P w H s.heap ∧ (∀ b, H b ≠ none → (b = T ∨ b = a) ∧ K.lookup b = none) ∧ (∀ b u, H b = some u → b ≠ T → ∃ o ys, u = .frz o (.lst ys)) := by
    cases hk : K.lookup a with
    | some o =>
      have e := KX a o hk
      rw [ha] at e
      cases e
      refine ⟨upd (fun _ => none) T (.tbl #[]), upd_same, .inr ⟨_, vs.toArray, _, hk, rfl, rfl, rfl, by rw [List.size_toArray, hi.length]; exact hl, by simpa using rv⟩, fun b u z => ?_, fun b z => ?_, fun b u z n => ?_⟩
      · by_cases y : b = T
        · subst y; rw [upd_same] at z; cases z; exact hT
        · rw [upd_ne y] at z; cases z
      · by_cases y : b = T
        · exact ⟨.inl y, y ▸ nT⟩
        · rw [upd_ne y] at z; exact absurd rfl z
      · rw [upd_ne n] at z; cases z
    | none =>
      refine ⟨upd (upd (fun _ => none) a (.frz { cls := .type "list", data := .seq vs.toArray } (.lst (ns.map V.int)))) T (.tbl #[]), upd_same, .inl (.inr ⟨{ cls := .type "list", data := .seq vs.toArray }, by rw [upd_ne aT]; exact upd_same⟩), fun b u z => ?_, fun b z => ?_, fun b u z n => ?_⟩
      · by_cases y : b = T
        · subst y; rw [upd_same] at z; cases z; exact hT
        · rw [upd_ne y] at z
          by_cases y2 : b = a
          · subst y2; rw [upd_same] at z; cases z
            exact ⟨ha, by rw [List.length_map]; exact hl, vs, _, rv, ha⟩
          · rw [upd_ne y2] at z; cases z
      · by_cases y : b = T
        · exact ⟨.inl y, y ▸ nT⟩
        · rw [upd_ne y] at z
          by_cases y2 : b = a
          · exact ⟨.inr y2, y2 ▸ hk⟩
          · rw [upd_ne y2] at z; exact absurd rfl z
      · rw [upd_ne n] at z
        by_cases y2 : b = a
        · subst y2; rw [upd_same] at z; cases z; exact ⟨_, _, rfl⟩
        · rw [upd_ne y2] at z; cases z
  have un0 : ∀ {b : Addr} {o : Obj}, s.heap.get? b = some o → o.cls ≠ .none → o.cls ≠ .type "list" → H b = none := fun {b o} e n1 n2 => by
    cases q : H b with
    | none => rfl
    | some u =>
      rcases (only b (by rw [q]; simp)).1 with z | z
      · rw [z, hT] at e; cases e; exact absurd rfl n1
      · rw [z, ha] at e; cases e; exact absurd rfl n2
  have unD : ∀ {b : Addr} {o : Obj} {es : Array DictEntry} {ep : Nat}, s.heap.get? b = some o → o.data = .dict es ep → H b = none := fun {b o es ep} e d => by
    cases q : H b with
    | none => rfl
    | some u =>
      rcases (only b (by rw [q]; simp)).1 with z | z
      · rw [z, hT] at e; cases e; cases d
      · rw [z, ha] at e; cases e; cases d
  have nsB : ∀ {b : Addr} {m : Str → Option Value}, s.heap.Ns b m → (hidT s.heap H).Ns b m := fun {b m} ⟨o, es, ep, e, d, r⟩ => ⟨o, es, ep, hidT_get e (unD e d), d, r⟩
  have kB : K.In (hidT s.heap H) := fun b o e => hidT_get (KX b o e) (by
    cases q : H b with
    | none => rfl
    | some u => rw [(only b (by rw [q]; simp)).2] at e; cases e)
  have cB : PySem.W.CodeHd (hidT s.heap H) c T := by
    obtain ⟨o, v2, file, tf, flags, tg, inF, text, tt, e1, e2, r⟩ := hc
    exact ⟨o, v2, file, tf, flags, tg, inF, text, tt, hidT_get e1 (un0 e1 (by rw [e2]; simp) (by rw [e2]; simp)), e2, r⟩
  have bB : Bm mg (hidT s.heap H) := by
    obtain ⟨bm, o, b1, b2, b3, b4, r⟩ := hbm
    exact ⟨bm, o, b1, b2, hidT_get b3 (un0 b3 (by rw [b4]; simp) (by rw [b4]; simp)), b4, r⟩
  have md : Mod K mg (hidT s.heap H) := ⟨kB, nsB hg, ⟨mb, nsB hb, hbb⟩, let ⟨mc, h1, h2⟩ := lim; ⟨mc, nsB h1, h2⟩⟩
  have e0 : Env0 P w K mg (hidT s.heap H) callerA [] s H := ⟨rfl, md, fun b o e => of_hidT e, Nat.le_of_eq (hidT_size _ _), trivial, fun b z => absurd (show b ∈ ([] : List Addr) from z) (by simp), hok, .of_eq gens⟩
  refine codeAny_mono ((F _ kB (nsB hg) cB bB).run callerA [] s H ⟨[.ref a], []⟩ [.ref a] [.ref a] _ _ hr e0 (bind s (.ref a)) (.cons rfl .nil) (hsp H eT eS)) fun r s' h => ?_
  cases r with
  | error e => exact (hCX H e s' h).elim
  | ok fl =>
    cases fl with
    | next => exact False.elim h
    | brk => exact False.elim h
    | cont => exact False.elim h
    | ret u =>
      obtain ⟨v, H', os, bare, un, hok', r', q⟩ := h
      have q' : v = .bl true := q
      subst q'
      obtain rfl : u = Value.bool true := r'
      have nil : ∀ b : Addr, b ∉ frs [] := fun b z => absurd (show b ∈ ([] : List Addr) from z) (by simp)
      have gT : ∃ more, s'.heap.get? T = some { cls := .none, data := .fields (#[] ++ more) } := by
        obtain ⟨more, e⟩ := un.tbls T _ eT
        exact ⟨more, hok' T _ e⟩
      have kp : ∀ b o, b ≠ T → s.heap.get? b = some o → s'.heap.get? b = some o := fun b o n e => by
        cases q : H b with
        | none => exact un.keep b o e q (nil b) (by simp)
        | some u =>
          obtain ⟨ob, ys, rfl⟩ := frz b u q n
          have z2 := un.frzs b ob _ q
          obtain ⟨g1, _⟩ := hok b _ q
          obtain ⟨g2, _⟩ := hok' b _ z2
          rw [e] at g1; cases g1
          exact g2
      refine ⟨rfl, ⟨fun b o e => ?_, fun b o e => ?_⟩, os, bare⟩
      · by_cases z : b = T
        · subst z
          rw [hT] at e
          cases e
          obtain ⟨more, g⟩ := gT
          exact .inr (.inl ⟨(hc.tab hT).isCodeTable, rfl, #[], more, rfl, g⟩)
        · exact .inl (kp b o z e)
      · by_cases z : b = T
        · subst z
          obtain ⟨more, g⟩ := gT
          exact ⟨_, g⟩
        · exact ⟨o, kp b o z e⟩
theorem walk_ofT {l : PySem.W.OpenLaw} {n k : Nat} {q : Program} {loose : List Str} {XP : (Str → Option Value) → Heap → Prop} {YP : World → Heap → Prop} {d df : DefRec} {K : Params → PySem.W.Frag} {CX : CXT} {sp : PySem.W.Frag → Addr → Sp} {x fn : Str}
    (hn : l.most = some n) (hn2 : n ≤ sizeLine) (hdf : d.params.defaults = []) (hr : Room k callerA) (hY : ∀ (w : World) (h : Heap), YP w h → (K w.params).In h)
    (hrec : (recsOf q).find? (fun e => e.name == fn) = some df)
    (F : ∀ (w : World) (mg : Str → Option Value) (fa : Addr) (h : Heap), (K w.params).In h → h.Ns mainGlobals mg → mg d.name = some (.ref fa) → ∃ fd : FuncData, (∀ (s : Shared) (u : Value), BindsTo s fd ⟨[u], []⟩ [(x, u)]) ∧
      ∃ c T, PySem.W.tabIn (K w.params) fn = some (c, T) ∧ (K w.params).lookup T = none ∧ ∀ base : Heap, (K w.params).In base → base.Ns mainGlobals mg → PySem.W.CodeHd base c T → Bm mg base → FnOk l.prog w (K w.params) mg base CX k fa fd [x] (sp (K w.params) T))
    (hsp : ∀ (K : PySem.W.Frag) (T : Addr) (H : Hp) (a : Addr) (ns : List Int), ns.length ≤ n → H T = some (.tbl #[]) → SqL K H a (ns.map V.int) → sp K T [.ref a] H (fun v _ => v = .bl true) fun _ _ _ => False)
    (hCX : ∀ (H : Hp) (s : Shared) (e : Value) (s' : Shared), CX [] H s (fun _ _ _ => False) e s' → False) :
    PySem.W.WalkO q loose XP YP l.row.toRowW d [] (fun f vs => PySem.call f vs) := by
  refine Att.attach_call hn hdf fun w s₀ s₁ mg mb fa o pm cd doc a vs ns G Y ho hd hcd hmg hobj hints hlen hg => ?_
  have KX := hY w _ Y
  obtain ⟨fd, hb, c, T, ht, nT, hF⟩ := F w mg fa _ KX G.T.g hmg
  obtain ⟨t1, t2⟩ := PySem.W.tab_of G.T KX hrec ht
  exact law_callT KX G.T.g G.T.b G.T.builtins G.T.nolimit hg t1 t2 nT G.T.bmain hobj hints (Nat.le_trans hlen hn2) hr hF hb (fun H h1 h2 => hsp _ T H a ns hlen h1 h2) fun H e s' => hCX H s₁ e s'
/-- d != {} -/
theorem op_neE {X : Cx} (hu : X.A.units + 64 < cLine) : OpR X (compareOp .NotEq) (fun x y H Q => ∃ a b kvs, x = .ref a ∧ y = .ref b ∧ H a = some (.dK kvs) ∧ H b = some (.dK []) ∧ Q (.bl (!kvs.isEmpty)) H) := by
  intro pins s σ H x y v u Q I rx ry h
  obtain ⟨a, b, kvs, rfl, rfl, ha, hb, q⟩ := h
  cases rx
  cases ry
  obtain ⟨_, da, vs, kv, dd⟩ := dk_of I.hok ha
  obtain ⟨_, db, vs2, kv2, dd2⟩ := dk_of I.hok hb
  have l1 := kv.length
  have l2 := kv2.length
  have e2 : vs2 = [] := List.eq_nil_of_length_eq_zero l2.symm
  subst e2
  refine PySem.W.keq_ne (r := true) da db dd dd2 (by omega) (fun e => ?_) ⟨.bl (!(vs.length == 0 && true)), H, I, rfl, ?_⟩
  · have e1 : vs = [] := List.eq_nil_of_length_eq_zero e
    subst e1
    exact .nil
  · cases kvs with
    | nil =>
      cases vs with
      | nil => exact q
      | cons p r => cases l1
    | cons p r =>
      cases vs with
      | nil => cases l1
      | cons p r => exact q
end L2

namespace L2
open PySem PySem.Spec PyProof.Rows
/-! ## min of a list of tuples of ints -/
def lexB : List (Int × Int) → Bool
  | [] => false
  | (x, y) :: r => if x = y then lexB r else decide (x < y)
section
variable {prog : Program} {w : World} {A : Around} {E : Value → Shared → Prop} {s : Shared}
/-- pairs of ints, as they lie -/
def Ps : List (Value × Value) → List (Int × Int) → Prop
  | [], [] => True
  | (u, v) :: r, (x, y) :: q => (∃ t, u = .int x t) ∧ (∃ t, v = .int y t) ∧ Ps r q
  | _, _ => False
theorem tup_ltB {a b : Addr} {oa ob : Obj} {us vs : Array Value} {na nb : Nat} {ps : List (Int × Int)} {P : PySem.Fin → Shared → Prop} (ga : s.heap.get? a = some oa) (da : oa.data = .seq us na) (gb : s.heap.get? b = some ob) (cb : ob.cls = .type "tuple") (db : ob.data = .seq vs nb)
    (hp : Ps (us.toList.zip vs.toList) ps) (hl : us.size = vs.size) (h : P (.done (.ret (.bool (lexB ps)))) s) : wpAny (model prog w) A (Builtin.«tuple.__lt__» ⟨[.ref a, .ref b], []⟩) P E s := by
  show wpAny _ _ (isInstance (.ref b) (.type "tuple") >>= _) _ _ s
  refine wpAny_bind (wpAny_isInstance (T := "tuple") ⟨ob, gb, cb⟩ isSubtype_tuple_tuple ?_)
  simp only [Bool.not_true, Bool.false_eq_true, if_false]
  refine wpAny_bind (wpAny_tupleItemsOf ga da (wpAny_bind (wpAny_tupleItemsOf gb db (wpAny_bind ?_))))
  refine wpAny_forIn_list _ (fun rest r s' => r.1 = none ∧ s' = s ∧ ∃ q, Ps rest q ∧ lexB q = lexB ps) _ ?_ ?_ _ _ ⟨rfl, rfl, ps, hp, rfl⟩
  · rintro ⟨u, v⟩ rest r s' ⟨hr, rfl, q, hq, e⟩
    match q, hq with
    | (x, y) :: q, ⟨⟨t, h1⟩, ⟨t', h2⟩, hq'⟩ =>
      subst h1; subst h2
      refine wpAny_bind (wpAny_eqBool_int ?_)
      by_cases c : x = y
      · have : (x == y) = true := by simp [c]
        rw [this]
        simp only [Bool.not_true, Bool.false_eq_true, if_false]
        refine wpAny_pure ⟨rfl, rfl, q, hq', ?_⟩
        rw [← e]
        show lexB q = if x = y then lexB q else decide (x < y)
        rw [if_pos c]
      · have : (x == y) = false := by simp [c]
        rw [this]
        simp only [Bool.not_false, if_true]
        have e2 : lexB ps = decide (x < y) := by
          rw [← e]
          show (if x = y then lexB q else decide (x < y)) = _
          rw [if_neg c]
        rw [e2] at h
        refine wpAny_bind (wpAny_rule (wpAny_bind (CmpOf.ints_lt (prog := prog) (w := w) (A := A) (P := fun (i : Nat) v => ∃ t, v = .int (if i = 0 then x else y) t) (fun i => if i = 0 then x else y) (fun i v h => h) 0 1 _ _ _ _ _ ⟨t, rfl⟩ ⟨t', rfl⟩ ?_)))
        exact wpAny_bind (wpAny_pure (wpAny_pure (wpAny_pure h)))
  · rintro ⟨r1, r2⟩ s' ⟨hr, rfl, q, hq, e⟩
    simp only at hr
    subst hr
    have q0 : q = [] := by
      cases q with
      | nil => rfl
      | cons z q => exact hq.elim
    subst q0
    have e3 : Builtin.Tuple.tupleCompareSizes CmpOp.Lt us.size vs.size = Value.bool (lexB ps) := by
      rw [← e, hl]
      show Value.bool (decide (vs.size < vs.size)) = Value.bool false
      rw [decide_eq_false (Nat.lt_irrefl _)]
    show wpAny _ _ (ret (Builtin.Tuple.tupleCompareSizes CmpOp.Lt us.size vs.size)) _ _ _
    rw [e3]
    exact wpAny_pure h
theorem tup_lt {a b : Addr} {oa ob : Obj} {us vs : Array Value} {na nb : Nat} {ps : List (Int × Int)} {Q : Value → Shared → Prop} (ga : s.heap.get? a = some oa) (ca : oa.cls = .type "tuple") (da : oa.data = .seq us na) (gb : s.heap.get? b = some ob) (cb : ob.cls = .type "tuple") (db : ob.data = .seq vs nb)
    (hp : Ps (us.toList.zip vs.toList) ps) (hl : us.size = vs.size) (hu : A.units < cLine) (h : Q (.bool (lexB ps)) s) : wpAny (model prog w) A (richCompare .Lt (.ref a) (.ref b)) Q E s := by
  refine wpAny_richCompare_same_room (op := .Lt) (T := "tuple") ⟨oa, ga, ca⟩ ⟨ob, gb, cb⟩ PySem.F.slot_tuple_lt (wpAny_call_entry PySem.F.slot_tuple_lt ⟨oa, ga, ca⟩ PySem.F.entry_tuple_lt ?_ (PySem.F.args_tuple_lt_2 _ _)) hu
  exact tup_ltB ga da gb cb db hp hl ⟨_, rfl, (fun z => by cases z), h⟩
/-- the loop of min without a key: what lies in the heap g is kept -/
theorem min_walkT {J S : Addr} {fp : List Addr} {n : Nat} {P : Nat → Value → Prop} {St : Nat → Heap → Prop} {g : Heap} {R : Result → Shared → Prop} (W : Walks prog w A.in1 J fp [J] n P St) (bt : Nat → Nat → Bool) (gJ : g.get? J = none) (gS : g.get? S = none) (hSJ : S ≠ J) (hSf : S ∉ fp)
    (cmp : ∀ i j u v, i < n → j < n → P i u → P j v → ∀ (h : Heap) (tk : Nat) (Q : Value → Shared → Prop) (E : Value → Shared → Prop), Kp g h → Q (.bool (bt i j)) { s with heap := h, toks := tk } → wpAny (model prog w) A.in1 (richCompare .Lt u v) Q E { s with heap := h, toks := tk })
    (fin : ∀ v h' tk', P (argBest bt (n - 1)) v → Kp g h' → R (.ok (.ret v)) { s with heap := h', toks := tk' }) :
    ∀ (r j : Nat) (h : Heap) (tk : Nat) (vb : Value) (c : Nat), n - (j + 1) = r → j + 1 ≤ n → Kp g h → h.get? S = some (seqObj "list" #[vb, vb] c) → St (j + 1) h → P (argBest bt j) vb → argBest bt j < n →
      codeAny (model prog w) A (.builtin "min.loop" ⟨[.ref J, .none, .ref S], []⟩) R { s with heap := h, toks := tk } := by
  intro r
  induction r with
  | zero =>
    intro j h tk vb c er hj kg hS st hP hb
    have ej : j + 1 = n := by omega
    refine codeAny_builtin PySem.F.entry_min_loop ?_; rw [Around.under_plainId PySem.F.plain_min_loop _]
    refine wpAny_bind (m := seqItems? (.ref S)) (wpAny_seqItems hS rfl ?_)
    show wpAny _ A.in1 (tryCatch (pyNext (.ref J)) _ >>= _) _ _ _
    refine wpAny_bind (wpAny_tryCatch (W.done _ _ _ (by rw [← ej]; exact st) fun h' tk' kk => ?_))
    have kg' := kg.but gJ kk
    have hS' := kk S _ (by simpa using hSJ) hS
    have su := Heap.SameBut.update h' S (Obj.mapSeq fun _ => (#[] : Array Value))
    refine wpAny_bind (m := updateSeq S fun _ => #[]) (wpAny_updateSeq hS' rfl (wpAny_bind (wpAny_letGo (wpAny_pure ?_))))
    exact fin vb _ _ (by rw [← ej]; exact hP) (kg'.same gS su)
  | succ r ih =>
    intro j h tk vb c er hj kg hS st hP hb
    have lt : j + 1 < n := by omega
    refine codeAny_builtin PySem.F.entry_min_loop ?_; rw [Around.under_plainId PySem.F.plain_min_loop _]
    refine wpAny_bind (m := seqItems? (.ref S)) (wpAny_seqItems hS rfl ?_)
    show wpAny _ A.in1 (tryCatch (pyNext (.ref J)) _ >>= _) _ _ _
    refine wpAny_bind (wpAny_tryCatch (W.item (j + 1) _ _ _ lt st fun v h1 tk1 hv st1 k1 => ?_))
    have kg1 := kg.but gJ k1
    have hS1 := k1 S _ (by simpa using hSJ) hS
    show wpAny _ A.in1 (tryCatch (holding [v, v] (richCompare .Lt v vb >>= _)) _ >>= _) _ _ _
    refine wpAny_bind (wpAny_tryCatch (wpAny_holding (wpAny_bind (cmp (j + 1) (argBest bt j) v vb lt hb hv hP h1 tk1 _ _ kg1 ?_))))
    refine wpAny_bind (wpAny_holding (wpAny_truthy_bool (wpAny_bind (wpAny_letGo (wpAny_pure ?_)))))
    have eA : argBest bt (j + 1) = if bt (j + 1) (argBest bt j) = true then j + 1 else argBest bt j := rfl
    cases cc : bt (j + 1) (argBest bt j) with
    | true =>
      have su := Heap.SameBut.update h1 S (Obj.mapSeq fun _ => #[v, v])
      obtain ⟨c2, hc2⟩ : ∃ c2, (h1.update S (Obj.mapSeq fun _ => #[v, v])).get? S = some (seqObj "list" #[v, v] c2) := ⟨_, get?_update_seq hS1 fun _ => #[v, v]⟩
      simp
      refine wpAny_bind (wpAny_updateSeq hS1 rfl (wpAny_bind (wpAny_letGo ?_)))
      rw [if_pos cc] at eA
      refine wpAny_pure ⟨plainId_quiet PySem.F.plain_min_loop _, ih (j + 1) _ _ v c2 (by omega) lt (kg1.same gS su) hc2 (W.frame _ _ _ st1 fun b hb o e => (su.2 b (fun z => hSf (z ▸ hb))).trans e) (by rw [eA]; exact hv) (by rw [eA]; exact lt)⟩
    | false =>
      simp
      rw [if_neg (by rw [cc]; simp)] at eA
      refine wpAny_bind (wpAny_letGo (wpAny_pure ?_)); refine ⟨plainId_quiet PySem.F.plain_min_loop _, ih (j + 1) _ _ vb c (by omega) lt kg1 hS1 st1 (by rw [eA]; exact hP) (by rw [eA]; exact hb)⟩
theorem min_tups {l : Addr} {vs : List Value} {Q : Value → Shared → Prop} (bt : Nat → Nat → Bool) (hh : A.handled = none) (hl : s.heap.IsList l vs.toArray) (hne : 0 < vs.length)
    (cmp : ∀ (i j : Nat) (u v : Value), vs[i]? = some u → vs[j]? = some v → ∀ (h : Heap) (tk : Nat) (Q : Value → Shared → Prop) (E : Value → Shared → Prop), Kp s.heap h → Q (.bool (bt i j)) { s with heap := h, toks := tk } → wpAny (model prog w) A.in1 (richCompare .Lt u v) Q E { s with heap := h, toks := tk })
    (fin : ∀ v h' tk', vs[argBest bt (vs.length - 1)]? = some v → Kp s.heap h' → Q v { s with heap := h', toks := tk' }) :
    wpAny (model prog w) A (call (.builtin "min") [.ref l]) Q E s := by
  have nm : (toString "min" ++ toString ".loop" : String) = "min.loop" := by decide
  obtain ⟨ol, hol, _⟩ := id hl
  have ll : l < s.heap.objs.size := Heap.lt_size hol
  refine kmk_tree PySem.F.kind_min PySem.F.plain_min PySem.F.entry_min (PySem.F.args_min1 _) ?_
  show wpAny _ A.in1 (Builtin.Builtins.bindParams "min" ["key", "default"] 0 ⟨[], []⟩ >>= _) _ _ s
  refine wpAny_bind (wpAny_of_eq (show Builtin.Builtins.bindParams "min" ["key", "default"] 0 ⟨[], []⟩ = pure [none, none] from rfl) (wpAny_bind (wpAny_pure (wpAny_bind (wpAny_pyIter_list hl ?_)))))
  refine wpAny_bind (wpAny_newList ?_ (Nat.zero_le _)); rw [nm]
  obtain ⟨ob, eob⟩ : ∃ ob : Obj, ob = { cls := Value.type "list_iterator", data := Data.fields #[Value.ref l, Value.int 0 0] } := ⟨_, rfl⟩
  rw [← eob]
  have sz : (s.heap.push ob).objs.size = s.heap.objs.size + 1 := by rw [Heap.size_push]
  have neS : (s.heap.push ob).objs.size ≠ s.heap.objs.size := by omega
  have neL : l ≠ s.heap.objs.size := Nat.ne_of_lt ll
  have fr : ∀ b, s.heap.objs.size ≤ b → s.heap.get? b = none := fun b hb => Heap.get?_none_of_le hb
  have kp : Kp s.heap ((s.heap.push ob).push (seqObj "list" #[] 0)) := fun b o e => Heap.get?_push_of_some _ (Heap.get?_push_of_some _ e)
  have hS : ((s.heap.push ob).push (seqObj "list" #[] 0)).get? (s.heap.push ob).objs.size = some (seqObj "list" #[] 0) := Heap.get?_push_size _ rfl
  have hJ : ((s.heap.push ob).push (seqObj "list" #[] 0)).get? s.heap.objs.size = some ob := Heap.get?_push_of_some _ (Heap.get?_push_size _ (by rw [eob]; rfl))
  have W := Walks.list (prog := prog) (w := w) (A := A.in1) hh s.heap.objs.size l neL vs.toArray
  have vsz : vs.toArray.size = vs.length := List.size_toArray ..
  rw [vsz] at W
  have cmp' : ∀ i j u v, i < vs.length → j < vs.length → vs.toArray[i]? = some u → vs.toArray[j]? = some v → ∀ (h : Heap) (tk : Nat) (Q : Value → Shared → Prop) (E : Value → Shared → Prop), Kp s.heap h → Q (.bool (bt i j)) { s with heap := h, toks := tk } → wpAny (model prog w) A.in1 (richCompare .Lt u v) Q E { s with heap := h, toks := tk } := fun i j u v _ _ h1 h2 => cmp i j u v (by simpa using h1) (by simpa using h2)
  refine wpAny_pure ⟨plainId_quiet PySem.F.plain_min_loop _, codeAny_builtin PySem.F.entry_min_loop ?_⟩; rw [Around.under_plainId PySem.F.plain_min_loop _]
  refine wpAny_bind (m := seqItems? (.ref (s.heap.push ob).objs.size)) (wpAny_seqItems hS rfl ?_)
  show wpAny _ A.in1 (tryCatch (pyNext (.ref s.heap.objs.size)) _ >>= _) _ _ _
  refine wpAny_bind (wpAny_tryCatch (W.item 0 _ _ _ hne ⟨⟨ob, hJ, by rw [eob], by rw [eob]; rfl⟩, hl.at fun o e => kp _ _ e⟩ fun v h1 tk1 hv st1 k1 => ?_))
  have kg1 := kp.but (fr _ (Nat.le_refl _)) k1
  have hS1 := k1 _ _ (by simpa using neS) hS
  have su := Heap.SameBut.update h1 (s.heap.push ob).objs.size (Obj.mapSeq fun _ => #[v, v])
  obtain ⟨c2, hc2⟩ : ∃ c2, (h1.update (s.heap.push ob).objs.size (Obj.mapSeq fun _ => #[v, v])).get? (s.heap.push ob).objs.size = some (seqObj "list" #[v, v] c2) := ⟨_, get?_update_seq hS1 fun _ => #[v, v]⟩
  have nf : (s.heap.push ob).objs.size ∉ [s.heap.objs.size, l] := fun z => by
    rcases List.mem_cons.mp z with z | z
    · exact neS z
    · have z' := List.mem_singleton.mp z
      exact absurd ll (by rw [← z', sz]; exact Nat.not_lt_of_le (Nat.le_succ _))
  refine wpAny_bind (m := updateSeq _ fun _ => #[v, v]) (wpAny_updateSeq hS1 rfl ?_); rw [nm]
  refine wpAny_pure ⟨plainId_quiet PySem.F.plain_min_loop _, min_walkT W bt (fr _ (Nat.le_refl _)) (fr _ (by omega)) neS nf cmp' (fun v h' tk' e kk => fin v h' tk' (by simpa using e) kk) _ 0 _ _ v c2 rfl hne (kg1.same (fr _ (by omega)) su) hc2 (W.frame _ _ _ st1 fun b hb o e => (su.2 b (fun z => nf (z ▸ hb))).trans e) hv hne⟩
end
abbrev T3 := Int × Int × Int
def TrA (H : Hp) (v : V) (t : T3) : Prop := ∃ a, v = .ref a ∧ H a = some (.tup [.int t.1, .int t.2.1, .int t.2.2])
def lt3 (a b : T3) : Bool := lexB [(a.1, b.1), (a.2.1, b.2.1), (a.2.2, b.2.2)]
theorem lt3_le {a b : T3} (h : lt3 a b = true) : a.1 ≤ b.1 := by
  unfold lt3 lexB at h
  by_cases c : a.1 = b.1
  · omega
  · rw [if_neg c] at h
    have := of_decide_eq_true h
    omega
theorem lt3_ge {a b : T3} (h : lt3 a b = false) : b.1 ≤ a.1 := by
  unfold lt3 lexB at h
  by_cases c : a.1 = b.1
  · omega
  · rw [if_neg c] at h
    have := of_decide_eq_false h
    omega
theorem best3 (W : Nat → T3) : ∀ k, argBest (fun i j => lt3 (W i) (W j)) k ≤ k ∧ ∀ j, j ≤ k → (W (argBest (fun i j => lt3 (W i) (W j)) k)).1 ≤ (W j).1
  | 0 => by
    refine ⟨Nat.le_refl _, fun j hj => ?_⟩
    have e : j = 0 := by omega
    rw [e]
    exact Int.le_refl _
  | k + 1 => by
    obtain ⟨h1, h2⟩ := best3 W k
    have e : argBest (fun i j => lt3 (W i) (W j)) (k + 1) = if lt3 (W (k + 1)) (W (argBest (fun i j => lt3 (W i) (W j)) k)) = true then k + 1 else argBest (fun i j => lt3 (W i) (W j)) k := rfl
    rw [e]
    cases c : lt3 (W (k + 1)) (W (argBest (fun i j => lt3 (W i) (W j)) k)) with
    | true =>
      rw [if_pos rfl]
      have h3 := lt3_le c
      refine ⟨Nat.le_refl _, fun j hj => ?_⟩
      by_cases z : j = k + 1
      · subst z; exact Int.le_refl _
      · have := h2 j (by omega); omega
    | false =>
      rw [if_neg Bool.false_ne_true]
      have h3 := lt3_ge c
      refine ⟨by omega, fun j hj => ?_⟩
      by_cases z : j = k + 1
      · subst z; exact h3
      · exact h2 j (by omega)
def rMin3 (K : PySem.W.Frag) : List V → Hp → VK → Prop := fun xs H Q => ∃ p ys ws, xs = [.ref p] ∧ SqL K H p ys ∧ LsAt TrA H ys ws ∧ ws ≠ [] ∧ ∀ (i : Nat) (y : V) (t : T3), ys[i]? = some y → ws[i]? = some t → (∀ t' ∈ ws, t.1 ≤ t'.1) → Q y H
theorem call_min3 {X : Cx} (hc : X.calm = true) (hu : X.A.units + 64 < cLine) : CallR X (.builtin "min") (rMin3 X.K) := by
  intro pins s σ H xs us Q I r h
  obtain ⟨p, ys, ws, rfl, hS, hL, hne, q⟩ := h
  obtain ⟨u, rfl, rx⟩ := vals1 r
  cases rx
  obtain ⟨its, rv, pl, _⟩ := I.list hS
  have yl := hL.1
  have il := rv.length
  have wp : 0 < ws.length := List.length_pos_iff.mpr hne
  let W : Nat → T3 := fun i => ws.getD i (0, 0, 0)
  have Wi : ∀ i t, ws[i]? = some t → W i = t := fun i t e => by show ws.getD i (0, 0, 0) = t; rw [List.getD_eq_getElem?_getD, e]; rfl
  have look : ∀ (i : Nat) (v : Value), its[i]? = some v → ∃ a o y1 y2 y3 n, v = .ref a ∧ s.heap.get? a = some o ∧ o.cls = .type "tuple" ∧ o.data = .seq #[y1, y2, y3] n ∧ (∃ t, y1 = .int (W i).1 t) ∧ (∃ t, y2 = .int (W i).2.1 t) ∧ (∃ t, y3 = .int (W i).2.2 t) := fun i v e => by
    have hi : i < ys.length := by rw [il]; exact (List.getElem?_eq_some_iff.mp e).1
    obtain ⟨t, ht, a, ea, ha⟩ := hL.get (List.getElem?_eq_getElem hi)
    obtain ⟨v', ev, rv'⟩ := rv.get (List.getElem?_eq_getElem hi)
    rw [e] at ev
    cases ev
    rw [ea] at rv'
    obtain rfl : v = .ref a := rv'
    obtain ⟨_, tis, rt, o, ho, hcl, n, hd⟩ := I.hok a _ ha
    rw [Wi i t ht]
    match tis, rt with
    | [y1, y2, y3], .cons r1 (.cons r2 (.cons r3 .nil)) => exact ⟨a, o, y1, y2, y3, n, rfl, ho, hcl, hd, r1, r2, r3⟩
  refine min_tups (vs := its) (fun i j => lt3 (W i) (W j)) (I.ok.hd hc) pl.isList (by omega) ?_ ?_
  · intro i j u v hu' hv' h tk Q' E' kk hQ
    have in1u : X.A.in1.units < cLine := by
      have e : X.A.in1.units ≤ X.A.units + 64 := by simp [Around.in1]
      omega
    obtain ⟨a, oa, y1, y2, y3, n, rfl, ga, ca, da, r1, r2, r3⟩ := look i u hu'
    obtain ⟨b, ob, z1, z2, z3, m, rfl, gb, cb, db, q1, q2, q3⟩ := look j v hv'
    exact tup_lt (kk _ _ ga) ca da (kk _ _ gb) cb db (ps := [((W i).1, (W j).1), ((W i).2.1, (W j).2.1), ((W i).2.2, (W j).2.2)]) ⟨r1, q1, r2, q2, r3, q3, trivial⟩ rfl in1u hQ
  · intro v h' tk e kk
    obtain ⟨b1, b2⟩ := best3 W (its.length - 1)
    have hi : argBest (fun i j => lt3 (W i) (W j)) (its.length - 1) < ys.length := by omega
    obtain ⟨t, ht, _⟩ := hL.get (List.getElem?_eq_getElem hi)
    obtain ⟨v', ev, rv'⟩ := rv.get (List.getElem?_eq_getElem hi)
    rw [e] at ev
    cases ev
    refine ⟨_, H, I.kept kk, rv', q _ _ t (List.getElem?_eq_getElem hi) ht fun t' ht' => ?_⟩
    obtain ⟨j, hj, ej⟩ := List.getElem_of_mem ht'
    have := b2 j (by omega)
    rw [Wi _ t ht, Wi j t' (by rw [List.getElem?_eq_getElem hj, ej])] at this
    exact this
end L2


namespace K1
end K1

namespace K2
/-- the worths of a list of numbers, in sum -/
def S : List Nat → Nat
  | [] => 0
  | p :: r => 2 ^ p + S r
/-- adding a power that is not there sets one bit alone -/
theorem add_bit {n p : Nat} (h : n.testBit p = false) (i : Nat) : (n + 2 ^ p).testBit i = (n.testBit i || decide (i = p)) := by
  have e : n + 2 ^ p = n ||| 2 ^ p := by
    have hz : n &&& 2 ^ p = 0 := by
      apply Nat.eq_of_testBit_eq
      intro j
      rw [Nat.testBit_and, Nat.testBit_two_pow, Nat.zero_testBit]
      by_cases hj : p = j
      · subst hj; simp [h]
      · simp [hj]
    have q : ∀ m k : Nat, (m ||| k) + (m &&& k) = m + k := by
      intro m
      induction m using Nat.strongRecOn with
      | ind m ih =>
        intro n
        by_cases h0 : m = 0
        · subst h0; simp
        · have ih' := ih (m / 2) (by omega) (n / 2)
          rw [← Nat.or_div_two, ← Nat.and_div_two] at ih'
          have o1 := @Nat.or_mod_two_eq_one m n
          have a1 := @Nat.and_mod_two_eq_one m n
          omega
    have := q n (2 ^ p)
    rw [hz] at this
    omega
  rw [e, Nat.testBit_or, Nat.testBit_two_pow]
  congr 1
  exact decide_eq_decide.mpr ⟨fun h => h.symm, fun h => h.symm⟩
theorem S_bit : ∀ {D : List Nat}, D.Nodup → ∀ i, (S D).testBit i = decide (i ∈ D)
  | [], _, i => by simp [S]
  | p :: r, nd, i => by
    have ⟨h1, h2⟩ := List.nodup_cons.mp nd
    have hp : (S r).testBit p = false := by rw [S_bit h2]; exact decide_eq_false h1
    have e : S (p :: r) = S r + 2 ^ p := Nat.add_comm _ _
    rw [e, add_bit hp, S_bit h2]
    by_cases a : i = p <;> by_cases b : i ∈ r <;> simp [a, b]
/-- bits of n, from k on -/
def bitsF (k n : Nat) : List Nat := if h : n = 0 then [] else (if n % 2 = 1 then [k] else []) ++ bitsF (k + 1) (n / 2)
termination_by n
decreasing_by omega
theorem bitsF_zero (k : Nat) : bitsF k 0 = [] := by rw [bitsF]; simp
theorem bitsF_odd {k n : Nat} (h : n % 2 = 1) : bitsF k n = k :: bitsF (k + 1) (n / 2) := by
  rw [bitsF, dif_neg (by omega), if_pos h]; rfl
theorem bitsF_even {k n : Nat} (h0 : n ≠ 0) (h : ¬ n % 2 = 1) : bitsF k n = bitsF (k + 1) (n / 2) := by
  rw [bitsF, dif_neg h0, if_neg h]; rfl
theorem bitsF_ge : ∀ (f n k : Nat), n ≤ f → ∀ p ∈ bitsF k n, k ≤ p
  | 0, n, k, h => by
    have z : n = 0 := by omega
    subst z; rw [bitsF_zero]; intro p hp; cases hp
  | f + 1, n, k, h => by
    intro p hp
    by_cases z : n = 0
    · subst z; rw [bitsF_zero] at hp; cases hp
    · by_cases o : n % 2 = 1
      · rw [bitsF_odd o] at hp
        rcases List.mem_cons.mp hp with e | hp
        · omega
        · have := bitsF_ge f (n / 2) (k + 1) (by omega) p hp; omega
      · rw [bitsF_even z o] at hp
        have := bitsF_ge f (n / 2) (k + 1) (by omega) p hp; omega
theorem bitsF_sorted : ∀ (f n k : Nat), n ≤ f → (bitsF k n).Pairwise (· < ·)
  | 0, n, k, h => by
    have z : n = 0 := by omega
    subst z; rw [bitsF_zero]; exact List.Pairwise.nil
  | f + 1, n, k, h => by
    by_cases z : n = 0
    · subst z; rw [bitsF_zero]; exact List.Pairwise.nil
    · by_cases o : n % 2 = 1
      · rw [bitsF_odd o]
        exact List.Pairwise.cons (fun p hp => bitsF_ge f (n / 2) (k + 1) (by omega) p hp) (bitsF_sorted f (n / 2) (k + 1) (by omega))
      · rw [bitsF_even z o]; exact bitsF_sorted f (n / 2) (k + 1) (by omega)
theorem bitsF_sum : ∀ (f n k : Nat), n ≤ f → S (bitsF k n) = n * 2 ^ k
  | 0, n, k, h => by
    have z : n = 0 := by omega
    subst z; rw [bitsF_zero]; simp [S]
  | f + 1, n, k, h => by
    by_cases z : n = 0
    · subst z; rw [bitsF_zero]; simp [S]
    · have ih := bitsF_sum f (n / 2) (k + 1) (by omega)
      have e : n / 2 * 2 ^ (k + 1) = (2 * (n / 2)) * 2 ^ k := by rw [Nat.pow_succ, Nat.mul_comm (2 ^ k) 2, ← Nat.mul_assoc, Nat.mul_comm (n / 2) 2]
      by_cases o : n % 2 = 1
      · rw [bitsF_odd o]
        show 2 ^ k + S (bitsF (k + 1) (n / 2)) = _
        rw [ih, e]
        have : n = 2 * (n / 2) + 1 := by omega
        have e2 : n * 2 ^ k = (2 * (n / 2) + 1) * 2 ^ k := by rw [← this]
        rw [e2, Nat.add_mul, Nat.one_mul]; omega
      · rw [bitsF_even z o, ih, e]
        have : n = 2 * (n / 2) := by omega
        have e2 : n * 2 ^ k = (2 * (n / 2)) * 2 ^ k := by rw [← this]
        rw [e2]
theorem bitsF_lt : ∀ (m n k : Nat), n < 2 ^ m → ∀ p ∈ bitsF k n, p < k + m
  | 0, n, k, h => by
    have z : n = 0 := by omega
    subst z; rw [bitsF_zero]; intro p hp; cases hp
  | m + 1, n, k, h => by
    intro p hp
    have h2 : n / 2 < 2 ^ m := by rw [Nat.pow_succ] at h; omega
    by_cases z : n = 0
    · subst z; rw [bitsF_zero] at hp; cases hp
    · by_cases o : n % 2 = 1
      · rw [bitsF_odd o] at hp
        rcases List.mem_cons.mp hp with e | hp
        · omega
        · have := bitsF_lt m (n / 2) (k + 1) h2 p hp; omega
      · rw [bitsF_even z o] at hp
        have := bitsF_lt m (n / 2) (k + 1) h2 p hp; omega
theorem bitsF_len : ∀ (m n k : Nat), n < 2 ^ m → (bitsF k n).length ≤ m
  | 0, n, k, h => by
    have z : n = 0 := by omega
    subst z; rw [bitsF_zero]; exact Nat.le_refl _
  | m + 1, n, k, h => by
    have h2 : n / 2 < 2 ^ m := by rw [Nat.pow_succ] at h; omega
    by_cases z : n = 0
    · subst z; rw [bitsF_zero]; exact Nat.zero_le _
    · by_cases o : n % 2 = 1
      · rw [bitsF_odd o]
        have := bitsF_len m (n / 2) (k + 1) h2
        show _ + 1 ≤ _
        omega
      · rw [bitsF_even z o]
        have := bitsF_len m (n / 2) (k + 1) h2
        omega
theorem nodup_of_lt {l : List Nat} (h : l.Pairwise (· < ·)) : l.Nodup := h.imp fun h => Nat.ne_of_lt h
end K2

namespace KF
open PySem L2
local macro_rules | `(tactic| walk_at "cc") => `(tactic| first | exact ⟨by decide, by decide⟩ | (show (0 : Int) < _; decide) | (show (0 : Int) < _; omega) | (show (0 : Int) ≤ _; omega) | exact ⟨by decide, by decide, by decide⟩ | exact ⟨by omega, by omega, by decide⟩ | exact Or.inl ⟨by decide, by decide⟩ | exact Or.inl ⟨by omega, by omega⟩)
local macro_rules | `(tactic| walk_at "rd") => `(tactic| repeat (first | refine ⟨_, rfl, ?_⟩ | refine ⟨_, _, rfl, rfl, ?_⟩ | refine ⟨rfl, ?_⟩ | (refine ⟨?cc, ?_⟩; (case cc => walk_at "cc"))))

def top (i : Nat) : Stmt := PySem.Challenge.pw_spinfloor_k26_whole_no_joining_is_cheape.main.body.getD i (.Pass ⟨0, 0, 0, 0⟩)
abbrev s_reached : Stmt := top 6
abbrev s_beyond : Stmt := top 8
abbrev s_links_at : Stmt := top 9
abbrev s_fares : Stmt := top 10
abbrev s_row_to : Stmt := top 11
abbrev s_whole : Stmt := top 12
abbrev s_bits : Stmt := top 14
abbrev s_ones : Stmt := top 15
abbrev s_odd : Stmt := top 16
abbrev s_mask_of : Stmt := top 17
abbrev s_refuse_marks : Stmt := top 20
abbrev s_chosen_of : Stmt := top 21
abbrev s_laid_in_pairs : Stmt := top 22
abbrev s_new_table : Stmt := top 23
abbrev s_paired : Stmt := top 24
abbrev s_law_cell_at : Stmt := top 26
abbrev s_law_names : Stmt := top 27
abbrev s_law_odd_ends : Stmt := top 29
abbrev s_law_whole : Stmt := top 34
abbrev s_law_link_by : Stmt := top 28
abbrev s_law_count : Stmt := top 30
abbrev s_law_drawn : Stmt := top 31
abbrev s_law_ways : Stmt := top 32
abbrev s_law_cost : Stmt := top 33
abbrev s_law : Stmt := top 35
/-! the shortest ways, by mending what is told: the mathematics -/
abbrev Lk := Nat × Nat × Int
def bey (l : Lk) (r : Nat) : Nat := if r = l.1 then l.2.1 else l.1
def isEnd (l : Lk) (r : Nat) : Prop := r = l.1 ∨ r = l.2.1
theorem bey_end {l : Lk} {r : Nat} (h : isEnd l r) : isEnd l (bey l r) := by
  unfold bey
  split
  · exact .inr rfl
  · exact .inl rfl
theorem bey_bey {l : Lk} {r : Nat} (h : isEnd l r) : bey l (bey l r) = r := by
  unfold bey
  by_cases c : r = l.1
  · rw [if_pos c]
    by_cases d : l.2.1 = l.1
    · rw [if_pos d]; omega
    · rw [if_neg d]; exact c.symm
  · rw [if_neg c, if_pos rfl]
    rcases h with h | h
    · exact absurd h c
    · exact h.symm
theorem bey_lt {l : Lk} {r n : Nat} (h1 : l.1 < n) (h2 : l.2.1 < n) : bey l r < n := by
  unfold bey
  split <;> assumption
/-- so many steps back to the start -/
inductive Up (ls : List Lk) (vv : List (Option Nat)) (s : Nat) : Nat → Nat → Prop where
  | root : Up ls vv s 0 s
  | step {j r k : Nat} {l : Lk} (hv : vv[r]? = some (some k)) (hl : ls[k]? = some l) (h : Up ls vv s j (bey l r)) : Up ls vv s (j + 1) r
theorem Up.uniq {ls : List Lk} {vv : List (Option Nat)} {s : Nat} (h0 : vv[s]? = some none) : ∀ {j i r : Nat}, Up ls vv s j r → Up ls vv s i r → j = i
  | _, _, _, .root, .root => rfl
  | _, _, _, .root, .step hv _ _ => by rw [h0] at hv; cases hv
  | _, _, _, .step hv _ _, .root => by rw [h0] at hv; cases hv
  | _, _, _, .step hv hl h, .step hv' hl' h' => by
    rw [hv] at hv'; cases hv'
    rw [hl] at hl'; cases hl'
    rw [Up.uniq h0 h h']
theorem Up.lt {ls : List Lk} {vv : List (Option Nat)} {s j r : Nat} (h0 : vv[s]? = some none) (h : Up ls vv s j r) : r < vv.length := by
  cases h with
  | root => exact (List.getElem?_eq_some_iff.mp h0).1
  | step hv _ _ => exact (List.getElem?_eq_some_iff.mp hv).1
theorem Up.chain {ls : List Lk} {vv : List (Option Nat)} {s : Nat} (h0 : vv[s]? = some none) : ∀ {j r : Nat}, Up ls vv s j r → ∃ c : List Nat, c.length = j + 1 ∧ c.Nodup ∧ ∀ x ∈ c, x < vv.length ∧ ∃ i, i ≤ j ∧ Up ls vv s i x
  | _, _, .root => ⟨[s], rfl, List.nodup_cons.mpr ⟨(by simp), List.nodup_nil⟩, fun x hx => by rw [List.mem_singleton.mp hx]; exact ⟨Up.lt (ls := ls) h0 .root, 0, Nat.le_refl _, .root⟩⟩
  | j + 1, r, .step hv hl h => by
    obtain ⟨c, cl, nd, hc⟩ := Up.chain h0 h
    have me : Up ls vv s (j + 1) r := .step hv hl h
    refine ⟨r :: c, by rw [List.length_cons, cl], List.nodup_cons.mpr ⟨fun hr => ?_, nd⟩, fun x hx => ?_⟩
    · obtain ⟨_, i, hi, hu⟩ := hc r hr
      have := Up.uniq h0 me hu
      omega
    · rcases List.mem_cons.mp hx with rfl | hx
      · exact ⟨Up.lt h0 me, j + 1, Nat.le_refl _, me⟩
      · obtain ⟨a, i, hi, hu⟩ := hc x hx
        exact ⟨a, i, by omega, hu⟩
theorem nd_below : ∀ (n : Nat) (c : List Nat), c.Nodup → (∀ x ∈ c, x < n) → c.length ≤ n
  | 0, c, _, h => by
    cases c with
    | nil => exact Nat.le_refl _
    | cons x r => exact absurd (h x (List.mem_cons_self ..)) (Nat.not_lt_zero _)
  | n + 1, c, nd, h => by
    have h1 := nd_below n (c.erase n) (nd.erase _) fun x hx => by
      have hm := List.mem_of_mem_erase hx
      have := h x hm
      have : x ≠ n := fun e => by rw [e] at hx; exact absurd hx (List.Nodup.not_mem_erase nd)
      omega
    have h2 : c.length ≤ (c.erase n).length + 1 := by rw [List.length_erase]; split <;> omega
    omega
theorem Up.short {ls : List Lk} {vv : List (Option Nat)} {s j r : Nat} (h0 : vv[s]? = some none) (h : Up ls vv s j r) : j + 1 ≤ vv.length := by
  obtain ⟨c, cl, nd, hc⟩ := Up.chain h0 h
  rw [← cl]
  exact nd_below _ c nd fun x hx => (hc x hx).1
/-! sums over what is told -/
def cOf (o : Option Int) : Nat := if o.isSome then 1 else 0
def cnt (T : List (Option Int)) : Nat := (T.map cOf).sum
def vOf (B : Nat) (o : Option Int) : Nat := match o with | none => B | some x => x.toNat
def wgt (B : Nat) (T : List (Option Int)) : Nat := (T.map (vOf B)).sum
theorem sum_set {α : Type} (f : α → Nat) : ∀ (l : List α) (i : Nat) (x y : α), l[i]? = some x → ((l.set i y).map f).sum + f x = (l.map f).sum + f y
  | a :: l, 0, x, y, e => by
    cases e
    rw [List.set_cons_zero, List.map_cons, List.map_cons, List.sum_cons, List.sum_cons]
    omega
  | a :: l, i + 1, x, y, e => by
    have := sum_set f l i x y e
    rw [List.set_cons_succ, List.map_cons, List.map_cons, List.sum_cons, List.sum_cons]
    omega
  | [], i, x, y, e => by cases i <;> cases e
theorem cnt_le : ∀ (T : List (Option Int)) {i : Nat}, T[i]? = some none → cnt T + 1 ≤ T.length
  | [], i, e => by cases i <;> cases e
  | a :: T, 0, e => by
    cases e
    have : ∀ T : List (Option Int), cnt T ≤ T.length := fun T => by
      induction T with
      | nil => exact Nat.le_refl _
      | cons b T ih =>
        have e1 : cnt (b :: T) = cOf b + cnt T := by unfold cnt; rw [List.map_cons, List.sum_cons]
        have e2 : cOf b ≤ 1 := by unfold cOf; split <;> omega
        rw [e1, List.length_cons]; omega
    have e1 : cnt (none :: T) = cOf none + cnt T := by unfold cnt; rw [List.map_cons, List.sum_cons]
    have e2 : cOf none = 0 := rfl
    have := this T
    rw [e1, List.length_cons]; omega
  | a :: T, i + 1, e => by
    have ih := cnt_le T (i := i) e
    have e1 : cnt (a :: T) = cOf a + cnt T := by unfold cnt; rw [List.map_cons, List.sum_cons]
    have e2 : cOf a ≤ 1 := by unfold cOf; split <;> omega
    rw [e1, List.length_cons]; omega
/-- what stands while the fares are told; ex: what is not yet looked at -/
structure FI (n : Nat) (ls : List Lk) (s : Nat) (M : Nat) (T : List (Option Int)) (vv : List (Option Nat)) (W : List Nat) (ex : Nat → Nat → Prop) : Prop where
  w0 : ∀ l ∈ ls, 0 ≤ l.2.2 ∧ l.2.2 ≤ (M : Int)
  tl : T.length = n
  vl : vv.length = n
  st : T[s]? = some (some 0)
  vs : vv[s]? = some none
  nn : ∀ (r : Nat) (x : Int), T[r]? = some (some x) → 0 ≤ x
  bd : ∀ (r : Nat) (x : Int), T[r]? = some (some x) → x + (M : Int) ≤ (cnt T : Int) * (M : Int)
  pr : ∀ (r k : Nat), vv[r]? = some (some k) → ∃ (l : Lk) (x y : Int), ls[k]? = some l ∧ isEnd l r ∧ T[r]? = some (some x) ∧ T[bey l r]? = some (some y) ∧ y + l.2.2 ≤ x
  up : ∀ (r : Nat) (x : Int), T[r]? = some (some x) → ∃ j, Up ls vv s j r
  rl : ∀ (r : Nat) (x : Int) (i : Nat) (l : Lk), T[r]? = some (some x) → r ∉ W → ls[i]? = some l → isEnd l r → ex r i ∨ ∃ y : Int, T[bey l r]? = some (some y) ∧ y ≤ x + l.2.2
  wk : ∀ r ∈ W, ∃ x : Int, T[r]? = some (some x)
theorem set_at {α : Type} {l : List α} {i j : Nat} {x : α} (hi : i < l.length) : (l.set i x)[j]? = if i = j then some x else l[j]? := by
  rw [List.getElem?_set]
  by_cases c : i = j
  · rw [if_pos c, if_pos c, if_pos hi]
  · rw [if_neg c, if_neg c]
/-- one mending -/
theorem FI.mend {n : Nat} {ls : List Lk} {s M : Nat} {T : List (Option Int)} {vv : List (Option Nat)} {W W' : List Nat} {ex ex' : Nat → Nat → Prop} (I : FI n ls s M T vv W ex) {m k : Nat} {l : Lk} {x : Int} {o : Option Int}
    (hl : ls[k]? = some l) (hm : isEnd l m) (hx : T[m]? = some (some x)) (ho : T[bey l m]? = some o) (hlt : ∀ y, o = some y → x + l.2.2 < y)
    (hW : ∀ r, r ∈ W' ↔ r ∈ W ∨ r = bey l m) (hex : ∀ r i, ex r i → ex' r i ∨ (r = m ∧ i = k)) :
    FI n ls s M (T.set (bey l m) (some (x + l.2.2))) (vv.set (bey l m) (some k)) W' ex' := by
  obtain ⟨h0, hM⟩ := I.w0 l (List.mem_of_getElem? hl)
  have tt : bey l m < T.length := (List.getElem?_eq_some_iff.mp ho).1
  have tl := I.tl
  have vl := I.vl
  have x0 := I.nn m x hx
  have ns : bey l m ≠ s := fun e => by
    rw [e, I.st] at ho
    cases ho
    have := hlt 0 rfl
    omega
  have nm : bey l m ≠ m := fun e => by
    rw [e, hx] at ho
    cases ho
    have := hlt x rfl
    omega
  have gT : ∀ r : Nat, (T.set (bey l m) (some (x + l.2.2)))[r]? = if bey l m = r then some (some (x + l.2.2)) else T[r]? := fun r => set_at tt
  have gV : ∀ r : Nat, (vv.set (bey l m) (some k))[r]? = if bey l m = r then some (some k) else vv[r]? := fun r => set_at (by omega)
  have low : ∀ (r : Nat) (y : Int), T[r]? = some (some y) → ∃ z : Int, (T.set (bey l m) (some (x + l.2.2)))[r]? = some (some z) ∧ z ≤ y := fun r y e => by
    rw [gT]
    by_cases c : bey l m = r
    · rw [if_pos c]
      rw [← c, ho] at e
      cases e
      exact ⟨_, rfl, Int.le_of_lt (hlt y rfl)⟩
    · rw [if_neg c]
      exact ⟨y, e, Int.le_refl _⟩
  -- the way back of what lies lower is as it was
  have keep : ∀ {j r : Nat}, Up ls vv s j r → ∀ y, T[r]? = some (some y) → (∀ z, o = some z → y < z) → Up ls (vv.set (bey l m) (some k)) s j r := by
    intro j r h
    induction h with
    | root => intro _ _ _; exact .root
    | @step j r k' l' hv hl' h ih =>
      intro y hy hz
      have ne : bey l m ≠ r := fun e => by
        rw [e, hy] at ho
        cases ho
        exact absurd (hz y rfl) (Int.lt_irrefl _)
      obtain ⟨l2, x2, y2, e1, e2, e3, e4, e5⟩ := I.pr r k' hv
      rw [hl'] at e1; cases e1
      rw [hy] at e3; cases e3
      have w0 := (I.w0 l' (List.mem_of_getElem? hl')).1
      refine .step (by rw [gV, if_neg ne]; exact hv) hl' (ih y2 e4 fun z hz' => ?_)
      have := hz z hz'
      omega
  obtain ⟨jm, um⟩ := I.up m x hx
  have um' := keep um x hx fun z hz => by have := hlt z hz; omega
  have ut : Up ls (vv.set (bey l m) (some k)) s (jm + 1) (bey l m) := .step (by rw [gV, if_pos rfl]) hl (by rw [bey_bey hm]; exact um')
  have all : ∀ {j r : Nat}, Up ls vv s j r → ∃ i, Up ls (vv.set (bey l m) (some k)) s i r := by
    intro j r h
    induction h with
    | root => exact ⟨0, .root⟩
    | @step j r k' l' hv hl' h ih =>
      by_cases c : bey l m = r
      · rw [← c]; exact ⟨_, ut⟩
      · obtain ⟨i, hi⟩ := ih
        exact ⟨i + 1, .step (by rw [gV, if_neg c]; exact hv) hl' hi⟩
  have cs := sum_set cOf T (bey l m) o (some (x + l.2.2)) ho
  have c1 : cOf (some (x + l.2.2)) = 1 := rfl
  have cc : cnt (T.set (bey l m) (some (x + l.2.2))) + cOf o = cnt T + 1 := by unfold cnt; rw [c1] at cs; exact cs
  have cle : cnt T ≤ cnt (T.set (bey l m) (some (x + l.2.2))) := by
    have : cOf o ≤ 1 := by unfold cOf; split <;> omega
    omega
  have mul_le : (cnt T : Int) * (M : Int) ≤ (cnt (T.set (bey l m) (some (x + l.2.2))) : Int) * (M : Int) := Int.mul_le_mul_of_nonneg_right (by omega) (by omega)
  have bm := I.bd m x hx
  refine ⟨I.w0, by rw [List.length_set]; exact tl, by rw [List.length_set]; exact vl, by rw [gT, if_neg ns]; exact I.st, by rw [gV, if_neg ns]; exact I.vs, fun r y e => ?_, fun r y e => ?_, fun r k' e => ?_, fun r y e => ?_, fun r y i l' e hr hl' hend => ?_, fun r hr => ?_⟩
  · rw [gT] at e
    by_cases c : bey l m = r
    · rw [if_pos c] at e; cases e; omega
    · rw [if_neg c] at e; exact I.nn r y e
  · rw [gT] at e
    by_cases c : bey l m = r
    · rw [if_pos c] at e; cases e
      cases o with
      | none =>
        have e1 : cnt (T.set (bey l m) (some (x + l.2.2))) = cnt T + 1 := by have : cOf none = 0 := rfl; omega
        rw [e1]
        have : ((cnt T + 1 : Nat) : Int) * (M : Int) = (cnt T : Int) * (M : Int) + (M : Int) := by push_cast; rw [Int.add_mul, Int.one_mul]
        omega
      | some z =>
        have := hlt z rfl
        have := I.bd (bey l m) z ho
        omega
    · rw [if_neg c] at e
      have := I.bd r y e
      omega
  · rw [gV] at e
    by_cases c : bey l m = r
    · rw [if_pos c] at e; cases e
      refine ⟨l, x + l.2.2, x, hl, c ▸ bey_end hm, by rw [gT, if_pos c], ?_, Int.le_refl _⟩
      rw [← c, bey_bey hm, gT, if_neg nm]
      exact hx
    · rw [if_neg c] at e
      obtain ⟨l2, x2, y2, e1, e2, e3, e4, e5⟩ := I.pr r k' e
      obtain ⟨z, e6, e7⟩ := low _ _ e4
      exact ⟨l2, x2, z, e1, e2, by rw [gT, if_neg c]; exact e3, e6, by omega⟩
  · rw [gT] at e
    by_cases c : bey l m = r
    · rw [← c]; exact ⟨_, ut⟩
    · rw [if_neg c] at e
      obtain ⟨j, u⟩ := I.up r y e
      exact all u
  · have nr : r ∉ W ∧ r ≠ bey l m := ⟨fun z => hr ((hW r).mpr (.inl z)), fun z => hr ((hW r).mpr (.inr z))⟩
    rw [gT, if_neg (Ne.symm nr.2)] at e
    rcases I.rl r y i l' e nr.1 hl' hend with h | ⟨z, h1, h2⟩
    · rcases hex r i h with h | ⟨h1, h2⟩
      · exact .inl h
      · subst h1; subst h2
        rw [hl] at hl'; cases hl'
        rw [hx] at e; cases e
        exact .inr ⟨x + l.2.2, by rw [gT, if_pos rfl], Int.le_refl _⟩
    · obtain ⟨z', h3, h4⟩ := low _ _ h1
      exact .inr ⟨z', h3, by omega⟩
  · rcases (hW r).mp hr with h | h
    · obtain ⟨y, e⟩ := I.wk r h
      obtain ⟨z, h3, _⟩ := low _ _ e
      exact ⟨z, h3⟩
    · rw [h]; exact ⟨_, by rw [gT, if_pos rfl]⟩
/-- nothing to mend -/
theorem FI.leave {n : Nat} {ls : List Lk} {s M : Nat} {T : List (Option Int)} {vv : List (Option Nat)} {W : List Nat} {ex ex' : Nat → Nat → Prop} (I : FI n ls s M T vv W ex) {m k : Nat} {l : Lk} {x y : Int}
    (hl : ls[k]? = some l) (hx : T[m]? = some (some x)) (hy : T[bey l m]? = some (some y)) (hge : y ≤ x + l.2.2) (hex : ∀ r i, ex r i → ex' r i ∨ (r = m ∧ i = k)) : FI n ls s M T vv W ex' :=
  ⟨I.w0, I.tl, I.vl, I.st, I.vs, I.nn, I.bd, I.pr, I.up, fun r z i l' e hr hl' hend => by
    rcases I.rl r z i l' e hr hl' hend with h | h
    · rcases hex r i h with h | ⟨h1, h2⟩
      · exact .inl h
      · subst h1; subst h2
        rw [hl] at hl'; cases hl'
        rw [hx] at e; cases e
        exact .inr ⟨y, hy, hge⟩
    · exact .inr h, I.wk⟩
theorem wgt_mend {n M : Nat} {ls : List Lk} {s : Nat} {T : List (Option Int)} {vv : List (Option Nat)} {W : List Nat} {ex : Nat → Nat → Prop} (I : FI n ls s M T vv W ex) {m t : Nat} {x w : Int} {o : Option Int} (w0 : 0 ≤ w) (wM : w ≤ (M : Int)) (hx : T[m]? = some (some x)) (ho : T[t]? = some o) (hlt : ∀ y, o = some y → x + w < y) :
    wgt (n * M + 1) (T.set t (some (x + w))) + 1 ≤ wgt (n * M + 1) T := by
  have e := sum_set (vOf (n * M + 1)) T t o (some (x + w)) ho
  have x0 := I.nn m x hx
  have b := I.bd m x hx
  have e1 : vOf (n * M + 1) (some (x + w)) = (x + w).toNat := rfl
  unfold wgt
  rw [e1] at e
  cases o with
  | none =>
    have cl := cnt_le T ho
    have e2 : vOf (n * M + 1) none = n * M + 1 := rfl
    rw [e2] at e
    have h1 : cnt T * M ≤ n * M := Nat.mul_le_mul_right M (by rw [I.tl] at cl; omega)
    have h2 : x + (M : Int) ≤ ((n * M : Nat) : Int) := by
      have : ((cnt T * M : Nat) : Int) ≤ ((n * M : Nat) : Int) := by exact_mod_cast h1
      have h3 : ((cnt T * M : Nat) : Int) = (cnt T : Int) * (M : Int) := by push_cast; rfl
      omega
    omega
  | some z =>
    have := hlt z rfl
    have e2 : vOf (n * M + 1) (some z) = z.toNat := rfl
    rw [e2] at e
    omega
/-- as it begins -/
theorem FI.first {n : Nat} {ls : List Lk} {s M : Nat} (w0 : ∀ l ∈ ls, 0 ≤ l.2.2 ∧ l.2.2 ≤ (M : Int)) (hs : s < n) : FI n ls s M ((List.replicate n none).set s (some 0)) (List.replicate n none) [s] (fun _ _ => False) := by
  have gT : ∀ r : Nat, ((List.replicate n (none : Option Int)).set s (some 0))[r]? = if s = r then some (some 0) else (List.replicate n none)[r]? := fun r => set_at (by rw [List.length_replicate]; exact hs)
  have rep : ∀ {α : Type} (r : Nat) (x : α), (List.replicate n (none : Option α))[r]? ≠ some (some x) := fun r x e => by
    have := List.mem_of_getElem? e
    have := (List.mem_replicate.mp this).2
    cases this
  have one : ∀ (r : Nat) (x : Int), ((List.replicate n (none : Option Int)).set s (some 0))[r]? = some (some x) → r = s ∧ x = 0 := fun r x e => by
    rw [gT] at e
    by_cases c : s = r
    · rw [if_pos c] at e; cases e; exact ⟨c.symm, rfl⟩
    · rw [if_neg c] at e; exact absurd e (rep r x)
  refine ⟨w0, by rw [List.length_set, List.length_replicate], List.length_replicate, by rw [gT, if_pos rfl], by rw [List.getElem?_replicate, if_pos hs], fun r x e => ?_, fun r x e => ?_, fun r k e => absurd e (rep r k), fun r x e => ?_, fun r x i l e hr => ?_, fun r hr => ?_⟩
  · rw [(one r x e).2]; exact Int.le_refl _
  · rw [(one r x e).2]
    have cs := sum_set cOf (List.replicate n (none : Option Int)) s none (some 0) (by rw [List.getElem?_replicate, if_pos hs])
    have c1 : cOf (some 0) = 1 := rfl
    have c0 : cOf none = 0 := rfl
    have : 1 ≤ cnt ((List.replicate n (none : Option Int)).set s (some 0)) := by unfold cnt; omega
    have h2 : 1 * M ≤ cnt ((List.replicate n (none : Option Int)).set s (some 0)) * M := Nat.mul_le_mul_right M this
    have h3 : ((1 * M : Nat) : Int) ≤ ((cnt ((List.replicate n (none : Option Int)).set s (some 0)) * M : Nat) : Int) := by exact_mod_cast h2
    push_cast at h3
    omega
  · rw [(one r x e).1]; exact ⟨0, .root⟩
  · rw [(one r x e).1] at hr
    exact absurd (List.mem_singleton.mpr rfl) hr
  · rw [List.mem_singleton.mp hr]; exact ⟨0, by rw [gT, if_pos rfl]⟩
/-- a room is taken -/
theorem FI.take {n : Nat} {ls : List Lk} {s M : Nat} {T : List (Option Int)} {vv : List (Option Nat)} {W W' : List Nat} (I : FI n ls s M T vv W (fun _ _ => False)) {m : Nat} (hW : ∀ r, r ∈ W' ↔ r ∈ W ∧ r ≠ m) : FI n ls s M T vv W' (fun r _ => r = m) :=
  ⟨I.w0, I.tl, I.vl, I.st, I.vs, I.nn, I.bd, I.pr, I.up, fun r x i l e hr hl hend => by
    by_cases c : r = m
    · exact .inl c
    · rcases I.rl r x i l e (fun z => hr ((hW r).mpr ⟨z, c⟩)) hl hend with h | h
      · exact h.elim
      · exact .inr h, fun r hr => I.wk r ((hW r).mp hr).1⟩
theorem FI.exw {n : Nat} {ls : List Lk} {s M : Nat} {T : List (Option Int)} {vv : List (Option Nat)} {W : List Nat} {ex ex' : Nat → Nat → Prop} (I : FI n ls s M T vv W ex) (h : ∀ r i l, ls[i]? = some l → isEnd l r → ex r i → ex' r i) : FI n ls s M T vv W ex' :=
  ⟨I.w0, I.tl, I.vl, I.st, I.vs, I.nn, I.bd, I.pr, I.up, fun r x i l e hr hl hend => by
    rcases I.rl r x i l e hr hl hend with z | z
    · exact .inl (h r i l hl hend z)
    · exact .inr z, I.wk⟩

theorem same_new {H : Hp} {p : Addr} (h : H p = none) (o : HO) : Same H (upd H p o) := fun b u q => by rw [upd_ne (ne_of_none q h)]; exact q
theorem same_upd {H H2 : Hp} {l : Addr} (h : Same H H2) (hl : H l = none) (o : HO) : Same H (upd H2 l o) := fun b u q => by rw [upd_ne (ne_of_none q hl)]; exact h b u q
theorem same_no {H H' : Hp} (s : Same H H') {p : Addr} (h : H' p = none) : H p = none := by
  cases y : H p with
  | none => rfl
  | some o => rw [s _ _ y] at h; cases h
def iV (p : Nat) : V := .int (p : Int)
theorem at0 {x y : V} : atI [x, y] 0 = some x := rfl
theorem at1 {x y : V} : atI [x, y] 1 = some y := rfl
theorem a30 {x y z : V} : atI [x, y, z] 0 = some x := rfl
theorem a31 {x y z : V} : atI [x, y, z] 1 = some y := rfl
theorem a32 {x y z : V} : atI [x, y, z] 2 = some z := rfl
def LkAt (H : Hp) (v : V) (l : Lk) : Prop := ∃ t, v = .ref t ∧ H t = some (.tup [.int (l.1 : Int), .int (l.2.1 : Int), .int l.2.2])
def LnAt (H : Hp) (v : V) (ls : List Lk) : Prop := ∃ a ys, v = .ref a ∧ H a = some (.lst ys) ∧ LsAt LkAt H ys ls
theorem LkAt.mono {H H' : Hp} {v : V} {p : Lk} (h : LkAt H v p) (s : Same H H') : LkAt H' v p := by
  obtain ⟨t, e, z⟩ := h
  exact ⟨t, e, s _ _ z⟩
theorem LnAt.mono {H H' : Hp} {v : V} {r : List Lk} (h : LnAt H v r) (s : Same H H') : LnAt H' v r := by
  obtain ⟨a, ys, e, z, l⟩ := h
  exact ⟨a, ys, e, s _ _ z, l.imp fun _ _ q => q.mono s⟩
def MM : Nat := 10 ^ 31
structure Lok (n : Nat) (ls : List Lk) : Prop where
  n1 : n ≤ 40
  l9 : ls.length ≤ 60
  sm : ∀ l ∈ ls, l.1 < n ∧ l.2.1 < n
  w0 : ∀ l ∈ ls, 0 ≤ l.2.2 ∧ l.2.2 ≤ (MM : Int)
/-! rows apart -/
def RowsX (S : Addr → Prop) (H : Hp) (xs : List V) (ts : List (List Nat)) : Prop := xs.length = ts.length ∧ ∀ (i : Nat) (l : List Nat), ts[i]? = some l → ∃ p, xs[i]? = some (.ref p) ∧ ¬ S p ∧ H p = some (.lst (l.map iV))
theorem RowsX.mono {S : Addr → Prop} {H H' : Hp} {xs : List V} {ts : List (List Nat)} (h : RowsX S H xs ts) (s : ∀ b u, ¬ S b → H b = some u → H' b = some u) : RowsX S H' xs ts := ⟨h.1, fun i e q => by
  obtain ⟨p, a, n, b⟩ := h.2 i e q
  exact ⟨p, a, n, s _ _ n b⟩⟩
theorem RowsX.snoc {S : Addr → Prop} {H : Hp} {xs : List V} {ts : List (List Nat)} {q : Addr} {l : List Nat} (h : RowsX S H xs ts) (n : ¬ S q) (e : H q = some (.lst (l.map iV))) : RowsX S H (xs ++ [.ref q]) (ts ++ [l]) := by
  refine ⟨by rw [List.length_append, List.length_append, h.1]; rfl, fun j k ej => ?_⟩
  by_cases hj : j < ts.length
  · rw [List.getElem?_append_left hj] at ej
    obtain ⟨p, a1, a2⟩ := h.2 j k ej
    exact ⟨p, by rw [List.getElem?_append_left (by rw [h.1]; exact hj)]; exact a1, a2⟩
  · rw [List.getElem?_append_right (Nat.le_of_not_lt hj)] at ej
    have hj2 : j = ts.length := by
      have := (List.getElem?_eq_some_iff.mp ej).1
      rw [List.length_singleton] at this
      omega
    subst hj2
    rw [Nat.sub_self] at ej
    cases ej
    exact ⟨q, by rw [← h.1, List.getElem?_append_right (Nat.le_refl _), Nat.sub_self]; rfl, n, e⟩
def Dist (xs : List V) : Prop := ∀ (i j : Nat) (p : Addr), xs[i]? = some (.ref p) → xs[j]? = some (.ref p) → i = j
theorem RowsX.set {S : Addr → Prop} {H : Hp} {xs : List V} {ts : List (List Nat)} {i : Nat} {p : Addr} {l' : List Nat} (h : RowsX S H xs ts) (D : Dist xs) (e : xs[i]? = some (.ref p)) : RowsX S (upd H p (.lst (l'.map iV))) xs (ts.set i l') := by
  refine ⟨by rw [List.length_set]; exact h.1, fun j l z => ?_⟩
  have hi : i < ts.length := by rw [← h.1]; exact (List.getElem?_eq_some_iff.mp e).1
  rw [List.getElem?_set] at z
  by_cases hj : i = j
  · subst hj
    rw [if_pos rfl, if_pos hi] at z
    cases z
    obtain ⟨p', a1, a2, a3⟩ := h.2 i _ (List.getElem?_eq_getElem hi)
    rw [e] at a1
    cases a1
    exact ⟨p, e, a2, upd_same⟩
  · rw [if_neg hj] at z
    obtain ⟨p', a1, a2, a3⟩ := h.2 j l z
    exact ⟨p', a1, a2, by rw [upd_ne (fun y => by rw [y] at a1; exact hj (D i j p e a1))]; exact a3⟩
theorem dist_snoc {S : Addr → Prop} {H : Hp} {xs : List V} {ts : List (List Nat)} {q : Addr} (h : RowsX S H xs ts) (D : Dist xs) (hq : H q = none) : Dist (xs ++ [.ref q]) := by
  have old : ∀ i p, xs[i]? = some (V.ref p) → p ≠ q := fun i p e z => by
    have hi : i < ts.length := by rw [← h.1]; exact (List.getElem?_eq_some_iff.mp e).1
    obtain ⟨p', a1, _, a3⟩ := h.2 i _ (List.getElem?_eq_getElem hi)
    rw [e] at a1; cases a1
    rw [z, hq] at a3; cases a3
  have cas : ∀ i p, (xs ++ [V.ref q])[i]? = some (V.ref p) → (xs[i]? = some (V.ref p)) ∨ (i = xs.length ∧ p = q) := fun i p e => by
    by_cases c : i < xs.length
    · rw [List.getElem?_append_left c] at e; exact .inl e
    · rw [List.getElem?_append_right (Nat.le_of_not_lt c)] at e
      have h2 := (List.getElem?_eq_some_iff.mp e).1
      rw [List.length_singleton] at h2
      have h3 : i - xs.length = 0 := by omega
      rw [h3] at e
      cases e
      exact .inr ⟨by omega, rfl⟩
  intro i j p e1 e2
  rcases cas i p e1 with h1 | ⟨h1, h1'⟩
  · rcases cas j p e2 with h2 | ⟨h2, h2'⟩
    · exact D i j p h1 h2
    · exact absurd h2' (old i p h1)
  · rcases cas j p e2 with h2 | ⟨h2, h2'⟩
    · exact absurd h1' (old j p h2)
    · omega
/-- who stands in which row -/
structure AtM (n c : Nat) (rows : List (List Nat)) (mem : Nat → Nat → Prop) : Prop where
  len : rows.length = n
  mm : ∀ (r : Nat) (row : List Nat), rows[r]? = some row → ∀ j, j ∈ row ↔ mem r j
  few : ∀ row ∈ rows, row.length ≤ c
theorem AtM.put {n c : Nat} {rows : List (List Nat)} {mem : Nat → Nat → Prop} (h : AtM n c rows mem) {a i : Nat} {l : List Nat} (hl : rows[a]? = some l) : AtM n (c + 1) (rows.set a (l ++ [i])) (fun r j => mem r j ∨ (r = a ∧ j = i)) := by
  have ha := (List.getElem?_eq_some_iff.mp hl).1
  refine ⟨by rw [List.length_set]; exact h.len, fun r row e j => ?_, fun row hr => ?_⟩
  · rw [set_at ha] at e
    by_cases z : a = r
    · rw [if_pos z] at e
      cases e
      subst z
      rw [List.mem_append, List.mem_singleton, h.mm a l hl j]
      exact ⟨fun y => y.imp id fun y => ⟨rfl, y⟩, fun y => y.imp id fun y => y.2⟩
    · rw [if_neg z] at e
      rw [h.mm r row e j]
      exact ⟨.inl, fun y => y.elim id fun y => absurd y.1.symm z⟩
  · rcases List.mem_or_eq_of_mem_set hr with y | y
    · have := h.few row y; omega
    · have := h.few l (List.mem_of_getElem? hl)
      rw [y, List.length_append, List.length_singleton]; omega
def memL (ls : List Lk) (r j : Nat) : Prop := ∃ l, ls[j]? = some l ∧ isEnd l r
structure Txt (mg : Str → Option Value) : Prop where
  n_len : mg "len" = none
  n_int : mg "int" = none
  n_bool : mg "bool" = none
  n_list : mg "list" = none
  n_tuple : mg "tuple" = none
  n_range : mg "range" = none
  n_min : mg "min" = none
  n_abs : mg "abs" = none
  n_enumerate : mg "enumerate" = none
  n_isinstance : mg "isinstance" = none
def spBey : Sp := fun vs H Q _ => ∃ (v : V) (l : Lk) (r : Nat), vs = [v, .int (r : Int)] ∧ LkAt H v l ∧ Q (.int ((bey l r : Nat) : Int)) H
def spAt : Sp := fun vs H Q _ => ∃ (v : V) (n : Nat) (ls : List Lk), vs = [.int (n : Int), v] ∧ LnAt H v ls ∧ Lok n ls ∧ ∀ (p : Addr) (ys : List V) (rows : List (List Nat)) H', Same H H' → H p = none → H' p = some (.lst ys) → RowsX (fun q => q = p ∨ H q ≠ none) H' ys rows → AtM n 120 rows (memL ls) → Q (.ref p) H'
section
variable {P : Program} {w : World} {K : PySem.W.Frag} {mg : Str → Option Value} {base : Heap}
theorem sc_beyond : FnScope ["link", "room"] ["link", "room"] (defScope s_beyond) := ⟨rfl, rfl, rfl, by decide +kernel, rfl, by decide +kernel, by decide +kernel⟩
theorem ok_bey {f : Addr} {fd : FuncData} (F : Fun K "beyond" "beyond" s_beyond f fd) : FnOk P w K mg base CX0 1 f fd ["link", "room"] spBey := by
  refine F.ok sc_beyond (fun vs H Q E h => ?_) (fun cdv A outer s H vs Q E hr h => ?_)
  · obtain ⟨v, l, r, rfl, _⟩ := h
    rfl
  obtain ⟨v, l, r, rfl, ⟨t, rfl, ht⟩, q⟩ := h
  refine ⟨_, (pss_one (ps_ret (pe_ifExp (pt_cmpR op_eq (pv 1) (pe_ix ix_tup (pv 0) pe_int (fun _ _ => rfl)) (nomark _)) (pe_ix ix_tup (pv 0) pe_int (fun _ _ => rfl)) (pe_ix ix_tup (pv 0) pe_int (fun _ _ => rfl))))), ?_⟩
  refine ⟨_, rfl, _, rfl, t, _, 0, _, rfl, rfl, SqT.of ht, a30, rfl, _, rfl, ?_⟩
  refine ite2 (fun c => ?_) (fun c => ?_)
  · have c' : r = l.1 := by have := V.int.inj (of_decide_eq_true c); omega
    have e : bey l r = l.2.1 := by unfold bey; rw [if_pos c']
    rw [e] at q
    exact ⟨_, rfl, t, _, 1, _, rfl, rfl, SqT.of ht, a31, q⟩
  · have c' : ¬ r = l.1 := fun z => c (decide_eq_true (congrArg V.int (by omega)))
    have e : bey l r = l.1 := by unfold bey; rw [if_neg c']
    rw [e] at q
    exact ⟨_, rfl, t, _, 0, _, rfl, rfl, SqT.of ht, a30, q⟩
theorem sc_links_at : FnScope ["many", "links", "at", "number", "link"] ["many", "links"] (defScope s_links_at) := ⟨rfl, rfl, rfl, by decide +kernel, rfl, by decide +kernel, by decide +kernel⟩
theorem ok_at {f : Addr} {fd : FuncData} (F : Fun K "links_at" "links_at" s_links_at f fd) (T : Txt mg) : FnOk P w K mg base CX0 1 f fd ["many", "links"] spAt := by
  refine F.ok sc_links_at (fun vs H Q E h => ?_) (fun cdv A outer s H vs Q E hr h => ?_)
  · obtain ⟨v, n, ls, rfl, _⟩ := h
    rfl
  obtain ⟨v, n, ls, rfl, ⟨a, xs, rfl, hA, hL⟩, ok, kk⟩ := h
  have n1 := ok.n1
  have l9 := ok.l9
  have xl := hL.1
  refine ⟨_, (pss_cons (ps_setComp (i := 2) rfl sc_links_at.nd rfl rfl (fr := []) (by exact CompOk.plain (by rfl) (by decide +kernel) (by rfl) (by decide +kernel) (by rfl) (by decide +kernel)) (pi_range1 rfl T.n_range (pa_cons (pv 0) pa_nil)) (fun C ex s H => (pe_lst pa_nil)))
      (pss_cons (ps_for PassesOwn.never rfl (pi_enum rfl T.n_enumerate (pa_cons (pv 1) pa_nil)) (pg_tup rfl (pgs_cons (pg_name (i := 3) sc_links_at.nd rfl (Or.inl rfl)) (pgs_cons (pg_name (i := 4) sc_links_at.nd rfl (Or.inl rfl)) pgs_nil))) (pss_cons (ps_expr (pe_bm PySem.F.plainAttrs_list PySem.F.slot_list_append PySem.F.type_list_append mt_append (pe_ix ix_list (pv 2) (pe_ix ix_tup (pv 4) pe_int (fun _ _ => rfl)) (fun _ _ => rfl)) (pa_cons (pv 3) pa_nil)))
      (pss_one (ps_expr (pe_bm PySem.F.plainAttrs_list PySem.F.slot_list_append PySem.F.type_list_append mt_append (pe_ix ix_list (pv 2) (pe_ix ix_tup (pv 4) pe_int (fun _ _ => rfl)) (fun _ _ => rfl)) (pa_cons (pv 3) pa_nil))))))
      (pss_one (ps_ret (pv 2))))), ?_⟩
  refine ⟨_, rfl, _, rfl, by omega, by omega, comp_range (n := (n : Int).toNat) (fun i ys H2 => Same H H2 ∧ RowsX (fun p => H p ≠ none) H2 ys (List.replicate i []) ∧ Dist ys) (by rw [Int.toNat_natCast]; exact Nat.le_of_lt (small1000 (by omega))) ⟨fun _ _ e => e, ⟨rfl, fun i l e => by simp at e⟩, fun i j p e => by simp at e⟩ ?_ ?_⟩
  · rintro i ys H2 hi ⟨s2, rx, D⟩
    refine ⟨(by show 0 ≤ sizeLine; decide), fun l hl => ?_⟩
    have s3 := same_new hl (.lst [])
    refine ⟨s2.trans s3, ?_, dist_snoc rx D hl⟩
    rw [List.replicate_succ']
    exact (rx.mono fun b u _ z => s3 _ _ z).snoc (fun z => z (same_no s2 hl)) upd_same
  rintro ys H2 hyl ⟨s2, rx, D⟩ pn hpn
  rw [Int.toNat_natCast] at rx
  have s3 := same_new hpn (.lst ys)
  have hpn0 : H pn = none := same_no s2 hpn
  have rx3 : RowsX (fun p => p = pn ∨ H p ≠ none) (upd H2 pn (.lst ys)) ys (List.replicate n []) := ⟨rx.1, fun i l z => by
    obtain ⟨p, a1, a2, a3⟩ := rx.2 i l z
    have n2 : p ≠ pn := ne_of_none a3 hpn
    exact ⟨p, a1, by rintro (y | y); exact n2 y; exact a2 y, s3 _ _ a3⟩⟩
  have m0 : AtM n 0 (List.replicate n []) (memL (ls.take 0)) := ⟨List.length_replicate, fun r row e j => by
    have := (List.mem_replicate.mp (List.mem_of_getElem? e)).2
    subst this
    exact ⟨(fun z => nomatch z), fun ⟨l, z, _⟩ => by rw [List.take_zero] at z; cases z⟩, fun row hr => by rw [(List.mem_replicate.mp hr).2]; exact Nat.le_refl _⟩
  refine ⟨_, rfl, a, rfl, ⟨_, SqL.of ((s2.trans s3) _ _ hA)⟩, for_enum (K := K) (xs := xs) (fun i σ H5 => ∃ v4 v5 rows, σ = [some (.int (n : Int)), some (.ref a), some (.ref pn), v4, v5] ∧ Same H H5 ∧ H5 pn = some (.lst ys) ∧ RowsX (fun p => p = pn ∨ H p ≠ none) H5 ys rows ∧ AtM n (2 * i) rows (memL (ls.take i)))
    ⟨_, _, _, rfl, s2.trans s3, upd_same, rx3, m0⟩ (fun i σ H5 _ ⟨_, _, _, _, z, _⟩ => SqL.of (z _ _ hA)) ?_ ?_⟩
  · rintro i x σ H5 T2 hx ⟨v4, v5, rows, rfl, s5, hpn5, rx5, am⟩ hT2
    obtain ⟨l, hl, p, rfl, hp⟩ := hL.get hx
    obtain ⟨b1, b2⟩ := ok.sm l (List.mem_of_getElem? hl)
    have sT := same_new hT2 (.tup [.int (i : Int), .ref p])
    have s6 := s5.trans sT
    have hp6 := s6 _ _ hp
    have rlen := am.len
    have ilt : i < ls.length := (List.getElem?_eq_some_iff.mp hl).1
    obtain ⟨r1, hr1⟩ : ∃ r, rows[l.1]? = some r := ⟨_, List.getElem?_eq_getElem (by omega)⟩
    have rx6 : RowsX (fun p => p = pn ∨ H p ≠ none) (upd H5 T2 (.tup [.int (i : Int), .ref p])) ys rows := rx5.mono fun b u _ z => sT _ _ z
    obtain ⟨p1, y1, y2, y3⟩ := rx6.2 _ _ hr1
    have no_S : ∀ {p : Addr}, ¬ (p = pn ∨ H p ≠ none) → H p = none ∧ p ≠ pn := fun {p} n => by
      refine ⟨?_, fun z => n (.inl z)⟩
      cases y : H p with
      | none => rfl
      | some o => exact absurd (.inr (by rw [y]; exact fun z => nomatch z)) n
    obtain ⟨hp1, np1⟩ := no_S y2
    have f1 := am.few r1 (List.mem_of_getElem? hr1)
    have hpn6 := sT _ _ hpn5
    refine ⟨T2, _, rfl, SqT.of upd_same, rfl, _, _, rfl, _, _, rfl, rfl, ?_⟩
    refine ⟨_, rfl, _, rfl, p, _, 0, _, rfl, rfl, SqT.of hp6, a30, pn, ys, _, _, rfl, rfl, SqL.of hpn6, atI_nat y1, .inl ⟨rfl, _, SqL.of y3⟩, _, rfl, p1, _, _, rfl, rfl, y3, small1000 (by rw [List.length_map]; omega), ?_⟩
    have e1' : (r1.map iV) ++ [V.int (i : Int)] = (r1 ++ [i]).map iV := by rw [List.map_append]; rfl
    rw [e1']
    have rx7 := rx6.set D y1 (l' := r1 ++ [i])
    have am1 := am.put (i := i) hr1
    have s7 : Same H (upd (upd H5 T2 (.tup [.int (i : Int), .ref p])) p1 (.lst ((r1 ++ [i]).map iV))) := same_upd s6 hp1 _
    have hp7 := s7 _ _ hp
    have hpn7 : (upd (upd H5 T2 (.tup [.int (i : Int), .ref p])) p1 (.lst ((r1 ++ [i]).map iV))) pn = some (.lst ys) := by rw [upd_ne np1.symm]; exact hpn6
    obtain ⟨r2, hr2⟩ : ∃ r, (rows.set l.1 (r1 ++ [i]))[l.2.1]? = some r := ⟨_, List.getElem?_eq_getElem (by rw [List.length_set]; omega)⟩
    obtain ⟨p2, z1, z2, z3⟩ := rx7.2 _ _ hr2
    obtain ⟨hp2, np2⟩ := no_S z2
    have f2 := am1.few r2 (List.mem_of_getElem? hr2)
    refine ⟨_, rfl, _, rfl, p, _, 1, _, rfl, rfl, SqT.of hp7, a31, pn, ys, _, _, rfl, rfl, SqL.of hpn7, atI_nat z1, .inl ⟨rfl, _, SqL.of z3⟩, _, rfl, p2, _, _, rfl, rfl, z3, small1000 (by rw [List.length_map]; omega), ?_⟩
    have e2' : (r2.map iV) ++ [V.int (i : Int)] = (r2 ++ [i]).map iV := by rw [List.map_append]; rfl
    rw [e2']
    have am2 := am1.put (i := i) hr2
    refine ⟨_, _, (rows.set l.1 (r1 ++ [i])).set l.2.1 (r2 ++ [i]), rfl, same_upd s7 hp2 _, by rw [upd_ne np2.symm]; exact hpn7, rx7.set D z1, am2.len, fun r row e j => ?_, fun row hr => ?_⟩
    · rw [am2.mm r row e j]
      unfold memL
      rw [List.take_add_one, hl]
      have til : (ls.take i).length = i := by rw [List.length_take]; omega
      constructor
      · rintro ((⟨l', h1, h2⟩ | ⟨h1, h2⟩) | ⟨h1, h2⟩)
        · exact ⟨l', by rw [List.getElem?_append_left (List.getElem?_eq_some_iff.mp h1).1]; exact h1, h2⟩
        · subst h2; exact ⟨l, by rw [List.getElem?_append_right (by omega), til, Nat.sub_self]; rfl, .inl h1⟩
        · subst h2; exact ⟨l, by rw [List.getElem?_append_right (by omega), til, Nat.sub_self]; rfl, .inr h1⟩
      · rintro ⟨l', h1, h2⟩
        by_cases c : j < i
        · rw [List.getElem?_append_left (by omega)] at h1
          exact .inl (.inl ⟨l', h1, h2⟩)
        · rw [List.getElem?_append_right (by omega)] at h1
          have h3 := (List.getElem?_eq_some_iff.mp h1).1
          have h4 : j = i := by
            have : (Option.toList (some l)).length = 1 := rfl
            omega
          subst h4
          rw [til, Nat.sub_self] at h1
          cases h1
          rcases h2 with h2 | h2
          · exact .inl (.inr ⟨h2, rfl⟩)
          · exact .inr ⟨h2, rfl⟩
    · have := am2.few row hr; omega
  · rintro σ H5 ⟨v4, v5, rows, rfl, s5, hpn5, rx5, am⟩
    rw [xl, List.take_length] at am
    exact ⟨_, rfl, kk pn ys rows H5 s5 hpn0 hpn5 rx5 ⟨am.len, am.mm, fun row hr => by have := am.few row hr; omega⟩⟩
end

def spBits : Sp := fun vs H Q _ => ∃ n : Int, vs = [.int n] ∧ 0 ≤ n ∧ n < 1208925819614629174706176 ∧ ∀ r H', Same H H' → H r = none → H' r = some (.lst ((K2.bitsF 0 n.toNat).map iV)) → Q (.ref r) H'
section
variable {P : Program} {w : World} {K : PySem.W.Frag} {mg : Str → Option Value} {base : Heap}
theorem sc_bits : FnScope ["mask", "numbers", "number", "rest"] ["mask"] (defScope s_bits) := ⟨rfl, rfl, rfl, by decide +kernel, rfl, by decide +kernel, by decide +kernel⟩
theorem ok_bits {f : Addr} {fd : FuncData} (F : Fun K "bits" "bits" s_bits f fd) : FnOk P w K mg base CX0 1 f fd ["mask"] spBits := by
  refine F.ok sc_bits (fun vs H Q E h => ?_) (fun cdv A outer s H vs Q E hr h => ?_)
  · obtain ⟨n, rfl, _⟩ := h
    rfl
  obtain ⟨n, rfl, h0, h1, k⟩ := h
  refine ⟨_, (pss_cons (ps_set (i := 1) sc_bits.nd rfl (Or.inl rfl) (pe_lst pa_nil))
      (pss_cons (ps_set (i := 2) sc_bits.nd rfl (Or.inl rfl) pe_int)
      (pss_cons (ps_set (i := 3) sc_bits.nd rfl (Or.inl rfl) (pv 0))
      (pss_cons (ps_while PassesOwn.never (pt_cmpR op_gt (pv 3) pe_int (nomark _)) (pss_cons (ps_if (pt_cmpR op_eq (pe_op op_mod (pv 3) pe_int) pe_int (nomark _)) (pss_one (ps_expr (pe_bm PySem.F.plainAttrs_list PySem.F.slot_list_append PySem.F.type_list_append mt_append (pv 1) (pa_cons (pv 2) pa_nil)))) pss_nil)
      (pss_cons (ps_set (i := 3) sc_bits.nd rfl (Or.inl rfl) (pe_op op_fdiv (pv 3) pe_int))
      (pss_one (ps_set (i := 2) sc_bits.nd rfl (Or.inl rfl) (pe_op op_add (pv 2) pe_int))))))
      (pss_one (ps_ret (pv 1))))))), ?_⟩
  refine ⟨(by show 0 ≤ sizeLine; decide), fun l hl => ?_⟩
  have z80 : (2 : Nat) ^ 80 = 1208925819614629174706176 := by decide
  have hlen : (K2.bitsF 0 n.toNat).length ≤ 80 := K2.bitsF_len 80 n.toNat 0 (by omega)
  refine ⟨_, rfl, while_by (fun σ H2 => ∃ (kn rn : Nat) (pre : List Nat), σ = [some (.int n), some (.ref l), some (.int (kn : Int)), some (.int (rn : Int))] ∧ H2 l = some (.lst (pre.map iV)) ∧ pre ++ K2.bitsF kn rn = K2.bitsF 0 n.toNat ∧ Same H H2)
    (fun σ _ => match σ with | [_, _, _, some (.int r)] => r.toNat | _ => 0) ⟨0, n.toNat, [], ?_, upd_same, rfl, same_new hl _⟩ ?_ ?_⟩
  · have e : ((n.toNat : Nat) : Int) = n := by omega
    rw [e]
    rfl
  · rintro σ H2 ⟨kn, rn, pre, rfl, hp, hb, hs⟩
    refine ⟨_, rfl, _, _, rfl, rfl, _, rfl, ?_⟩
    refine ite2 (fun c => ?_) (fun c => ?_)
    · have c' : (0 : Int) < (rn : Int) := of_decide_eq_true c
      have d2 : ((rn : Int) / 2) = ((rn / 2 : Nat) : Int) := by omega
      have hlp : pre.length ≤ 80 := by
        have := congrArg List.length hb
        rw [List.length_append] at this
        omega
      walk_at "rd"
      refine ite2 (fun o => ?_) (fun o => ?_)
      · have o' : (rn : Int) % 2 = 1 := V.int.inj (of_decide_eq_true o)
        refine ⟨_, rfl, .inl ⟨rfl, _, SqL.of hp⟩, _, rfl, l, _, _, rfl, rfl, hp, small1000 (by rw [List.length_map]; omega), ?_⟩
        walk_at "rd"
        refine ⟨⟨kn + 1, rn / 2, pre ++ [kn], ?_, ?_, ?_, ?_⟩, ?_⟩
        · show [some (V.int n), some (V.ref l), some (V.int ((kn : Int) + 1)), some (V.int ((rn : Int) / 2))] = _
          rw [d2]; rfl
        · rw [upd_same, List.map_append]; rfl
        · rw [List.append_assoc, ← hb]
          have z := K2.bitsF_odd (k := kn) (n := rn) (by omega)
          rw [z]; rfl
        · exact same_upd hs hl _
        · show ((rn : Int) / 2).toNat < ((rn : Nat) : Int).toNat
          omega
      · have o' : ¬ (rn : Int) % 2 = 1 := fun z => o (decide_eq_true (congrArg V.int z))
        walk_at "rd"
        refine ⟨⟨kn + 1, rn / 2, pre, ?_, hp, ?_, hs⟩, ?_⟩
        · show [some (V.int n), some (V.ref l), some (V.int ((kn : Int) + 1)), some (V.int ((rn : Int) / 2))] = _
          rw [d2]; rfl
        · rw [← hb, K2.bitsF_even (k := kn) (n := rn) (by omega) (by omega)]
        · show ((rn : Int) / 2).toNat < ((rn : Nat) : Int).toNat
          omega
    · have c' : ¬ (0 : Int) < (rn : Int) := fun z => c (decide_eq_true z)
      have z : rn = 0 := by omega
      subst z
      rw [K2.bitsF_zero, List.append_nil] at hb
      refine ⟨_, rfl, ?_⟩
      exact k l H2 hs hl (by rw [hp, hb])
  · rintro σ H2 Q1 Q2 hi ⟨v, e, i, j, a, b, kk, e2, q⟩
    exact ⟨v, e, i, j, a, b, kk, e2, hi _ _ q⟩
end

/-! pairings: the mathematics -/
def flat (PL : List (Nat × Nat)) : List Nat := PL.flatMap fun p => [p.1, p.2]
def cst (d : Nat → Nat → Int) (PL : List (Nat × Nat)) : Int := (PL.map fun p => d p.1 p.2).sum
def Cs (d : Nat → Nat → Int) (S : List Nat) (c : Int) : Prop := ∃ PL, (flat PL).Perm S ∧ cst d PL = c
structure Met (n : Nat) (d : Nat → Nat → Int) : Prop where
  sy : ∀ a b, d a b = d b a
  nn : ∀ a b, 0 ≤ d a b
  tr : ∀ a b c, a < n → b < n → c < n → d a c ≤ d a b + d b c
theorem flat_cons (p : Nat × Nat) (PL : List (Nat × Nat)) : flat (p :: PL) = p.1 :: p.2 :: flat PL := rfl
theorem cst_cons (d : Nat → Nat → Int) (p : Nat × Nat) (PL : List (Nat × Nat)) : cst d (p :: PL) = d p.1 p.2 + cst d PL := by unfold cst; rw [List.map_cons, List.sum_cons]
theorem Cs.perm {d : Nat → Nat → Int} {S S' : List Nat} {c : Int} (h : Cs d S c) (p : S.Perm S') : Cs d S' c := by
  obtain ⟨PL, h1, h2⟩ := h
  exact ⟨PL, h1.trans p, h2⟩
theorem part0 {d : Nat → Nat → Int} (sy : ∀ a b, d a b = d b a) {a : Nat} : ∀ {PL : List (Nat × Nat)}, a ∈ flat PL → ∃ e PL', (flat PL).Perm (a :: e :: flat PL') ∧ cst d PL = d a e + cst d PL'
  | [], h => nomatch h
  | (x, y) :: PL, h => by
    rw [flat_cons] at h
    by_cases c1 : a = x
    · subst c1
      exact ⟨y, PL, .refl _, cst_cons ..⟩
    by_cases c2 : a = y
    · subst c2
      exact ⟨x, PL, .swap _ _ _, by rw [cst_cons]; show d x a + _ = _; rw [sy x a]⟩
    have h' : a ∈ flat PL := by
      rcases List.mem_cons.mp h with h | h
      · exact absurd h c1
      · rcases List.mem_cons.mp h with h | h
        · exact absurd h c2
        · exact h
    obtain ⟨e, PL', p, ec⟩ := part0 sy h'
    refine ⟨e, (x, y) :: PL', ?_, by rw [cst_cons, cst_cons, ec]; omega⟩
    rw [flat_cons, flat_cons]
    have p1 : (x :: y :: flat PL).Perm (x :: y :: a :: e :: flat PL') := (p.cons y).cons x
    refine p1.trans ?_
    have q1 : ([x, y] ++ ([a, e] ++ flat PL')).Perm ([a, e] ++ ([x, y] ++ flat PL')) := by
      rw [← List.append_assoc, ← List.append_assoc]
      exact (List.perm_append_comm).append_right _
    exact q1
theorem Cs.part {d : Nat → Nat → Int} (sy : ∀ a b, d a b = d b a) {S : List Nat} {c : Int} {a : Nat} (h : Cs d S c) (ha : a ∈ S) : ∃ e R c0, S.Perm (a :: e :: R) ∧ Cs d R c0 ∧ c = d a e + c0 := by
  obtain ⟨PL, p, ec⟩ := h
  obtain ⟨e, PL', p', ec'⟩ := part0 sy (p.mem_iff.mpr ha)
  exact ⟨e, flat PL', cst d PL', p.symm.trans p', ⟨PL', .refl _, rfl⟩, by rw [← ec, ec']⟩
theorem Cs.add {d : Nat → Nat → Int} {R : List Nat} {c0 : Int} (a e : Nat) (h : Cs d R c0) : Cs d (a :: e :: R) (d a e + c0) := by
  obtain ⟨PL, p, ec⟩ := h
  exact ⟨(a, e) :: PL, by rw [flat_cons]; exact (p.cons e).cons a, by rw [cst_cons, ec]⟩
def tog (S : List Nat) (a : Nat) : List Nat := if a ∈ S then S.erase a else a :: S
theorem tog_nd {S : List Nat} (h : S.Nodup) (a : Nat) : (tog S a).Nodup := by
  unfold tog
  split
  · exact h.erase _
  · exact List.nodup_cons.mpr ⟨by assumption, h⟩
theorem tog_perm {S S' : List Nat} (p : S.Perm S') (a : Nat) : (tog S a).Perm (tog S' a) := by
  unfold tog
  by_cases c : a ∈ S
  · rw [if_pos c, if_pos (p.mem_iff.mp c)]
    exact p.erase a
  · rw [if_neg c, if_neg (fun z => c (p.mem_iff.mpr z))]
    exact p.cons a
theorem tog_tog {S : List Nat} (h : S.Nodup) (a : Nat) : (tog (tog S a) a).Perm S := by
  by_cases c : a ∈ S
  · have e : tog S a = S.erase a := by unfold tog; rw [if_pos c]
    have n : a ∉ S.erase a := h.not_mem_erase
    have e2 : tog (S.erase a) a = a :: S.erase a := by unfold tog; rw [if_neg n]
    rw [e, e2]
    exact (List.perm_cons_erase c).symm
  · have e : tog S a = a :: S := by unfold tog; rw [if_neg c]
    have e2 : tog (a :: S) a = S := by unfold tog; rw [if_pos (List.mem_cons_self ..), List.erase_cons_head]
    rw [e, e2]
theorem mem_tog {S : List Nat} (h : S.Nodup) {a x : Nat} : x ∈ tog S a ↔ (x ∈ S ∧ x ≠ a) ∨ (x = a ∧ a ∉ S) := by
  unfold tog
  by_cases c : a ∈ S
  · rw [if_pos c, h.mem_erase_iff]
    exact ⟨fun z => .inl ⟨z.2, z.1⟩, fun z => z.elim (fun y => ⟨y.2, y.1⟩) fun y => absurd c y.2⟩
  · rw [if_neg c, List.mem_cons]
    constructor
    · rintro (z | z)
      · exact .inr ⟨z, c⟩
      · exact .inl ⟨z, fun y => c (y ▸ z)⟩
    · rintro (z | z)
      · exact .inr z.1
      · exact .inl z.1
/-- two toggled: no dearer than the way between them -/
theorem Cs.two {n : Nat} {d : Nat → Nat → Int} (M : Met n d) {S : List Nat} {c : Int} (nd : S.Nodup) (lt : ∀ x ∈ S, x < n) (h : Cs d S c) {a b : Nat} (ha : a < n) (hb : b < n) : ∃ c', Cs d (tog (tog S a) b) c' ∧ c' ≤ c + d a b := by
  have dn := M.nn a b
  by_cases ab : a = b
  · subst ab
    exact ⟨c, h.perm (tog_tog nd a).symm, by omega⟩
  by_cases ca : a ∈ S
  · obtain ⟨e, R, c0, p, h0, ec⟩ := h.part M.sy ca
    have ea : tog S a = S.erase a := by unfold tog; rw [if_pos ca]
    have p1 : (S.erase a).Perm (e :: R) := by
      have := p.erase a
      rw [List.erase_cons_head] at this
      exact this
    have elt : e < n := lt e (p.mem_iff.mpr (List.mem_cons_of_mem _ (List.mem_cons_self ..)))
    rw [ea]
    by_cases cb : b ∈ S.erase a
    · have eb : tog (S.erase a) b = (S.erase a).erase b := by unfold tog; rw [if_pos cb]
      rw [eb]
      by_cases ebb : e = b
      · subst ebb
        have p2 := p1.erase e
        rw [List.erase_cons_head] at p2
        refine ⟨c0, h0.perm p2.symm, ?_⟩
        have := M.nn a e
        omega
      · have bR : b ∈ R := by
          rcases List.mem_cons.mp (p1.mem_iff.mp cb) with z | z
          · exact absurd z.symm ebb
          · exact z
        obtain ⟨f, R2, c1, q, h1, ec1⟩ := h0.part M.sy bR
        have flt : f < n := lt f (p.mem_iff.mpr (List.mem_cons_of_mem _ (List.mem_cons_of_mem _ (q.mem_iff.mpr (List.mem_cons_of_mem _ (List.mem_cons_self ..))))))
        have p2 : ((S.erase a).erase b).Perm (e :: f :: R2) := by
          have z1 : (S.erase a).Perm (b :: e :: f :: R2) := p1.trans ((q.cons e).trans (.swap _ _ _))
          have z2 := z1.erase b
          rw [List.erase_cons_head] at z2
          exact z2
        refine ⟨d e f + c1, (h1.add e f).perm p2.symm, ?_⟩
        have t1 := M.tr e a f elt ha flt
        have t2 := M.tr a b f ha hb flt
        have s1 := M.sy e a
        omega
    · have eb : tog (S.erase a) b = b :: S.erase a := by unfold tog; rw [if_neg cb]
      rw [eb]
      refine ⟨d b e + c0, (h0.add b e).perm (p1.symm.cons b), ?_⟩
      have t1 := M.tr b a e hb ha elt
      have s1 := M.sy b a
      omega
  · have ea : tog S a = a :: S := by unfold tog; rw [if_neg ca]
    rw [ea]
    by_cases cb : b ∈ S
    · have eb : tog (a :: S) b = a :: S.erase b := by
        unfold tog
        rw [if_pos (List.mem_cons_of_mem _ cb), List.erase_cons_tail (by simpa using ab)]
      rw [eb]
      obtain ⟨e, R, c0, p, h0, ec⟩ := h.part M.sy cb
      have p1 : (S.erase b).Perm (e :: R) := by
        have := p.erase b
        rw [List.erase_cons_head] at this
        exact this
      have elt : e < n := lt e (p.mem_iff.mpr (List.mem_cons_of_mem _ (List.mem_cons_self ..)))
      refine ⟨d a e + c0, (h0.add a e).perm (p1.symm.cons a), ?_⟩
      have t1 := M.tr a b e ha hb elt
      omega
    · have eb : tog (a :: S) b = b :: a :: S := by
        unfold tog
        rw [if_neg (fun z => by rcases List.mem_cons.mp z with z | z; exact ab z.symm; exact cb z)]
      rw [eb]
      refine ⟨d b a + c, h.add b a, ?_⟩
      have := M.sy b a
      omega

end KF


namespace KF
open PySem L2
local macro_rules | `(tactic| walk_at "cc") => `(tactic| first | exact ⟨by decide, by decide⟩ | (show (0 : Int) < _; decide) | (show (0 : Int) < _; omega) | (show (0 : Int) ≤ _; omega) | exact ⟨by decide, by decide, by decide⟩ | exact ⟨by omega, by omega, by decide⟩ | exact Or.inl ⟨by decide, by decide⟩ | exact Or.inl ⟨by omega, by omega⟩)
local macro_rules | `(tactic| walk_at "rd") => `(tactic| repeat (first | refine ⟨_, rfl, ?_⟩ | refine ⟨_, _, rfl, rfl, ?_⟩ | refine ⟨rfl, ?_⟩ | (refine ⟨?cc, ?_⟩; (case cc => walk_at "cc"))))

def lpF : Pos := ⟨37, 32, 37, 55⟩
theorem Fun.okT {P : Program} {w : World} {K : PySem.W.Frag} {mg : Str → Option Value} {base : Heap} {x qual : Str} {st : Stmt} {f c TT : Addr} {fd : FuncData} {N ps : List Str} {k : Nat} {sp : Sp} (F : Fun K x qual st f fd) (S : FnScope N ps (defScope st)) (ht : PySem.W.tabIn K x = some (c, TT)) (hn : PySem.W.nsIn K mainGlobals x = some (some (.ref f)))
    (len : ∀ vs H Q E, sp vs H Q E → vs.length = ps.length)
    (hbody : ∀ (A : Around) (outer : List Env) (s : Shared) (H : Hp) (vs : List V) (Q : VK) (E : XK), Room k (A.deeper (PyProof.Rows.envOfC qual (defScope st) s.heap.objs.size f (.ref c))) → sp vs H Q E →
      ∃ t, PSs (cxOf CX0 P w K mg base N qual (defScope st) f (.ref c) A outer s H E).nox (defBody st) t ∧ t { nx := fun _ H' => Q .non H', rt := Q } (start N vs) H) : FnOk P w K mg base CX0 (k + 1) f fd ps sp := by
  obtain ⟨oc, od, kV, doc, pm, an, cdv, ct, osl, rfl, lk, hcd⟩ := F.ex
  have e : cdv = .ref c := by
    unfold PySem.W.tabIn at ht
    rw [hn] at ht
    simp only [lk] at ht
    cases cdv <;> first | (cases ht; done) | skip
    simp only at ht
    split at ht
    · split at ht
      · cases ht; rfl
      · cases ht
    · cases ht
  subst e
  refine fn_of lk hcd S len fun A outer s H vs Q E hr hsp => ?_
  obtain ⟨t, h, q⟩ := hbody A outer s H vs Q E hr hsp
  exact ⟨t, h.nox, q⟩
def oV : Option Int → V | none => .non | some x => .int x
def oN : Option Nat → V | none => .non | some k => .int (k : Int)
def kw (r : Nat) : Key × V := (Sum.inl (r : Int), .bl true)
def lqF : Str := ("fares" : Str) ++ ".<locals>." ++ "<lambda>"
def sF (ta va wd TT p : Addr) : Prop := p = TT ∨ p = ta ∨ p = va ∨ p = wd
def KpS (S : Addr → Prop) (H H' : Hp) : Prop := ∀ b o, ¬ S b → H b = some o → H' b = some o
theorem KpS.upd {S : Addr → Prop} {H H1 : Hp} (a : KpS S H H1) {p : Addr} (hp : S p) (o : HO) : KpS S H (L2.upd H1 p o) := fun c u n h => by
  rw [upd_ne (fun z => n (by rw [z]; exact hp))]
  exact a c u n h
def spFares (TT : Addr) : Sp := fun vs H Q _ => ∃ (v : V) (n s : Nat) (ls : List Lk), vs = [.int (n : Int), v, .int (s : Int)] ∧ LnAt H v ls ∧ Lok n ls ∧ s < n ∧ Tb lqF lpF TT H ∧
  ∀ (t ta va : Addr) (TL : List (Option Int)) (VL : List (Option Nat)) H', TbS TT H H' → Tb lqF lpF TT H' → H ta = none → H va = none → H' t = some (.tup [.ref ta, .ref va]) → H' ta = some (.lst (TL.map oV)) → H' va = some (.lst (VL.map oN)) → FI n ls s MM TL VL [] (fun _ _ => False) → Q (.ref t) H'
/-- what is held while the fares are told -/
structure FH (ta va wd TT : Addr) (n s : Nat) (ls : List Lk) (H1 : Hp) (TL : List (Option Int)) (VL : List (Option Nat)) (W : List Nat) (ex : Nat → Nat → Prop) (H : Hp) : Prop where
  kp : KpS (sF ta va wd TT) H1 H
  ht : H ta = some (.lst (TL.map oV))
  hv : H va = some (.lst (VL.map oN))
  hw : H wd = some (.dK (W.map kw))
  tb : Tb lqF lpF TT H
  fi : FI n ls s MM TL VL W ex
  nd : W.Nodup
def vW (n : Nat) (v : V) : Nat := match v with | .int x => x.toNat | _ => n * MM + 1
def mesH (n : Nat) (ta wd : Addr) (H : Hp) : Nat := match H ta, H wd with
  | some (.lst xs), some (.dK kvs) => (xs.map (vW n)).sum * (n + 1) + kvs.length
  | _, _ => 0
theorem FH.mes {ta va wd TT : Addr} {n s : Nat} {ls : List Lk} {H1 H : Hp} {TL : List (Option Int)} {VL : List (Option Nat)} {W : List Nat} {ex : Nat → Nat → Prop} (h : FH ta va wd TT n s ls H1 TL VL W ex H) : mesH n ta wd H = wgt (n * MM + 1) TL * (n + 1) + W.length := by
  unfold mesH wgt
  rw [h.ht, h.hw]
  have e : (TL.map oV).map (vW n) = TL.map (vOf (n * MM + 1)) := by
    rw [List.map_map]
    refine List.map_congr_left fun o _ => ?_
    cases o <;> rfl
  show ((TL.map oV).map (vW n)).sum * (n + 1) + (W.map kw).length = _
  rw [e, List.length_map]
theorem FH.wlen {ta va wd TT : Addr} {n s : Nat} {ls : List Lk} {H1 H : Hp} {TL : List (Option Int)} {VL : List (Option Nat)} {W : List Nat} {ex : Nat → Nat → Prop} (h : FH ta va wd TT n s ls H1 TL VL W ex H) : W.length ≤ n :=
  nd_below n W h.nd fun x hx => by
    obtain ⟨y, hy⟩ := h.fi.wk x hx
    have := (List.getElem?_eq_some_iff.mp hy).1
    rw [h.fi.tl] at this
    exact this
theorem kw_inj {r s : Nat} (h : (kw r).1 = (kw s).1) : r = s := by
  have : (r : Int) = (s : Int) := by injection h
  omega
theorem val_kw {r : Nat} : ∀ {W : List Nat}, r ∈ W → valV (W.map kw) (.inl (r : Int)) = some (.bl true)
  | w :: W, h => by
    rw [List.map_cons]
    by_cases c : (kw w).1 = Sum.inl (r : Int)
    · rw [valV_pos c]; rfl
    · rw [valV_neg c]
      refine val_kw ?_
      rcases List.mem_cons.mp h with h | h
      · exact absurd (by rw [h]; rfl) c
      · exact h
theorem no_kw {r : Nat} : ∀ {W : List Nat}, r ∉ W → valV (W.map kw) (.inl (r : Int)) = none
  | [], _ => rfl
  | w :: W, h => by
    rw [List.map_cons, valV_neg (fun c => h (by rw [kw_inj (r := w) (s := r) c]; exact List.mem_cons_self ..))]
    exact no_kw fun z => h (List.mem_cons_of_mem _ z)
theorem drop_kw (r : Nat) : ∀ W : List Nat, dropK (W.map kw) (.inl (r : Int)) = (W.filter (fun x => decide (x ≠ r))).map kw
  | [] => rfl
  | w :: W => by
    rw [List.map_cons]
    by_cases c : w = r
    · rw [dropK_pos (by rw [c]; rfl), drop_kw r W, List.filter_cons_of_neg (by simpa using c)]
    · rw [dropK_neg (k := Sum.inl (r : Int)) (fun z => c (kw_inj (r := w) (s := r) z)), drop_kw r W, List.filter_cons_of_pos (by simpa using c), List.map_cons]
theorem put_kw {t : Nat} {W : List Nat} (nd : W.Nodup) : ∃ W' : List Nat, putK (W.map kw) (.inl (t : Int)) (.bl true) = W'.map kw ∧ W'.Nodup ∧ ∀ r, r ∈ W' ↔ r ∈ W ∨ r = t := by
  by_cases c : t ∈ W
  · refine ⟨W, ?_, nd, fun r => ⟨.inl, fun z => z.elim id fun z => z ▸ c⟩⟩
    unfold putK
    rw [valV_any, val_kw c, Option.isSome_some, if_pos rfl]
    rw [List.map_map]
    refine List.map_congr_left fun x _ => ?_
    show (if (kw x).1 = Sum.inl (t : Int) then ((kw x).1, V.bl true) else kw x) = kw x
    split <;> rfl
  · refine ⟨W ++ [t], by rw [putK_new _ (no_kw c), List.map_append]; rfl, nd_snoc nd c, fun r => by rw [List.mem_append, List.mem_singleton]⟩
structure Sg (la aa ta va wd TT : Addr) (n s : Nat) (ls : List Lk) (xs ys : List V) (rows : List (List Nat)) (H1 : Hp) : Prop where
  hA : H1 la = some (.lst xs)
  hL : LsAt LkAt H1 xs ls
  ok : Lok n ls
  hR : H1 aa = some (.lst ys)
  rx : RowsX (sF ta va wd TT) H1 ys rows
  am : AtM n 120 rows (memL ls)
  nla : ¬ sF ta va wd TT la
  naa : ¬ sF ta va wd TT aa
  tt : ∀ t o, H1 t = some (.tup o) → ¬ sF ta va wd TT t
  ntv : ta ≠ va
  ntw : ta ≠ wd
  nvw : va ≠ wd
  nTt : ta ≠ TT
  nTv : va ≠ TT
  nTw : wd ≠ TT
theorem tb_keep {q : Str} {lp : Pos} {TT : Addr} {H H' : Hp} (h : Tb q lp TT H) (k : ∀ b, (b = TT ∨ ∃ c, H b = some (codO c q)) → H' b = H b) : Tb q lp TT H' := by
  rcases h with h | ⟨c, h1, h2⟩
  · exact .inl ((k TT (.inl rfl)).trans h)
  · exact .inr ⟨c, (k TT (.inl rfl)).trans h1, (k c (.inr ⟨c, h2⟩)).trans h2⟩
theorem FH.new {ta va wd TT : Addr} {n s : Nat} {ls : List Lk} {H1 H : Hp} {TL : List (Option Int)} {VL : List (Option Nat)} {W : List Nat} {ex : Nat → Nat → Prop} (h : FH ta va wd TT n s ls H1 TL VL W ex H) {p : Addr} (hp : H p = none) (o : HO) : FH ta va wd TT n s ls H1 TL VL W ex (upd H p o) := by
  have sm := same_new hp o
  refine ⟨fun b u nb e => sm _ _ (h.kp b u nb e), sm _ _ h.ht, sm _ _ h.hv, sm _ _ h.hw, tb_keep h.tb fun b hb => upd_ne fun z => ?_, h.fi, h.nd⟩
  subst z
  rcases hb with hb | ⟨c, hb⟩
  · subst hb
    rcases h.tb with y | ⟨_, y, _⟩ <;> rw [hp] at y <;> cases y
  · rw [hp] at hb; cases hb
theorem FH.tab {ta va wd TT : Addr} {n s : Nat} {ls : List Lk} {H1 H H' : Hp} {TL : List (Option Int)} {VL : List (Option Nat)} {W : List Nat} {ex : Nat → Nat → Prop} (h : FH ta va wd TT n s ls H1 TL VL W ex H) (nTt : ta ≠ TT) (nTv : va ≠ TT) (nTw : wd ≠ TT) (sm : TbS TT H H') (tb : Tb lqF lpF TT H') : FH ta va wd TT n s ls H1 TL VL W ex H' :=
  ⟨fun b u nb e => sm _ _ (fun z => nb (.inl z)) (h.kp b u nb e), sm _ _ nTt h.ht, sm _ _ nTv h.hv, sm _ _ nTw h.hw, tb, h.fi, h.nd⟩
def FrI (la aa ta va wd TT : Addr) (n s : Nat) (ls : List Lk) (H1 : Hp) (σ : St) (H : Hp) : Prop := ∃ (v7 v8 v9 v10 : Option V) (TL : List (Option Int)) (VL : List (Option Nat)) (W : List Nat),
  σ = [some (.int (n : Int)), some (.ref la), some (.int (s : Int)), some (.ref aa), some (.ref ta), some (.ref va), some (.ref wd), v7, v8, v9, v10] ∧ FH ta va wd TT n s ls H1 TL VL W (fun _ _ => False) H
/-- in the loop over a room's links -/
def InI (la aa ta va wd TT : Addr) (n s : Nat) (ls : List Lk) (row : List Nat) (m w0 l0 : Nat) (H1 : Hp) (i : Nat) (σ : St) (H : Hp) : Prop := ∃ (v8 v9 v10 : Option V) (TL : List (Option Int)) (VL : List (Option Nat)) (W : List Nat),
  σ = [some (.int (n : Int)), some (.ref la), some (.int (s : Int)), some (.ref aa), some (.ref ta), some (.ref va), some (.ref wd), some (.int (m : Int)), v8, v9, v10] ∧ FH ta va wd TT n s ls H1 TL VL W (fun r j => r = m ∧ j ∉ row.take i) H ∧ (∃ x, TL[m]? = some (some x)) ∧
  ((wgt (n * MM + 1) TL = w0 ∧ W.length < l0) ∨ wgt (n * MM + 1) TL < w0)
def restF (la TT : Addr) (n s : Nat) (ls : List Lk) : TS := fun D σ H => ∃ (aa ta va wd : Addr) (xs ys : List V) (rows : List (List Nat)) (H1 : Hp) (v8 v9 v10 : Option V) (TL : List (Option Int)) (VL : List (Option Nat)) (W : List Nat) (m l0 : Nat), Sg la aa ta va wd TT n s ls xs ys rows H1 ∧
  σ = [some (.int (n : Int)), some (.ref la), some (.int (s : Int)), some (.ref aa), some (.ref ta), some (.ref va), some (.ref wd), some (.int (m : Int)), v8, v9, v10] ∧ FH ta va wd TT n s ls H1 TL VL W (fun r _ => r = m) H ∧ (∃ x, TL[m]? = some (some x)) ∧ W.length < l0 ∧
  ∀ σ' H', FrI la aa ta va wd TT n s ls H1 σ' H' → mesH n ta wd H' < wgt (n * MM + 1) TL * (n + 1) + l0 → D.nx σ' H'
def restM (la TT : Addr) (n s : Nat) (ls : List Lk) : TS := fun D σ H => ∃ (aa ta va wd : Addr) (xs ys : List V) (rows : List (List Nat)) (H1 : Hp) (TL : List (Option Int)) (VL : List (Option Nat)) (W : List Nat) (m w0 l0 i k : Nat) (row : List Nat) (l : Lk) (x : Int) (o : Option Int), Sg la aa ta va wd TT n s ls xs ys rows H1 ∧
  σ = [some (.int (n : Int)), some (.ref la), some (.int (s : Int)), some (.ref aa), some (.ref ta), some (.ref va), some (.ref wd), some (.int (m : Int)), some (.int (k : Int)), some (.int ((bey l m : Nat) : Int)), some (.int (x + l.2.2))] ∧ FH ta va wd TT n s ls H1 TL VL W (fun r j => r = m ∧ j ∉ row.take i) H ∧
  ls[k]? = some l ∧ isEnd l m ∧ TL[m]? = some (some x) ∧ TL[bey l m]? = some o ∧ (∀ y, o = some y → x + l.2.2 < y) ∧ row[i]? = some k ∧ ((wgt (n * MM + 1) TL = w0 ∧ W.length < l0) ∨ wgt (n * MM + 1) TL < w0) ∧
  ∀ σ' H', InI la aa ta va wd TT n s ls row m w0 l0 H1 (i + 1) σ' H' → D.nx σ' H'
theorem ex_step {row : List Nat} {m i k : Nat} (hk : row[i]? = some k) : ∀ r j, (r = m ∧ j ∉ row.take i) → (r = m ∧ j ∉ row.take (i + 1)) ∨ (r = m ∧ j = k) := fun r j ⟨h1, h2⟩ => by
  by_cases c : j = k
  · exact .inr ⟨h1, c⟩
  · refine .inl ⟨h1, fun z => ?_⟩
    rw [List.take_add_one, hk] at z
    rcases List.mem_append.mp z with z | z
    · exact h2 z
    · exact c (List.mem_singleton.mp z)
theorem oV_at {TL : List (Option Int)} {r : Nat} {o : Option Int} (h : TL[r]? = some o) : (TL.map oV)[r]? = some (oV o) := by rw [List.getElem?_map, h]; rfl
section
variable {P : Program} {w : World} {K : PySem.W.Frag} {mg : Str → Option Value} {base : Heap}
theorem sc_fares : FnScope ["many", "links", "start", "at", "told", "via", "waiting", "room", "number", "there", "fare"] ["many", "links", "start"] (defScope s_fares) := ⟨rfl, rfl, rfl, by decide +kernel, rfl, by decide +kernel, by decide +kernel⟩
theorem ok_fares {f f1 f2 c TT : Addr} {fd fd1 fd2 : FuncData} (F : Fun K "fares" "fares" s_fares f fd) (T : Txt mg) (ht : PySem.W.tabIn K "fares" = some (c, TT)) (hn : PySem.W.nsIn K mainGlobals "fares" = some (some (.ref f))) (hcd : PySem.W.CodeHd base c TT) (hbm : Bm mg base)
    (G_links_at : Cal P w K mg base 1 "links_at" ["many", "links"] spAt f1 fd1) (G_beyond : Cal P w K mg base 1 "beyond" ["link", "room"] spBey f2 fd2) : FnOk P w K mg base CX0 2 f fd ["many", "links", "start"] (spFares TT) := by
  refine Fun.okT F sc_fares ht hn (fun vs H Q E h => ?_) (fun A outer s H vs Q E hr h => ?_)
  · obtain ⟨v, n, st0, ls, rfl, _⟩ := h
    rfl
  obtain ⟨v, n, st0, ls, rfl, ⟨la, xs, rfl, hA, hL⟩, ok, hs, tb0, kk⟩ := h
  have hu := hu_of hr
  have hu64 := hr.units
  have n1 := ok.n1
  have l9 := ok.l9
  have LM : ∀ N, Lam (cxOf CX0 P w K mg base N "fares" (defScope s_fares) f (.ref c) A outer s H E).nox c TT (s.heap.objs.size + 1) lqF := fun N => ⟨rfl, hcd, hbm, rfl, rfl, rfl, rfl⟩
  refine ⟨_, (pss_cons (ps_set (i := 3) sc_fares.nd rfl (Or.inl rfl) (pe_call G_links_at.ok (hr.mono (by decide)) rfl G_links_at.mg G_links_at.kp G_links_at.bn .nil pass0 (pa_cons (pv 0) (pa_cons (pv 1) pa_nil))))
      (pss_cons (ps_set (i := 4) sc_fares.nd rfl (Or.inr rfl) (pe_comp rfl (fr := []) (by exact CompOk.plain (by rfl) (by decide +kernel) (by rfl) (by decide +kernel) (by rfl) (by decide +kernel)) (pi_range1 rfl T.n_range (pa_cons (pv 0) pa_nil)) (fun C ex s H => pe_non)))
      (pss_cons (ps_setComp (i := 5) rfl sc_fares.nd rfl rfl (fr := []) (by exact CompOk.plain (by rfl) (by decide +kernel) (by rfl) (by decide +kernel) (by rfl) (by decide +kernel)) (pi_range1 rfl T.n_range (pa_cons (pv 0) pa_nil)) (fun C ex s H => pe_non))
      (pss_cons (ps_asg pe_int (pg_sub (pv 4) (pv 2) set_list))
      (pss_cons (ps_set (i := 6) sc_fares.nd rfl (Or.inl rfl) (pe_disp (pps_cons (pv 2) pe_bl pps_nil) rfl rfl (fun z => by cases z) (by decide)))
      (pss_cons (ps_while PassesOwn.never (pt_cmpR (op_neE hu64) (pv 6) pe_dnewK (nomark _)) (pss_cons (ps_set (i := 7) sc_fares.nd rfl (Or.inl rfl) (pe_minK (it := 4) (LM _) rfl rfl (hr.mono (by decide)) rfl (Or.inr (Or.inl rfl)) rfl T.n_min (pa_cons (pv 6) pa_nil)))
      (pss_cons (ps_expr (pe_dpop1 (pv 6) (pv 7) ⟨rfl, rfl, rfl, rfl⟩))
      (pss_imp (t2 := restF la TT n st0 ls) (pss_one (ps_for PassesOwn.never rfl (pi_list (pe_ix ix_list (pv 3) (pv 7) (fun _ _ => rfl))) (pg_name (i := 8) sc_fares.nd rfl (Or.inl rfl)) (pss_cons (ps_set (i := 9) sc_fares.nd rfl (Or.inl rfl) (pe_call G_beyond.ok (hr.mono (by decide)) rfl G_beyond.mg G_beyond.kp G_beyond.bn .nil pass0 (pa_cons (pe_ix ix_list (pv 1) (pv 8) (fun _ _ => rfl)) (pa_cons (pv 7) pa_nil))))
      (pss_cons (ps_set (i := 10) sc_fares.nd rfl (Or.inl rfl) (pe_op op_add (pe_ix ix_list (pv 4) (pv 7) (fun _ _ => rfl)) (pe_ix ix_tup (pe_ix ix_list (pv 1) (pv 8) (fun _ _ => rfl)) pe_int (fun _ _ => rfl))))
      (pss_one (ps_if (PW.pt (pw_or (pt_cmpR op_isN (pe_ix ix_list (pv 4) (pv 9) (fun _ _ => rfl)) pe_non (nomark _)) (pw_or1 (pt_cmpR op_lt (pv 10) (pe_ix ix_list (pv 4) (pv 9) (fun _ _ => rfl)) (nomark _))))) (pss_imp (t2 := restM la TT n st0 ls) (pss_cons (ps_asg (pv 10) (pg_sub (pv 4) (pv 9) set_list))
      (pss_cons (ps_asg (pv 8) (pg_sub (pv 5) (pv 9) set_list))
      (pss_one (ps_dput hu (pv 6) (pv 9) pe_bl rfl)))) (fun D0 S0 H0 h0 => ?restm)) pss_nil)))))) (fun D0 S0 H0 h0 => ?restf)))))
      (pss_one (ps_ret (pe_tup (pa_cons (pv 4) (pa_cons (pv 5) pa_nil))))))))))), ?_⟩
  case restm =>
    obtain ⟨aa, ta, va, wd, xs, ys, rows, H1, TL, VL, W, m, w0, l0, i, k, row, l, x, o, sg, rfl, fh, hl, hm, hx, ho, hlt, hk, dec, kn⟩ := h0
    have tl := fh.fi.tl
    have vl := fh.fi.vl
    have tt : bey l m < n := by rw [← tl]; exact (List.getElem?_eq_some_iff.mp ho).1
    have l0' := (fh.fi.w0 l (List.mem_of_getElem? hl))
    have ntv := sg.ntv
    have ntw := sg.ntw
    have nvw := sg.nvw
    have nTt := sg.nTt
    have nTv := sg.nTv
    have nTw := sg.nTw
    refine ⟨_, rfl, _, rfl, _, rfl, ta, _, _, bey l m, rfl, rfl, fh.ht, ixN_nat (by rw [List.length_map]; omega), ?_⟩
    refine ⟨_, rfl, _, rfl, _, rfl, va, _, _, bey l m, rfl, rfl, by rw [upd_ne (Ne.symm ntv)]; exact fh.hv, ixN_nat (by rw [List.length_map]; omega), ?_⟩
    have hw2 : (upd (upd H0 ta (.lst ((TL.map oV).set (bey l m) (.int (x + l.2.2))))) va (.lst ((VL.map oN).set (bey l m) (.int (k : Int))))) wd = some (.dK (W.map kw)) := by rw [upd_ne (Ne.symm nvw), upd_ne (Ne.symm ntw)]; exact fh.hw
    have wl := fh.wlen
    refine ⟨_, rfl, _, rfl, wd, _, rfl, DPut.k (k := .inl ((bey l m : Nat) : Int)) (v := .bl true) hw2 (by rw [List.length_map]; exact small1000 (by omega)), ?_⟩
    obtain ⟨W', eW, nd', mW⟩ := put_kw (t := bey l m) fh.nd
    rw [eW]
    have e1 : (TL.map oV).set (bey l m) (.int (x + l.2.2)) = (TL.set (bey l m) (some (x + l.2.2))).map oV := by rw [List.map_set]; rfl
    have e2 : (VL.map oN).set (bey l m) (.int (k : Int)) = (VL.set (bey l m) (some k)).map oN := by rw [List.map_set]; rfl
    rw [e1, e2]
    have fi2 := fh.fi.mend (W' := W') hl hm hx ho hlt mW (ex_step hk)
    have wd2 := wgt_mend fh.fi l0'.1 l0'.2 hx ho hlt
    have nm : bey l m ≠ m := fun e => by
      rw [e, hx] at ho
      cases ho
      have := hlt x rfl
      omega
    refine kn _ _ ⟨_, _, _, _, _, W', rfl, ⟨((fh.kp.upd (.inr (.inl rfl)) _).upd (.inr (.inr (.inl rfl))) _).upd (.inr (.inr (.inr rfl))) _, ?_, ?_, upd_same, ?_, fi2, nd'⟩, ⟨x, by rw [set_at (by omega), if_neg nm]; exact hx⟩, .inr (by rcases dec with d | d <;> omega)⟩
    · rw [upd_ne ntw, upd_ne ntv]; exact upd_same
    · rw [upd_ne nvw]; exact upd_same
    · refine tb_keep fh.tb fun b hb => ?_
      rw [upd_ne (fun z => ?_), upd_ne (fun z => ?_), upd_ne (fun z => ?_)]
      · rcases hb with hb | ⟨c', hb⟩
        · exact nTt (z ▸ hb)
        · rw [z, fh.ht] at hb; cases hb
      · rcases hb with hb | ⟨c', hb⟩
        · exact nTv (z ▸ hb)
        · rw [z, fh.hv] at hb; cases hb
      · rcases hb with hb | ⟨c', hb⟩
        · exact nTw (z ▸ hb)
        · rw [z, fh.hw] at hb; cases hb
  case restf =>
    obtain ⟨aa, ta, va, wd, xs, ys, rows, H1, v8, v9, v10, TL, VL, W, m, l0, sg, rfl, fh, ⟨x, hx⟩, hl0, kn⟩ := h0
    have mn : m < n := by rw [← fh.fi.tl]; exact (List.getElem?_eq_some_iff.mp hx).1
    have rl := sg.am.len
    obtain ⟨row, hrow⟩ : ∃ row, rows[m]? = some row := ⟨_, List.getElem?_eq_getElem (by omega)⟩
    obtain ⟨pr, r1, r2, r3⟩ := sg.rx.2 _ _ hrow
    have hR := fh.kp _ _ sg.naa sg.hR
    have hrw := fh.kp _ _ r2 r3
    have few := sg.am.few row (List.mem_of_getElem? hrow)
    refine ⟨_, rfl, _, rfl, aa, _, _, _, rfl, rfl, SqL.of hR, atI_nat r1, pr, rfl, ⟨_, SqL.of hrw⟩, for_list (K := K) (xs := row.map iV) (InI la aa ta va wd TT n st0 ls row m (wgt (n * MM + 1) TL) l0 H1) ⟨_, _, _, TL, VL, W, rfl, ⟨fh.kp, fh.ht, fh.hv, fh.hw, fh.tb, fh.fi.exw fun r i l _ _ z => ⟨z, by rw [List.take_zero]; exact fun y => nomatch y⟩, fh.nd⟩, ⟨x, hx⟩, .inl ⟨rfl, hl0⟩⟩ (fun i σ H2 _ z => ?_) ?_ ?_⟩
    · obtain ⟨_, _, _, _, _, _, _, f2, _⟩ := z
      exact SqL.of (f2.kp _ _ r2 r3)
    · rintro i y σ H2 hy ⟨v8, v9, v10, TL2, VL2, W2, rfl, f2, ⟨x2, hx2⟩, dec⟩
      rw [List.getElem?_map] at hy
      obtain ⟨k, hk, rfl⟩ := Option.map_eq_some_iff.mp hy
      obtain ⟨l, hl, hend⟩ := (sg.am.mm m row hrow k).mp (List.mem_of_getElem? hk)
      obtain ⟨lv, hlv, hlk⟩ := sg.hL.2 k l hl
      obtain ⟨lt, rfl, hlt0⟩ := hlk
      have hlt2 := f2.kp _ _ (sg.tt _ _ hlt0) hlt0
      have hA2 := f2.kp _ _ sg.nla sg.hA
      obtain ⟨b1, b2⟩ := sg.ok.sm l (List.mem_of_getElem? hl)
      have tt : bey l m < n := bey_lt b1 b2
      have tl2 := f2.fi.tl
      obtain ⟨o, ho⟩ : ∃ o, TL2[bey l m]? = some o := ⟨_, List.getElem?_eq_getElem (by omega)⟩
      refine ⟨_, rfl, _, rfl, la, _, _, _, rfl, rfl, SqL.of hA2, atI_nat hlv, _, rfl, .ref lt, l, m, rfl, ⟨lt, rfl, hlt2⟩, ?_⟩
      refine ⟨_, rfl, _, rfl, ta, _, _, _, rfl, rfl, SqL.of f2.ht, atI_nat (oV_at hx2), _, rfl, _, rfl, la, _, _, _, rfl, rfl, SqL.of hA2, atI_nat hlv, lt, _, 2, _, rfl, rfl, SqT.of hlt2, a32, _, _, rfl, rfl, ?_⟩
      refine ⟨_, rfl, _, rfl, ta, _, _, _, rfl, rfl, SqL.of f2.ht, atI_nat (oV_at ho), rfl, _, rfl, ?_⟩
      cases o with
      | none =>
        refine iteT (iteT ?_)
        exact ⟨aa, ta, va, wd, xs, ys, rows, H1, TL2, VL2, W2, m, wgt (n * MM + 1) TL, l0, i, k, row, l, x2, none, sg, rfl, f2, hl, hend, hx2, ho, (fun y e => nomatch e), hk, dec, fun σ' H' z => z⟩
      | some y0 =>
        refine iteF ?_
        refine ⟨_, rfl, _, rfl, _, rfl, ta, _, _, _, rfl, rfl, SqL.of f2.ht, atI_nat (oV_at ho), _, _, rfl, rfl, _, rfl, ?_⟩
        refine ite2 (fun c => ?_) (fun c => ?_)
        · have c' : x2 + l.2.2 < y0 := of_decide_eq_true c
          exact ⟨aa, ta, va, wd, xs, ys, rows, H1, TL2, VL2, W2, m, wgt (n * MM + 1) TL, l0, i, k, row, l, x2, some y0, sg, rfl, f2, hl, hend, hx2, ho, (fun y e => by cases e; exact c'), hk, dec, fun σ' H' z => z⟩
        · have c' : ¬ x2 + l.2.2 < y0 := fun z => c (decide_eq_true z)
          exact ⟨_, _, _, TL2, VL2, W2, rfl, ⟨f2.kp, f2.ht, f2.hv, f2.hw, f2.tb, f2.fi.leave hl hx2 ho (by omega) (ex_step hk), f2.nd⟩, ⟨x2, hx2⟩, dec⟩
    · rintro σ H2 ⟨v8, v9, v10, TL2, VL2, W2, rfl, f2, _, dec⟩
      have fin : FH ta va wd TT n st0 ls H1 TL2 VL2 W2 (fun _ _ => False) H2 := ⟨f2.kp, f2.ht, f2.hv, f2.hw, f2.tb, f2.fi.exw fun r i l hl hend ⟨z1, z2⟩ => by
        subst z1
        rw [List.length_map, List.take_length] at z2
        exact z2 ((sg.am.mm r row hrow i).mpr ⟨l, hl, hend⟩), f2.nd⟩
      refine kn _ _ ⟨_, _, _, _, TL2, VL2, W2, rfl, fin⟩ ?_
      rw [fin.mes]
      have wl := fin.wlen
      rcases dec with ⟨d1, d2⟩ | d
      · rw [d1]; omega
      · have h1 : (wgt (n * MM + 1) TL2 + 1) * (n + 1) ≤ wgt (n * MM + 1) TL * (n + 1) := Nat.mul_le_mul_right _ d
        rw [Nat.add_mul, Nat.one_mul] at h1
        omega
  refine ⟨_, rfl, _, rfl, .ref la, n, ls, rfl, ⟨la, xs, rfl, hA, hL⟩, ok, fun aa ys rows Ha sa haa0 haa rx am => ?_⟩
  refine ⟨_, rfl, _, rfl, by omega, by omega, comp_range (n := (n : Int).toNat) (fun i zs H2 => H2 = Ha ∧ zs = List.replicate i V.non) (by rw [Int.toNat_natCast]; exact Nat.le_of_lt (small1000 (by omega))) ⟨rfl, rfl⟩ ?_ ?_⟩
  · rintro i zs H2 hi ⟨rfl, rfl⟩
    exact ⟨rfl, by rw [List.replicate_succ']⟩
  rintro zs H2 _ ⟨rfl, rfl⟩ ta hta
  rw [Int.toNat_natCast]
  have z1 := same_new hta (.lst (List.replicate n V.non))
  refine ⟨_, rfl, _, rfl, by omega, by omega, comp_range (n := (n : Int).toNat) (fun i zs H3 => H3 = upd H2 ta (.lst (List.replicate n V.non)) ∧ zs = List.replicate i V.non) (by rw [Int.toNat_natCast]; exact Nat.le_of_lt (small1000 (by omega))) ⟨rfl, rfl⟩ ?_ ?_⟩
  · rintro i zs H3 hi ⟨rfl, rfl⟩
    exact ⟨rfl, by rw [List.replicate_succ']⟩
  rintro zs H3 _ ⟨rfl, rfl⟩ va hva
  rw [Int.toNat_natCast]
  have ntv : ta ≠ va := fun z => by rw [← z, upd_same] at hva; cases hva
  have z2 := same_new hva (.lst (List.replicate n V.non))
  refine ⟨_, rfl, _, rfl, ta, _, _, st0, rfl, rfl, by rw [upd_ne ntv]; exact upd_same, ixN_nat (by rw [List.length_replicate]; exact hs), ?_⟩
  intro wd hwd
  refine ⟨_, rfl, upd_same, [kw st0], rfl, (by show 1 ≤ 15; decide), ?_⟩
  have ntw : ta ≠ wd := fun z => by rw [← z, upd_same] at hwd; cases hwd
  have hva0 : H2 va = none := same_no z1 hva
  have hwd0 : (upd (upd H2 ta (.lst (List.replicate n V.non))) va (.lst (List.replicate n V.non))) wd = none := by rw [upd_ne (Ne.symm ntw)] at hwd; exact hwd
  have nvw : va ≠ wd := fun z => by rw [← z, upd_same] at hwd0; cases hwd0
  have hwd1 : H2 wd = none := same_no (z1.trans z2) hwd0
  have hT0 : H TT ≠ none := by rcases tb0 with y | ⟨_, y, _⟩ <;> rw [y] <;> simp
  have hT2 : H2 TT ≠ none := by
    cases y : H TT with
    | none => exact absurd y hT0
    | some o => rw [sa _ _ y]; simp
  have nTt : ta ≠ TT := fun z => hT2 (z ▸ hta)
  have nTv : va ≠ TT := fun z => hT2 (z ▸ hva0)
  have nTw : wd ≠ TT := fun z => hT2 (z ▸ hwd1)
  have sm1 : Same H2 (upd (upd (upd (upd (upd H2 ta (.lst (List.replicate n V.non))) va (.lst (List.replicate n V.non))) ta (.lst ((List.replicate n V.non).set st0 (.int 0)))) wd (.dK [])) wd (.dK (mergeK [] [kw st0]))) := same_upd (same_upd (same_upd (z1.trans z2) hta _) hwd1 _) hwd1 _
  have eT : ((List.replicate n V.non).set st0 (.int 0)) = ((List.replicate n (none : Option Int)).set st0 (some 0)).map oV := by rw [List.map_set, List.map_replicate]; rfl
  have eV : (List.replicate n V.non) = (List.replicate n (none : Option Nat)).map oN := by rw [List.map_replicate]; rfl
  have g1 : (upd (upd (upd (upd (upd H2 ta (.lst (List.replicate n V.non))) va (.lst (List.replicate n V.non))) ta (.lst ((List.replicate n V.non).set st0 (.int 0)))) wd (.dK [])) wd (.dK (mergeK [] [kw st0]))) ta = some (.lst (((List.replicate n (none : Option Int)).set st0 (some 0)).map oV)) := by
    rw [upd_ne ntw, upd_ne ntw, ← eT]; exact upd_same
  have g2 : (upd (upd (upd (upd (upd H2 ta (.lst (List.replicate n V.non))) va (.lst (List.replicate n V.non))) ta (.lst ((List.replicate n V.non).set st0 (.int 0)))) wd (.dK [])) wd (.dK (mergeK [] [kw st0]))) va = some (.lst ((List.replicate n (none : Option Nat)).map oN)) := by
    rw [upd_ne nvw, upd_ne nvw, upd_ne (Ne.symm ntv), ← eV]; exact upd_same
  have g3 : (upd (upd (upd (upd (upd H2 ta (.lst (List.replicate n V.non))) va (.lst (List.replicate n V.non))) ta (.lst ((List.replicate n V.non).set st0 (.int 0)))) wd (.dK [])) wd (.dK (mergeK [] [kw st0]))) wd = some (.dK ([st0].map kw)) := upd_same
  generalize (upd (upd (upd (upd (upd H2 ta (.lst (List.replicate n V.non))) va (.lst (List.replicate n V.non))) ta (.lst ((List.replicate n V.non).set st0 (.int 0)))) wd (.dK [])) wd (.dK (mergeK [] [kw st0]))) = H1 at sm1 g1 g2 g3
  have sH : Same H H1 := sa.trans sm1
  have nS : ∀ b, H2 b ≠ none → b ≠ TT → ¬ sF ta va wd TT b := fun b hb nT z => by
    rcases z with z | z | z | z
    · exact nT z
    · exact hb (z ▸ hta)
    · exact hb (z ▸ hva0)
    · exact hb (z ▸ hwd1)
  have sg : Sg la aa ta va wd TT n st0 ls xs ys rows H1 := ⟨sH _ _ hA, hL.imp fun _ _ q => q.mono sH, ok, sm1 _ _ haa, ⟨rx.1, fun i l e => by
      obtain ⟨p, p1, p2, p3⟩ := rx.2 i l e
      exact ⟨p, p1, nS p (by rw [p3]; simp) (fun z => p2 (.inr (z ▸ hT0))), sm1 _ _ p3⟩⟩, am, nS la (by rw [sa _ _ hA]; simp) (fun z => by rcases tb0 with y | ⟨_, y, _⟩ <;> rw [← z, hA] at y <;> cases y), nS aa (by rw [haa]; simp) (fun z => hT0 (z ▸ haa0)), (fun t o e z => by
      rcases z with z | z | z | z
      · rw [z] at e
        rcases tb0 with y | ⟨_, y, _⟩ <;> rw [sH _ _ y] at e <;> cases e
      · rw [z, g1] at e; cases e
      · rw [z, g2] at e; cases e
      · rw [z, g3] at e; cases e), ntv, ntw, nvw, nTt, nTv, nTw⟩
  have tb1 : Tb lqF lpF TT H1 := by
    rcases tb0 with y | ⟨c', y1, y2⟩
    · exact .inl (sH _ _ y)
    · exact .inr ⟨c', sH _ _ y1, sH _ _ y2⟩
  refine while_by (FrI la aa ta va wd TT n st0 ls H1) (fun _ H' => mesH n ta wd H') ⟨_, _, _, _, _, _, [st0], rfl, ⟨fun _ _ _ e => e, g1, g2, g3, tb1, FI.first ok.w0 hs, List.nodup_cons.mpr ⟨(by simp), List.nodup_nil⟩⟩⟩ ?_ ?_
  · rintro σ H3 ⟨v7, v8, v9, v10, TL, VL, W, rfl, fh⟩
    refine ⟨_, rfl, fun p hp => ?_⟩
    have fh3 := fh.new hp (.dK [])
    refine ⟨wd, p, W.map kw, rfl, rfl, fh3.hw, upd_same, _, rfl, ?_⟩
    refine ite2 (fun c => ?_) (fun c => ?_)
    · have ne : W.map kw ≠ [] := fun z => by rw [z] at c; cases c
      refine ⟨_, rfl, wd, W.map kw, ta, _, rfl, fh3.hw, ne, rfl, fh3.ht, fh3.tb, fun kv hkv => ?_, fun kv hkv H4 sm4 tb4 => ?_⟩
      · obtain ⟨r, hr, rfl⟩ := List.mem_map.mp hkv
        obtain ⟨x, hx⟩ := fh3.fi.wk r hr
        exact ⟨r, x, rfl, oV_at hx⟩
      obtain ⟨r, hr, rfl⟩ := List.mem_map.mp hkv
      have fh4 := fh3.tab nTt nTv nTw sm4 tb4
      obtain ⟨x, hx⟩ := fh4.fi.wk r hr
      refine ⟨_, rfl, wd, rfl, .inl ⟨_, .inl fh4.hw⟩, _, rfl, W.map kw, .inl (r : Int), .bl true, fh4.hw, rfl, val_kw hr, ?_⟩
      rw [drop_kw]
      have mW : ∀ y, y ∈ W.filter (fun x => decide (x ≠ r)) ↔ y ∈ W ∧ y ≠ r := fun y => by rw [List.mem_filter]; simp
      have lW : (W.filter (fun x => decide (x ≠ r))).length < W.length := by
        refine Nat.lt_of_le_of_ne (List.length_filter_le _ _) fun z => ?_
        have := List.filter_eq_self.mp (List.Sublist.eq_of_length (List.filter_sublist ..) z) r hr
        simp at this
      refine ⟨aa, ta, va, wd, xs, ys, rows, H1, _, _, _, TL, VL, _, r, W.length, sg, rfl, ⟨fh4.kp.upd (.inr (.inr (.inr rfl))) _, by rw [upd_ne ntw]; exact fh4.ht, by rw [upd_ne nvw]; exact fh4.hv, upd_same, tb_keep fh4.tb fun b hb => upd_ne fun z => ?_, fh4.fi.take mW, fh4.nd.filter _⟩, ⟨x, hx⟩, lW, fun σ' H' y1 y2 => ⟨y1, by rw [fh.mes]; exact y2⟩⟩
      rcases hb with hb | ⟨c', hb⟩
      · exact nTw (z ▸ hb)
      · rw [z, fh4.hw] at hb; cases hb
    · have e0 : W = [] := by
        cases W with
        | nil => rfl
        | cons a b => exact absurd rfl c
      subst e0
      refine ⟨_, rfl, _, rfl, (by show 2 ≤ sizeLine; decide), fun t ht => ?_⟩
      have fh4 := fh3.new ht (.tup [.ref ta, .ref va])
      refine kk t ta va TL VL _ (fun b o nb e => ?_) fh4.tb (same_no sa hta) (same_no sa hva0) upd_same fh4.ht fh4.hv fh4.fi
      exact fh4.kp _ _ (nS b (by rw [sa _ _ e]; simp) nb) (sH _ _ e)
  · rintro σ H4 Q1 Q2 hi ⟨v1, e1, h⟩
    refine ⟨v1, e1, fun p hp => ?_⟩
    obtain ⟨a, b, kvs, q1, q2, q3, q4, c', q5, q6⟩ := h p hp
    exact ⟨a, b, kvs, q1, q2, q3, q4, c', q5, hi _ _ q6⟩
end

end KF


namespace KF
open PySem L2
local macro_rules | `(tactic| walk_at "cc") => `(tactic| first | exact ⟨by decide, by decide⟩ | (show (0 : Int) < _; decide) | (show (0 : Int) < _; omega) | (show (0 : Int) ≤ _; omega) | exact ⟨by decide, by decide, by decide⟩ | exact ⟨by omega, by omega, by decide⟩ | exact Or.inl ⟨by decide, by decide⟩ | exact Or.inl ⟨by omega, by omega⟩)
local macro_rules | `(tactic| walk_at "rd") => `(tactic| repeat (first | refine ⟨_, rfl, ?_⟩ | refine ⟨_, _, rfl, rfl, ?_⟩ | refine ⟨rfl, ?_⟩ | (refine ⟨?cc, ?_⟩; (case cc => walk_at "cc"))))

theorem andN (a b : Nat) : Builtin.bitAnd (a : Int) (b : Int) = ((a &&& b : Nat) : Int) := by
  rw [PyProof.Rows.bitAnd_pp (Int.natCast_nonneg _) (Int.natCast_nonneg _), Int.toNat_natCast, Int.toNat_natCast]
theorem shlN (p : Nat) : (1 : Int) * 2 ^ ((p : Nat) : Int).toNat = ((2 ^ p : Nat) : Int) := by
  rw [Int.one_mul, Int.toNat_natCast, Int.natCast_pow]
  rfl
theorem xa (m n : Nat) : (m ^^^ n) + 2 * (m &&& n) = m + n := by
  have h := PyProof.Rows.nat_or_add_and m n
  have h2 : (m ||| n) = (m ^^^ n) + (m &&& n) := by
    have e : (m ^^^ n) + (m &&& n) = (m ^^^ n) ||| (m &&& n) := by
      have q := PyProof.Rows.nat_or_add_and (m ^^^ n) (m &&& n)
      have z : (m ^^^ n) &&& (m &&& n) = 0 := by
        apply Nat.eq_of_testBit_eq
        intro i
        simp only [Nat.testBit_and, Nat.testBit_xor, Nat.zero_testBit]
        cases m.testBit i <;> cases n.testBit i <;> rfl
      omega
    rw [e]
    apply Nat.eq_of_testBit_eq
    intro i
    simp only [Nat.testBit_and, Nat.testBit_xor, Nat.testBit_or]
    cases m.testBit i <;> cases n.testBit i <;> rfl
  omega
theorem xorN (a b : Nat) : Builtin.bitXor (a : Int) (b : Int) = ((a ^^^ b : Nat) : Int) := by
  rw [PyProof.Rows.bitXor_and, andN]
  have q := xa a b
  omega
/-! ### laid_in_pairs -/
def bl (c : Nat) : List Nat := K2.bitsF 0 c
theorem bl_sorted (c : Nat) : (bl c).Pairwise (· < ·) := K2.bitsF_sorted c c 0 (Nat.le_refl _)
theorem bl_nd (c : Nat) : (bl c).Nodup := K2.nodup_of_lt (bl_sorted c)
theorem mem_bl {c x : Nat} : x ∈ bl c ↔ c.testBit x = true := by
  have e : K2.S (K2.bitsF 0 c) = c := by
    have := K2.bitsF_sum c c 0 (Nat.le_refl _)
    rw [this, Nat.pow_zero, Nat.mul_one]
  have b := K2.S_bit (bl_nd c) x
  unfold bl at b ⊢
  rw [e] at b
  rw [b, decide_eq_true_iff]
theorem bl_lt {c m x : Nat} (h : c < 2 ^ m) (hx : x ∈ bl c) : x < m := by
  have := K2.bitsF_lt m c 0 h x hx
  omega
theorem bl_zero : bl 0 = [] := K2.bitsF_zero 0
def cut2 (c f t : Nat) : Nat := c ^^^ 2 ^ f ^^^ 2 ^ t
theorem cut2_bit {c f t : Nat} (hf : f ∈ bl c) (ht : t ∈ bl c) (n : f ≠ t) (x : Nat) : x ∈ bl (cut2 c f t) ↔ x ∈ bl c ∧ x ≠ f ∧ x ≠ t := by
  rw [mem_bl] at hf ht
  rw [mem_bl, mem_bl]
  unfold cut2
  rw [Nat.testBit_xor, Nat.testBit_xor, Nat.testBit_two_pow, Nat.testBit_two_pow]
  by_cases c1 : x = f
  · subst c1
    rw [hf]
    simp [Ne.symm n]
  · by_cases c2 : x = t
    · subst c2
      rw [ht]
      simp [n]
    · have c1' : ¬ f = x := fun z => c1 z.symm
      have c2' : ¬ t = x := fun z => c2 z.symm
      simp [c1, c2, c1', c2']
theorem cut2_perm {c f t : Nat} {rest : List Nat} (e : bl c = f :: rest) (ht : t ∈ rest) : (bl (cut2 c f t)).Perm (rest.erase t) := by
  have nd := bl_nd c
  rw [e] at nd
  obtain ⟨n1, n2⟩ := List.nodup_cons.mp nd
  have nf : f ≠ t := fun z => n1 (z ▸ ht)
  refine (List.perm_ext_iff_of_nodup (bl_nd _) (n2.erase _)).mpr fun x => ?_
  rw [cut2_bit (by rw [e]; exact List.mem_cons_self ..) (by rw [e]; exact List.mem_cons_of_mem _ ht) nf, e, n2.mem_erase_iff, List.mem_cons]
  constructor
  · rintro ⟨h1 | h1, h2, h3⟩
    · exact absurd h1 h2
    · exact ⟨h3, h1⟩
  · rintro ⟨h1, h2⟩
    exact ⟨.inr h2, fun z => n1 (z ▸ h2), h1⟩
theorem cut2_lt {c f t m : Nat} (h : c < 2 ^ m) (hf : f < m) (ht : t < m) : cut2 c f t < 2 ^ m :=
  Nat.xor_lt_two_pow (Nat.xor_lt_two_pow h (Nat.pow_lt_pow_right (by decide) hf)) (Nat.pow_lt_pow_right (by decide) ht)
def Opt (D : Nat → Nat → Int) (l : List Nat) (t : Int) : Prop := Cs D l t ∧ ∀ c, Cs D l c → t ≤ c
theorem Opt.perm {D : Nat → Nat → Int} {l l' : List Nat} {t : Int} (h : Opt D l t) (p : l.Perm l') : Opt D l' t := ⟨h.1.perm p, fun c z => h.2 c (z.perm p.symm)⟩
theorem Opt.nil {D : Nat → Nat → Int} : Opt D [] 0 := by
  refine ⟨⟨[], .refl _, rfl⟩, fun c h => ?_⟩
  obtain ⟨PL, p, e⟩ := h
  cases PL with
  | nil => rw [← e]; exact Int.le_refl _
  | cons q r => have := p.length_eq; cases this
theorem Opt.step {D : Nat → Nat → Int} (sy : ∀ a b, D a b = D b a) {f t0 : Nat} {rest : List Nat} {tr0 : Int} (h0 : t0 ∈ rest) (o0 : Opt D (rest.erase t0) tr0) (hm : ∀ t ∈ rest, ∃ tr, Opt D (rest.erase t) tr ∧ D f t0 + tr0 ≤ D f t + tr) : Opt D (f :: rest) (D f t0 + tr0) := by
  refine ⟨(o0.1.add f t0).perm ((List.perm_cons_erase h0).symm.cons f), fun c hc => ?_⟩
  obtain ⟨e, R, c0, p, hR, ec⟩ := hc.part sy (List.mem_cons_self ..)
  have p1 : rest.Perm (e :: R) := p.cons_inv
  have er : e ∈ rest := p1.mem_iff.mpr (List.mem_cons_self ..)
  have p2 : R.Perm (rest.erase e) := by
    have := (p1.erase e).symm
    rw [List.erase_cons_head] at this
    exact this
  obtain ⟨tr, o1, h2⟩ := hm e er
  have h1 := o1.2 c0 (hR.perm p2)
  omega
/-! as they lie -/
def BtAt (H : Hp) (v : V) (D : Nat → Nat → Int) (m : Nat) : Prop := ∃ a ys, v = .ref a ∧ H a = some (.lst ys) ∧ ∀ i, i < m → ∃ p xs, ys[i]? = some (.ref p) ∧ H p = some (.lst xs) ∧ ∀ k, k < m → xs[k]? = some (.int (D i k))
def CostV (H : Hp) (v : V) (t : Int) : Prop := ∃ a y z, v = .ref a ∧ H a = some (.tup [.int t, y, z])
/-- what an entry of the table holds -/
def Ent (H : Hp) (D : Nat → Nat → Int) (m : Nat) (kvs : List (Key × V)) (c : Nat) (v : V) : Prop := c < 2 ^ m ∧ ((c = 0 ∧ CostV H v 0) ∨ ∃ (t : Int) (f g : Nat) (a : Addr) (vr : V) (tr : Int), v = .ref a ∧ H a = some (.tup [.int t, .int (f : Int), .int (g : Int)]) ∧ f ∈ bl c ∧ g ∈ bl c ∧ f ≠ g ∧ valV kvs (.inl ((cut2 c f g : Nat) : Int)) = some vr ∧ CostV H vr tr ∧ t = D f g + tr ∧ Opt D (bl c) t)
structure TI (H : Hp) (D : Nat → Nat → Int) (m : Nat) (kvs : List (Key × V)) : Prop where
  en : ∀ k v, valV kvs k = some v → ∃ c : Nat, k = .inl (c : Int) ∧ Ent H D m kvs c v
  z : ∃ v, valV kvs (.inl ((0 : Nat) : Int)) = some v
  nd : (kvs.map (·.1)).Nodup
def Grw (kvs kvs' : List (Key × V)) (n : Nat) : Prop := (∀ k v, valV kvs k = some v → valV kvs' k = some v) ∧ ∀ c : Nat, valV kvs (.inl (c : Int)) = none → valV kvs' (.inl (c : Int)) ≠ none → (bl c).length ≤ n
def Tps (H H' : Hp) : Prop := ∀ a xs, H a = some (.tup xs) → H' a = some (.tup xs)
theorem CostV.mono {H H' : Hp} {v : V} {t : Int} (h : CostV H v t) (s : Tps H H') : CostV H' v t := by
  obtain ⟨a, y, z, e, q⟩ := h
  exact ⟨a, y, z, e, s _ _ q⟩
theorem Ent.cost {H : Hp} {D : Nat → Nat → Int} {m c : Nat} {kvs : List (Key × V)} {v : V} (h : Ent H D m kvs c v) : ∃ t, CostV H v t ∧ Opt D (bl c) t := by
  obtain ⟨_, ⟨rfl, h⟩ | ⟨t, f, g, a, vr, tr, e1, e2, _, _, _, _, _, _, e9⟩⟩ := h
  · exact ⟨0, h, by rw [bl_zero]; exact Opt.nil⟩
  · exact ⟨t, ⟨a, _, _, e1, e2⟩, e9⟩
theorem Ent.mono {H H' : Hp} {D : Nat → Nat → Int} {m c : Nat} {kvs kvs' : List (Key × V)} {v : V} (h : Ent H D m kvs c v) (s : Tps H H') (g : ∀ k v, valV kvs k = some v → valV kvs' k = some v) : Ent H' D m kvs' c v := by
  obtain ⟨h0, ⟨e, h⟩ | ⟨t, f, g', a, vr, tr, e1, e2, e3, e4, e5, e6, e7, e8, e9⟩⟩ := h
  · exact ⟨h0, .inl ⟨e, h.mono s⟩⟩
  · exact ⟨h0, .inr ⟨t, f, g', a, vr, tr, e1, s _ _ e2, e3, e4, e5, g _ _ e6, e7.mono s, e8, e9⟩⟩
theorem TI.mono {H H' : Hp} {D : Nat → Nat → Int} {m : Nat} {kvs : List (Key × V)} (h : TI H D m kvs) (s : Tps H H') : TI H' D m kvs := ⟨fun k v e => by
  obtain ⟨c', e1, e2⟩ := h.en k v e
  exact ⟨c', e1, e2.mono s fun _ _ z => z⟩, h.z, h.nd⟩
theorem TrA.mono {H H' : Hp} {v : V} {t : T3} (h : TrA H v t) (s : Tps H H') : TrA H' v t := by
  obtain ⟨a, e, q⟩ := h
  exact ⟨a, e, s _ _ q⟩
theorem TbS.tps {H H' : Hp} {tb : Addr} {kvs : List (Key × V)} (s : TbS tb H H') (ht : H tb = some (.dK kvs)) : Tps H H' := fun a xs q => s _ _ (fun w => by rw [w, ht] at q; cases q) q
theorem BtAt.mono {H H' : Hp} {D : Nat → Nat → Int} {m : Nat} {v : V} {tb : Addr} {kvs : List (Key × V)} (h : BtAt H v D m) (ht : H tb = some (.dK kvs)) (s : TbS tb H H') : BtAt H' v D m := by
  obtain ⟨a, ys, e, q, r⟩ := h
  refine ⟨a, ys, e, s _ _ (fun w => by rw [w, ht] at q; cases q) q, fun i hi => ?_⟩
  obtain ⟨p, xs, r1, r2, r3⟩ := r i hi
  exact ⟨p, xs, r1, s _ _ (fun w => by rw [w, ht] at r2; cases r2) r2, r3⟩
theorem nd_map_on {α β : Type} {f : α → β} : ∀ {l : List α}, l.Nodup → (∀ a ∈ l, ∀ b ∈ l, f a = f b → a = b) → (l.map f).Nodup
  | [], _, _ => List.nodup_nil
  | x :: l, nd, h => by
    obtain ⟨n1, n2⟩ := List.nodup_cons.mp nd
    rw [List.map_cons]
    refine List.nodup_cons.mpr ⟨fun z => ?_, nd_map_on n2 fun a ha b hb => h a (List.mem_cons_of_mem _ ha) b (List.mem_cons_of_mem _ hb)⟩
    obtain ⟨y, hy, e⟩ := List.mem_map.mp z
    exact n1 (h x (List.mem_cons_self ..) y (List.mem_cons_of_mem _ hy) e.symm ▸ hy)
theorem TI.len {H : Hp} {D : Nat → Nat → Int} {m : Nat} {kvs : List (Key × V)} (h : TI H D m kvs) (hm : m ≤ 14) : kvs.length < sizeLine := by
  have key : ∀ k ∈ kvs.map (·.1), ∃ c : Nat, k = Sum.inl (c : Int) ∧ c < 2 ^ m := fun k hk => by
    cases hv : valV kvs k with
    | none => exact absurd hk (valV_not hv)
    | some v =>
      obtain ⟨c, e, q⟩ := h.en k v hv
      exact ⟨c, e, q.1⟩
  have l1 : ((kvs.map (·.1)).map fun k : Key => match k with | .inl i => i.toNat | .inr _ => 0).Nodup := by
    refine nd_map_on h.nd fun a ha b hb e => ?_
    obtain ⟨c1, rfl, _⟩ := key a ha
    obtain ⟨c2, rfl, _⟩ := key b hb
    have e' : c1 = c2 := by simpa using e
    rw [e']
  have l2 := nd_below (2 ^ m) _ l1 fun x hx => by
    obtain ⟨k, hk, rfl⟩ := List.mem_map.mp hx
    obtain ⟨c, rfl, hc⟩ := key k hk
    simpa using hc
  rw [List.length_map, List.length_map] at l2
  have : 2 ^ m ≤ 2 ^ 14 := Nat.pow_le_pow_right (by decide) hm
  have e14 : (2 : Nat) ^ 14 = 16384 := by decide
  have := PySem.sizeLine_eq
  omega
def restR (tb : Addr) (bv : V) (c m : Nat) (D : Nat → Nat → Int) (kvs : List (Key × V)) (H0 : Hp) (Q : VK) : TS := fun D0 σ H => ∃ (v4 v5 v6 v7 v8 : Option V) (kvs' : List (Key × V)) (v : V), σ = [some bv, some (.int (c : Int)), some (.ref tb), v4, v5, v6, v7, v8] ∧ TbS tb H0 H ∧ H tb = some (.dK kvs') ∧ TI H D m kvs' ∧ Grw kvs kvs' (bl c).length ∧ valV kvs' (.inl (c : Int)) = some v ∧ ∀ x H', Q x H' → D0.rt x H'
def LpI (bv : V) (tb r wa : Addr) (c f m : Nat) (D : Nat → Nat → Int) (kvs : List (Key × V)) (rest : List Nat) (Hb : Hp) (i : Nat) (σ : St) (H : Hp) : Prop := ∃ (v7 v8 : Option V) (kvs2 : List (Key × V)) (ws : List T3) (ys : List V), σ = [some bv, some (.int (c : Int)), some (.ref tb), some (.ref r), some (.int (f : Int)), some (.ref wa), v7, v8] ∧ (∀ b o, b ≠ tb → b ≠ wa → Hb b = some o → H b = some o) ∧ H tb = some (.dK kvs2) ∧ TI H D m kvs2 ∧ Grw kvs kvs2 (rest.length - 1) ∧ H wa = some (.lst ys) ∧ LsAt TrA H ys ws ∧ ws.length = i ∧
  ∀ (idx t : Nat), (rest.take i)[idx]? = some t → ∃ (tr : Int) (vr : V), ws[idx]? = some (D f t + tr, (f : Int), (t : Int)) ∧ Opt D (rest.erase t) tr ∧ valV kvs2 (.inl ((cut2 c f t : Nat) : Int)) = some vr ∧ CostV H vr tr
def spLaid (D : Nat → Nat → Int) (m j : Nat) : Sp := fun vs H Q _ => ∃ (bv : V) (tb : Addr) (c : Nat) (kvs : List (Key × V)), vs = [bv, .int (c : Int), .ref tb] ∧ BtAt H bv D m ∧ H tb = some (.dK kvs) ∧ TI H D m kvs ∧ c < 2 ^ m ∧ m ≤ 14 ∧ (bl c).length < 2 * j ∧ (bl c).length % 2 = 0 ∧
  ∀ v t kvs' H', TbS tb H H' → H' tb = some (.dK kvs') → TI H' D m kvs' → Grw kvs kvs' (bl c).length → valV kvs' (.inl (c : Int)) = some v → CostV H' v t → Opt D (bl c) t → Q v H'
section
variable {P : Program} {w : World} {K : PySem.W.Frag} {mg : Str → Option Value} {base : Heap}
theorem sc_laid_in_pairs : FnScope ["between", "chosen", "table", "numbers", "first", "ways", "mate", "rest"] ["between", "chosen", "table"] (defScope s_laid_in_pairs) := ⟨rfl, rfl, rfl, by decide +kernel, rfl, by decide +kernel, by decide +kernel⟩
theorem ok_laid0 {f f1 : Addr} {fd fd1 : FuncData} {D : Nat → Nat → Int} {m j : Nat} (sy : ∀ a b, D a b = D b a) (F : Fun K "laid_in_pairs" "laid_in_pairs" s_laid_in_pairs f fd) (T : Txt mg) (G_bits : Cal P w K mg base 1 "bits" ["mask"] spBits f1 fd1) (G_laid_in_pairs : Cal P w K mg base (j + 2) "laid_in_pairs" ["between", "chosen", "table"] (spLaid D m j) f fd) : FnOk P w K mg base CX0 (j + 3) f fd ["between", "chosen", "table"] (spLaid D m (j + 1)) := by
  refine F.ok sc_laid_in_pairs (fun vs H Q E h => ?_) (fun cdv A outer s H vs Q E hr h => ?_)
  · obtain ⟨bv, tb, c, kvs, rfl, _⟩ := h
    rfl
  obtain ⟨bv, tb, c, kvs, rfl, hB, hT, ti, hc, m14, len, ev, kk⟩ := h
  have hu := hu_of hr
  have hu64 := hr.units
  refine ⟨_, (pss_cons (ps_if (pt_cmp (pc_dnotin hu (pv 1) (pv 2))) (pss_cons (ps_set (i := 3) sc_laid_in_pairs.nd rfl (Or.inl rfl) (pe_call G_bits.ok (hr.mono (by omega)) rfl G_bits.mg G_bits.kp G_bits.bn .nil pass0 (pa_cons (pv 1) pa_nil)))
      (pss_cons (ps_set (i := 4) sc_laid_in_pairs.nd rfl (Or.inl rfl) (pe_ix ix_list (pv 3) pe_int (fun _ _ => rfl)))
      (pss_cons (ps_set (i := 5) sc_laid_in_pairs.nd rfl (Or.inl rfl) (pe_lst pa_nil))
      (pss_cons (ps_for PassesOwn.never rfl (pi_list (pe_slice sl_list (pv 3) (po_some pe_int) po_none)) (pg_name (i := 6) sc_laid_in_pairs.nd rfl (Or.inl rfl)) (pss_cons (ps_set (i := 7) sc_laid_in_pairs.nd rfl (Or.inl rfl) (pe_op op_xor (pe_op op_xor (pv 1) (pe_op op_shl pe_int (pv 4))) (pe_op op_shl pe_int (pv 6))))
      (pss_one (ps_expr (pe_bm PySem.F.plainAttrs_list PySem.F.slot_list_append PySem.F.type_list_append mt_append (pv 5) (pa_cons (pe_tup (pa_cons (pe_op op_add (pe_ix ix_list (pe_ix ix_list (pv 0) (pv 4) (fun _ _ => rfl)) (pv 6) (fun _ _ => rfl)) (pe_ix ix_tup (pe_call G_laid_in_pairs.ok (hr.mono (by omega)) rfl G_laid_in_pairs.mg G_laid_in_pairs.kp G_laid_in_pairs.bn .nil pass0 (pa_cons (pv 0) (pa_cons (pv 7) (pa_cons (pv 2) pa_nil)))) pe_int (fun _ _ => rfl))) (pa_cons (pv 4) (pa_cons (pv 6) pa_nil)))) pa_nil))))))
      (pss_one (ps_dput hu (pv 2) (pv 1) (pe_callB (call_min3 rfl hu64) (by rfl) T.n_min bt_min (pa_cons (pv 5) pa_nil)) rfl)))))) pss_nil)
      (pss_imp (t2 := restR tb bv c m D kvs H Q) (pss_one (ps_ret (pe_dget hu (pv 2) (pv 1) (fun _ _ => rfl)))) (fun D0 S0 H0 h0 => ?restr))), ?_⟩
  case restr =>
    obtain ⟨v4, v5, v6, v7, v8, kvs', v, rfl, sT, hT', ti', gr, hv, kq⟩ := h0
    obtain ⟨c', e, en⟩ := ti'.en _ v hv
    have ec : c' = c := by
      have : ((c : Nat) : Int) = (c' : Int) := by injection e
      omega
    subst ec
    obtain ⟨t, h1, h2⟩ := en.cost
    refine ⟨_, rfl, _, rfl, tb, v, rfl, by have := DGet.k (k := .inl ((c' : Nat) : Int)) hT'; rw [hv] at this; exact this, ?_⟩
    exact kq _ _ (kk v t kvs' H0 sT hT' ti' gr hv h1 h2)
  refine ⟨_, rfl, _, rfl, tb, _, rfl, DGet.k (k := .inl ((c : Nat) : Int)) hT, _, rfl, ?_⟩
  cases hv : valV kvs (.inl ((c : Nat) : Int)) with
  | some v =>
    exact iteF ⟨_, _, _, _, _, kvs, v, rfl, (fun _ _ _ e => e), hT, ti, ⟨fun _ _ z => z, fun c' z1 z2 => absurd z1 z2⟩, hv, fun _ _ z => z⟩
  | none =>
    refine iteT ?_
    have c0 : c ≠ 0 := fun z => by
      subst z
      obtain ⟨v0, hv0⟩ := ti.z
      rw [hv] at hv0; cases hv0
    obtain ⟨f, rest, ebl⟩ : ∃ f rest, bl c = f :: rest := by
      cases q : bl c with
      | cons f rest => exact ⟨f, rest, rfl⟩
      | nil =>
        refine absurd (Nat.eq_of_testBit_eq fun i => ?_) c0
        rw [Nat.zero_testBit]
        cases z : c.testBit i with
        | false => rfl
        | true =>
          have := mem_bl.mpr z
          rw [q] at this; cases this
    have nd := bl_nd c
    rw [ebl] at nd
    obtain ⟨nf, ndr⟩ := List.nodup_cons.mp nd
    have rlen : (bl c).length = rest.length + 1 := by rw [ebl, List.length_cons]
    have flt : f < m := bl_lt hc (by rw [ebl]; exact List.mem_cons_self ..)
    have tlt : ∀ t ∈ rest, t < m := fun t ht => bl_lt hc (by rw [ebl]; exact List.mem_cons_of_mem _ ht)
    have rm : rest.length + 1 ≤ m := by
      rw [← rlen]
      exact nd_below m _ (bl_nd c) fun x hx => bl_lt hc hx
    have c14 : c < 16384 := by
      have : 2 ^ m ≤ 2 ^ 14 := Nat.pow_le_pow_right (by decide) m14
      have e14 : (2 : Nat) ^ 14 = 16384 := by decide
      omega
    refine ⟨_, rfl, (c : Int), rfl, by omega, by omega, fun r H1 s1 hr0 hr1 => ?_⟩
    have enb : (K2.bitsF 0 ((c : Nat) : Int).toNat).map iV = iV f :: rest.map iV := by
      rw [Int.toNat_natCast]
      show (bl c).map iV = _
      rw [ebl, List.map_cons]
    rw [enb] at hr1
    refine ⟨_, rfl, r, _, 0, _, rfl, rfl, SqL.of hr1, (show atI (iV f :: rest.map iV) ((0 : Nat) : Int) = some (iV f) from atI_nat rfl), ?_⟩
    refine ⟨(by show 0 ≤ sizeLine; decide), fun wa hwa => ?_⟩
    have s2 := same_new hwa (.lst [])
    refine ⟨_, rfl, _, rfl, r, _, rfl, SqL.of (s2 _ _ hr1), fun sl hsl => ?_⟩
    have ecut : cutV (iV f :: rest.map iV) (some 1) none = rest.map iV := by
      have e1 : HT.sIx (iV f :: rest.map iV).length 0 (some ((1 : Nat) : Int)) = 1 := by rw [HT.sIx_nat, List.length_cons, List.length_map]; omega
      unfold cutV
      rw [show (some (1 : Int)) = some ((1 : Nat) : Int) from rfl, e1, HT.sIx_none, List.drop_succ_cons, List.drop_zero, List.length_cons]
      exact List.take_of_length_le (by omega)
    rw [ecut]
    have s3 := same_new hsl (.lst (rest.map iV))
    have s13 : Same H (upd (upd H1 wa (.lst [])) sl (.lst (rest.map iV))) := s1.trans (s2.trans s3)
    have wsl : wa ≠ sl := fun z => by rw [← z, upd_same] at hsl; cases hsl
    have g1 : (upd (upd H1 wa (.lst [])) sl (.lst (rest.map iV))) wa = some (.lst []) := by rw [upd_ne wsl]; exact upd_same
    have g2 := upd_same (H := upd H1 wa (.lst [])) (a := sl) (o := .lst (rest.map iV))
    have wa0 : H wa = none := same_no s1 hwa
    generalize (upd (upd H1 wa (.lst [])) sl (.lst (rest.map iV))) = Hb at s13 g1 g2
    have hTb := s13 _ _ hT
    have wtb : wa ≠ tb := fun z => by rw [z, hT] at wa0; cases wa0
    have sltb : sl ≠ tb := fun z => by rw [z, hTb] at g2; cases g2
    have tsb : TbS tb H Hb := fun b o _ e => s13 _ _ e
    have tib : TI Hb D m kvs := ti.mono fun a xs q => s13 _ _ q
    have btb : BtAt Hb bv D m := hB.mono hT tsb
    refine ⟨sl, rfl, ⟨_, SqL.of g2⟩, for_list (K := K) (xs := rest.map iV) (LpI bv tb r wa c f m D kvs rest Hb) ⟨_, _, kvs, [], [], rfl, fun _ _ _ _ e => e, hTb, tib, ⟨fun _ _ z => z, fun c' z1 z2 => absurd z1 z2⟩, g1, LsAt.nil, rfl, fun idx t e => by simp at e⟩ (fun i σ H2 _ ⟨_, _, _, _, _, _, z, _⟩ => SqL.of (z _ _ sltb (Ne.symm wsl) g2)) ?_ ?_⟩
    · rintro i x σ H2 hx ⟨v7, v8, kvs2, ws, ys, rfl, k2, hT2, ti2, gr2, hwa2, hL, wl, done⟩
      rw [List.getElem?_map] at hx
      obtain ⟨t, ht, rfl⟩ := Option.map_eq_some_iff.mp hx
      have tm := List.mem_of_getElem? ht
      have tl := tlt t tm
      have ftn : f ≠ t := fun z => nf (z ▸ tm)
      have cp := cut2_perm ebl tm
      have cl : (bl (cut2 c f t)).length + 1 = rest.length := by
        rw [cp.length_eq, List.length_erase_of_mem tm]
        have := List.length_pos_of_mem tm
        omega
      refine ⟨_, rfl, _, rfl, _, _, rfl, rfl, ⟨by show (0 : Int) ≤ (f : Int); omega, by show (f : Int) ≤ 1000000; omega, by decide⟩, _, _, rfl, rfl, _, rfl, _, _, rfl, rfl, ⟨by show (0 : Int) ≤ (t : Int); omega, by show (t : Int) ≤ 1000000; omega, by decide⟩, _, _, rfl, rfl, ?_⟩
      have ec : Builtin.bitXor (Builtin.bitXor (c : Int) (1 * 2 ^ ((f : Nat) : Int).toNat)) (1 * 2 ^ ((t : Nat) : Int).toNat) = ((cut2 c f t : Nat) : Int) := by rw [shlN, shlN, xorN, xorN]; rfl
      simp only [ec]
      have yl := hL.1
      have upL : ∀ b zs, H b = some (.lst zs) → H2 b = some (.lst zs) := fun b zs q => k2 b _ (fun z => by rw [z, hT] at q; cases q) (fun z => by rw [z, wa0] at q; cases q) (s13 _ _ q)
      obtain ⟨ba, zs, rfl, hba, rr⟩ := id hB
      have bt2 : BtAt H2 (.ref ba) D m := ⟨ba, zs, rfl, upL _ _ hba, fun i' hi' => by
        obtain ⟨p, xs, r1, r2, r3⟩ := rr i' hi'
        exact ⟨p, xs, r1, upL _ _ r2, r3⟩⟩
      obtain ⟨p, xs, r1, r2, r3⟩ := rr f flt
      refine ⟨_, rfl, .inl ⟨rfl, _, SqL.of hwa2⟩, _, rfl, _, rfl, ba, _, _, _, rfl, rfl, SqL.of (upL _ _ hba), atI_nat r1, _, rfl, p, _, _, _, rfl, rfl, SqL.of (upL _ _ r2), atI_nat (r3 t tl), _, rfl, _, rfl, _, rfl, .ref ba, tb, cut2 c f t, kvs2, rfl, bt2, hT2, ti2, cut2_lt hc flt tl, m14, by omega, by omega, fun v tr kvs3 H3 sT3 hT3 ti3 gr3 hv3 cv3 op3 => ?_⟩
      obtain ⟨va, y, z, rfl, hva⟩ := id cv3
      refine ⟨va, _, 0, _, rfl, rfl, SqT.of hva, a30, _, _, rfl, rfl, _, rfl, _, rfl, (by show 3 ≤ sizeLine; decide), fun t3 ht3 => ?_⟩
      have s4 := same_new ht3 (.tup [.int (D f t + tr), .int (f : Int), .int (t : Int)])
      have hwa3 : H3 wa = some (.lst ys) := sT3 _ _ wtb hwa2
      have itl : i < rest.length := (List.getElem?_eq_some_iff.mp ht).1
      refine ⟨wa, ys, _, rfl, rfl, s4 _ _ hwa3, small1000 (by omega), ?_⟩
      have tp23 : Tps H2 H3 := TbS.tps sT3 hT2
      have tp35 : Tps H3 (upd (upd H3 t3 (.tup [.int (D f t + tr), .int (f : Int), .int (t : Int)])) wa (.lst (ys ++ [.ref t3]))) := fun a xs q => by
        rw [upd_ne (fun z => by rw [z, hwa3] at q; cases q)]
        exact s4 _ _ q
      have tp25 : Tps H2 (upd (upd H3 t3 (.tup [.int (D f t + tr), .int (f : Int), .int (t : Int)])) wa (.lst (ys ++ [.ref t3]))) := fun a xs q => tp35 _ _ (tp23 _ _ q)
      have wt3 : t3 ≠ wa := fun z => by rw [z, hwa3] at ht3; cases ht3
      refine ⟨_, _, kvs3, ws ++ [(D f t + tr, (f : Int), (t : Int))], ys ++ [.ref t3], rfl, fun b o n1 n2 e => ?_, ?_, ti3.mono tp35, ⟨fun k v z => gr3.1 _ _ (gr2.1 _ _ z), fun c' y1 y2 => ?_⟩, upd_same, ?_, by rw [List.length_append, wl]; rfl, fun idx t' e => ?_⟩
      · rw [upd_ne n2]
        exact s4 _ _ (sT3 _ _ n1 (k2 b o n1 n2 e))
      · rw [upd_ne (Ne.symm wtb)]
        exact s4 _ _ hT3
      · cases q2 : valV kvs2 (.inl (c' : Int)) with
        | none => have := gr3.2 c' q2 y2; omega
        | some v' => exact gr2.2 c' y1 (by rw [q2]; simp)
      · exact (hL.imp fun _ _ q => TrA.mono q tp25).snoc ⟨t3, rfl, by rw [upd_ne wt3]; exact upd_same⟩
      · have til : (rest.take i).length = i := by rw [List.length_take]; omega
        rw [List.take_add_one, ht] at e
        by_cases ci : idx < i
        · rw [List.getElem?_append_left (by omega)] at e
          obtain ⟨tr', vr, d1, d2, d3, d4⟩ := done idx t' e
          exact ⟨tr', vr, by rw [List.getElem?_append_left (by omega)]; exact d1, d2, gr3.1 _ _ d3, d4.mono tp25⟩
        · rw [List.getElem?_append_right (by omega)] at e
          have h5 := (List.getElem?_eq_some_iff.mp e).1
          have h6 : idx = i := by
            have : (Option.toList (some t)).length = 1 := rfl
            omega
          subst h6
          rw [til, Nat.sub_self] at e
          cases e
          exact ⟨tr, .ref va, by rw [List.getElem?_append_right (by omega), wl, Nat.sub_self]; rfl, op3.perm cp, hv3, cv3.mono tp35⟩
    · rintro σ H2 ⟨v7, v8, kvs2, ws, ys, rfl, k2, hT2, ti2, gr2, hwa2, hL, wl, done⟩
      rw [List.length_map] at wl done
      rw [List.take_length] at done
      have rp : 1 ≤ rest.length := by omega
      have wne : ws ≠ [] := fun z => by rw [z] at wl; simp at wl; omega
      refine ⟨_, rfl, wa, ys, ws, rfl, SqL.of hwa2, hL, wne, fun idx y t3 hy ht3 hmin => ?_⟩
      have il : idx < rest.length := by rw [← wl]; exact (List.getElem?_eq_some_iff.mp ht3).1
      obtain ⟨t, et⟩ : ∃ t, rest[idx]? = some t := ⟨_, List.getElem?_eq_getElem il⟩
      have tm := List.mem_of_getElem? et
      obtain ⟨tr, vr, d1, d2, d3, d4⟩ := done idx t et
      rw [ht3] at d1
      cases d1
      obtain ⟨w', ew', a, rfl, ha⟩ := hL.get hy
      rw [ht3] at ew'
      cases ew'
      have ftn : f ≠ t := fun z => nf (z ▸ tm)
      have fb : f ∈ bl c := by rw [ebl]; exact List.mem_cons_self ..
      have tbm : t ∈ bl c := by rw [ebl]; exact List.mem_cons_of_mem _ tm
      have opt : Opt D (bl c) (D f t + tr) := by
        rw [ebl]
        refine Opt.step sy tm d2 fun t' ht' => ?_
        obtain ⟨k, hk, ek⟩ := List.getElem_of_mem ht'
        obtain ⟨tr', vr', d1', d2', _, _⟩ := done k t' (by rw [List.getElem?_eq_getElem hk, ek])
        exact ⟨tr', d2', hmin _ (List.mem_of_getElem? d1')⟩
      have cabs : valV kvs2 (.inl ((c : Nat) : Int)) = none := by
        cases q2 : valV kvs2 (.inl ((c : Nat) : Int)) with
        | none => rfl
        | some v' => have := gr2.2 c hv (by rw [q2]; simp); omega
      have cne : ((cut2 c f t : Nat) : Int) ≠ (c : Int) := fun z => by
        have z' : cut2 c f t = c := by omega
        have := (cut2_bit fb tbm ftn f).mp (by rw [z']; exact fb)
        exact this.2.1 rfl
      have vput : ∀ k v, valV kvs2 k = some v → valV (putK kvs2 (.inl ((c : Nat) : Int)) (.ref a)) k = some v := fun k v e => by
        rw [valV_put, if_neg (fun z => by rw [z, cabs] at e; cases e)]
        exact e
      refine ⟨_, rfl, _, rfl, tb, _, rfl, DPut.k (k := .inl ((c : Nat) : Int)) (v := .ref a) hT2 (ti2.len m14), ?_⟩
      have tp : Tps H2 (upd H2 tb (.dK (putK kvs2 (.inl ((c : Nat) : Int)) (.ref a)))) := fun b xs q => by
        rw [upd_ne (fun z => by rw [z, hT2] at q; cases q)]
        exact q
      refine ⟨_, _, _, _, _, putK kvs2 (.inl ((c : Nat) : Int)) (.ref a), .ref a, rfl, fun b o n1 e => ?_, upd_same, ⟨fun k v e => ?_, ?_, nd_putK _ ti2.nd cabs⟩, ⟨fun k v e => vput _ _ (gr2.1 _ _ e), fun c' y1 y2 => ?_⟩, by rw [valV_put, if_pos rfl], fun _ _ z => z⟩
      · rw [upd_ne n1]
        exact k2 b o n1 (fun z => by rw [z, wa0] at e; cases e) (s13 _ _ e)
      · rw [valV_put] at e
        by_cases ck : k = .inl ((c : Nat) : Int)
        · rw [if_pos ck] at e
          cases e
          exact ⟨c, ck, hc, .inr ⟨D f t + tr, f, t, a, vr, tr, rfl, tp _ _ ha, fb, tbm, ftn, vput _ _ d3, d4.mono tp, rfl, opt⟩⟩
        · rw [if_neg ck] at e
          obtain ⟨c', e1, e2⟩ := ti2.en k v e
          exact ⟨c', e1, e2.mono tp vput⟩
      · obtain ⟨v0, hv0⟩ := ti2.z
        exact ⟨v0, vput _ _ hv0⟩
      · by_cases cc : c' = c
        · rw [cc]; exact Nat.le_refl _
        · rw [valV_put, if_neg (fun z => cc (by have : (c' : Int) = (c : Int) := by injection z
                                                omega))] at y2
          have := gr2.2 c' y1 y2
          omega
theorem ok_laid {f f1 : Addr} {fd fd1 : FuncData} {D : Nat → Nat → Int} {m : Nat} (sy : ∀ a b, D a b = D b a) (F : Fun K "laid_in_pairs" "laid_in_pairs" s_laid_in_pairs f fd) (T : Txt mg) (G_bits : Cal P w K mg base 1 "bits" ["mask"] spBits f1 fd1) (bn : Binds K fd ["between", "chosen", "table"] []) (hm : mg "laid_in_pairs" = some (.ref f)) (kp : PySem.W.keepIn K (.ref f) = true) : ∀ j, FnOk P w K mg base CX0 (j + 2) f fd ["between", "chosen", "table"] (spLaid D m j)
  | 0 => ⟨fun vs H Q E h => by
      obtain ⟨bv, tb, c, kvs, _, _, _, _, _, _, z, _⟩ := h
      omega, fun A outer s H args us vs Q E _ _ _ _ h => by
      obtain ⟨bv, tb, c, kvs, _, _, _, _, _, _, z, _⟩ := h
      omega⟩
  | j + 1 => ok_laid0 sy F T G_bits ⟨ok_laid sy F T G_bits bn hm kp j, bn, hm, kp⟩
end

end KF


namespace KF
open PySem L2
local macro_rules | `(tactic| walk_at "cc") => `(tactic| first | exact ⟨by decide, by decide⟩ | (show (0 : Int) < _; decide) | (show (0 : Int) < _; omega) | (show (0 : Int) ≤ _; omega) | exact ⟨by decide, by decide, by decide⟩ | exact ⟨by omega, by omega, by decide⟩ | exact Or.inl ⟨by decide, by decide⟩ | exact Or.inl ⟨by omega, by omega⟩)
local macro_rules | `(tactic| walk_at "rd") => `(tactic| repeat (first | refine ⟨_, rfl, ?_⟩ | refine ⟨_, _, rfl, rfl, ?_⟩ | refine ⟨rfl, ?_⟩ | (refine ⟨?cc, ?_⟩; (case cc => walk_at "cc"))))

theorem oN_at {VL : List (Option Nat)} {r : Nat} {o : Option Nat} (h : VL[r]? = some o) : (VL.map oN)[r]? = some (oN o) := by rw [List.getElem?_map, h]; rfl
theorem FI.even {n : Nat} {ls : List Lk} {s M : Nat} {T : List (Option Int)} {vv : List (Option Nat)} (I : FI n ls s M T vv [] (fun _ _ => False)) {r k : Nat} (h : vv[r]? = some (some k)) : ∃ (l : Lk) (x y : Int), ls[k]? = some l ∧ isEnd l r ∧ T[r]? = some (some x) ∧ T[bey l r]? = some (some y) ∧ y + l.2.2 = x := by
  obtain ⟨l, x, y, e1, e2, e3, e4, e5⟩ := I.pr r k h
  rcases I.rl (bey l r) y k l e4 (by simp) e1 (bey_end e2) with h' | ⟨x', h', hx⟩
  · exact h'.elim
  · rw [bey_bey e2, e3] at h'; cases h'
    exact ⟨l, x, y, e1, e2, e3, e4, by omega⟩

inductive Pth (ls : List Lk) (vv : List (Option Nat)) (s : Nat) : Nat → List Nat → Prop where
  | root : Pth ls vv s s []
  | step {r k : Nat} {l : Lk} {ks : List Nat} (hv : vv[r]? = some (some k)) (hl : ls[k]? = some l) (h : Pth ls vv s (bey l r) ks) : Pth ls vv s r (k :: ks)
theorem Up.path {ls : List Lk} {vv : List (Option Nat)} {s j r : Nat} (h : Up ls vv s j r) : ∃ ks, Pth ls vv s r ks ∧ ks.length = j := by
  induction h with
  | root => exact ⟨[], .root, rfl⟩
  | step hv hl _ ih =>
    obtain ⟨ks, p, e⟩ := ih
    exact ⟨_ :: ks, .step hv hl p, by rw [List.length_cons, e]⟩
theorem Pth.up {ls : List Lk} {vv : List (Option Nat)} {s r : Nat} {ks : List Nat} (h : Pth ls vv s r ks) : Up ls vv s ks.length r := by
  induction h with
  | root => exact .root
  | step hv hl _ ih => exact .step hv hl ih
def lkA (ls : List Lk) (k : Nat) : Lk := ls.getD k (0, 0, 0)
theorem lkA_is {ls : List Lk} {k : Nat} {l : Lk} (h : ls[k]? = some l) : lkA ls k = l := by unfold lkA; rw [List.getD_eq_getElem?_getD, h]; rfl

/-! joinings: the mathematics -/
def endX (l : Lk) : Nat := 2 ^ l.1 ^^^ 2 ^ l.2.1
def oddE (ls : List Lk) (u : Nat) : Nat → Nat
  | 0 => 0
  | i + 1 => if u.testBit i = true then oddE ls u i ^^^ endX (lkA ls i) else oddE ls u i
def cstU (ls : List Lk) (u : Nat) : Nat → Int
  | 0 => 0
  | i + 1 => if u.testBit i = true then cstU ls u i + (lkA ls i).2.2 else cstU ls u i
theorem xor_tog (x a : Nat) : (bl (x ^^^ 2 ^ a)).Perm (tog (bl x) a) := by
  refine (List.perm_ext_iff_of_nodup (bl_nd _) (tog_nd (bl_nd x) a)).mpr fun y => ?_
  rw [mem_tog (bl_nd x), mem_bl, Nat.testBit_xor, Nat.testBit_two_pow, mem_bl, mem_bl]
  by_cases c : y = a
  · subst c
    cases x.testBit y <;> simp
  · have c' : ¬ a = y := fun z => c z.symm
    cases x.testBit y <;> simp [c, c']
theorem low_join {n : Nat} {d : Nat → Nat → Int} (M : Met n d) {ls : List Lk} (u : Nat) (hl : ∀ l ∈ ls, l.1 < n ∧ l.2.1 < n ∧ d l.1 l.2.1 ≤ l.2.2) : ∀ i, i ≤ ls.length → oddE ls u i < 2 ^ n ∧ ∃ c, Cs d (bl (oddE ls u i)) c ∧ c ≤ cstU ls u i
  | 0, _ => ⟨Nat.two_pow_pos n, 0, by show Cs d (bl 0) 0; rw [bl_zero]; exact Opt.nil.1, Int.le_refl _⟩
  | i + 1, h => by
    obtain ⟨h1, c, h2, h3⟩ := low_join M u hl i (by omega)
    unfold oddE cstU
    by_cases b : u.testBit i = true
    · rw [if_pos b, if_pos b]
      obtain ⟨l, e⟩ : ∃ l, ls[i]? = some l := ⟨_, List.getElem?_eq_getElem (by omega)⟩
      obtain ⟨l1, l2, l3⟩ := hl l (List.mem_of_getElem? e)
      rw [lkA_is e]
      have ex : oddE ls u i ^^^ endX l = oddE ls u i ^^^ 2 ^ l.1 ^^^ 2 ^ l.2.1 := by unfold endX; rw [Nat.xor_assoc]
      rw [ex]
      refine ⟨Nat.xor_lt_two_pow (Nat.xor_lt_two_pow h1 (Nat.pow_lt_pow_right (by decide) l1)) (Nat.pow_lt_pow_right (by decide) l2), ?_⟩
      obtain ⟨c', g1, g2⟩ := h2.two M (bl_nd _) (fun x hx => bl_lt h1 hx) l1 l2
      refine ⟨c', g1.perm ?_, by omega⟩
      exact ((xor_tog _ _).trans (tog_perm (xor_tog _ _) _)).symm
    · rw [if_neg b, if_neg b]
      exact ⟨h1, c, h2, h3⟩
theorem oddE_xor (ls : List Lk) (u v : Nat) : ∀ i, oddE ls (u ^^^ v) i = oddE ls u i ^^^ oddE ls v i
  | 0 => (Nat.xor_self 0).symm
  | i + 1 => by
    unfold oddE
    rw [oddE_xor ls u v i, Nat.testBit_xor]
    have x4 : ∀ a b e : Nat, (a ^^^ e) ^^^ (b ^^^ e) = a ^^^ b := fun a b e => by rw [Nat.xor_comm b e, ← Nat.xor_assoc, Nat.xor_assoc a e e, Nat.xor_self, Nat.xor_zero]
    cases u.testBit i <;> cases v.testBit i <;> simp
    · rw [Nat.xor_assoc]
    · rw [Nat.xor_assoc, Nat.xor_assoc, Nat.xor_comm (oddE ls v i)]
    · exact (x4 _ _ _).symm
theorem cstU_xor (ls : List Lk) (hw : ∀ l ∈ ls, 0 ≤ l.2.2) (u v : Nat) : ∀ i, i ≤ ls.length → cstU ls (u ^^^ v) i ≤ cstU ls u i + cstU ls v i
  | 0, _ => Int.le_refl _
  | i + 1, h => by
    have ih := cstU_xor ls hw u v i (by omega)
    obtain ⟨l, e⟩ : ∃ l, ls[i]? = some l := ⟨_, List.getElem?_eq_getElem (by omega)⟩
    have w0 := hw l (List.mem_of_getElem? e)
    unfold cstU
    rw [Nat.testBit_xor, lkA_is e]
    cases u.testBit i <;> cases v.testBit i <;> simp <;> omega

/-! ways of links; how far it is -/
inductive Wk (ls : List Lk) : Nat → Nat → Int → Prop where
  | nil (a : Nat) : Wk ls a a 0
  | step {a b i : Nat} {x : Int} {l : Lk} (h : Wk ls a b x) (hl : ls[i]? = some l) (he : isEnd l b) : Wk ls a (bey l b) (x + l.2.2)
theorem Wk.trans {ls : List Lk} {a b c : Nat} {x y : Int} (h : Wk ls a b x) (g : Wk ls b c y) : Wk ls a c (x + y) := by
  induction g with
  | nil => rw [Int.add_zero]; exact h
  | step _ hl he ih =>
    rw [← Int.add_assoc]
    exact .step ih hl he
theorem Wk.link {ls : List Lk} {a i : Nat} {l : Lk} (hl : ls[i]? = some l) (he : isEnd l a) : Wk ls a (bey l a) l.2.2 := by
  have := Wk.step (.nil a) hl he
  rw [Int.zero_add] at this
  exact this
theorem Wk.rev {ls : List Lk} {a b : Nat} {x : Int} (h : Wk ls a b x) : Wk ls b a x := by
  induction h with
  | nil => exact .nil _
  | @step b i x l h hl he ih =>
    have g := Wk.link hl (bey_end he)
    rw [bey_bey he] at g
    rw [Int.add_comm]
    exact g.trans ih
theorem Wk.nn {ls : List Lk} (hw : ∀ l ∈ ls, 0 ≤ l.2.2) {a b : Nat} {x : Int} (h : Wk ls a b x) : 0 ≤ x := by
  induction h with
  | nil => exact Int.le_refl _
  | step _ hl _ ih => have := hw _ (List.mem_of_getElem? hl); omega
theorem Wk.rel {n : Nat} {ls : List Lk} {s M : Nat} {T : List (Option Int)} {vv : List (Option Nat)} (I : FI n ls s M T vv [] (fun _ _ => False)) {a b : Nat} {x : Int} (h : Wk ls a b x) : ∀ y, T[a]? = some (some y) → ∃ z, T[b]? = some (some z) ∧ z ≤ y + x := by
  induction h with
  | nil => intro y hy; exact ⟨y, hy, by omega⟩
  | @step b i x l h hl he ih =>
    intro y hy
    obtain ⟨z, h1, h2⟩ := ih y hy
    rcases I.rl b z i l h1 (by simp) hl he with q | ⟨z', h3, h4⟩
    · exact q.elim
    · exact ⟨z', h3, by omega⟩
theorem Up.wk {n : Nat} {ls : List Lk} {s M : Nat} {T : List (Option Int)} {vv : List (Option Nat)} (I : FI n ls s M T vv [] (fun _ _ => False)) {j r : Nat} (h : Up ls vv s j r) : ∀ x, T[r]? = some (some x) → Wk ls s r x := by
  induction h with
  | root => intro x hx; rw [I.st] at hx; cases hx; exact .nil _
  | @step j r k l hv hl h ih =>
    intro x hx
    obtain ⟨l', x', y, e1, e2, e3, e4, e5⟩ := I.even hv
    rw [hl] at e1; cases e1
    rw [hx] at e3; cases e3
    have g := Wk.step (ih y e4) hl (bey_end e2)
    rw [bey_bey e2, e5] at g
    exact g
theorem least {P : Nat → Prop} (h : ∃ n, P n) : ∃ n, P n ∧ ∀ m, P m → n ≤ m := by
  obtain ⟨n, hn⟩ := h
  induction n using Nat.strongRecOn with
  | ind n ih =>
    by_cases c : ∃ m, m < n ∧ P m
    · obtain ⟨m, h1, h2⟩ := c
      exact ih m h1 h2
    · exact ⟨n, hn, fun m hm => Nat.le_of_not_lt fun z => c ⟨m, z, hm⟩⟩
open Classical in
noncomputable def farD (ls : List Lk) (a b : Nat) : Int := if h : ∃ x : Nat, Wk ls a b (x : Int) then ((Classical.choose (least h) : Nat) : Int) else 0
theorem far_spec {ls : List Lk} (hw : ∀ l ∈ ls, 0 ≤ l.2.2) {a b : Nat} {x : Int} (h : Wk ls a b x) : Wk ls a b (farD ls a b) ∧ ∀ y, Wk ls a b y → farD ls a b ≤ y := by
  have x0 := h.nn hw
  have ex : ∃ x : Nat, Wk ls a b (x : Int) := ⟨x.toNat, by rw [Int.toNat_of_nonneg x0]; exact h⟩
  have e : farD ls a b = ((Classical.choose (least ex) : Nat) : Int) := by unfold farD; rw [dif_pos ex]
  obtain ⟨c1, c2⟩ := Classical.choose_spec (least ex)
  rw [e]
  refine ⟨c1, fun y hy => ?_⟩
  have y0 := hy.nn hw
  have := c2 y.toNat (by rw [Int.toNat_of_nonneg y0]; exact hy)
  omega
theorem far_sy (ls : List Lk) (a b : Nat) : farD ls a b = farD ls b a := by
  have e : ∀ x : Nat, Wk ls a b (x : Int) = Wk ls b a (x : Int) := fun x => propext ⟨Wk.rev, Wk.rev⟩
  have e2 : (fun x : Nat => Wk ls a b (x : Int)) = fun x : Nat => Wk ls b a (x : Int) := funext e
  unfold farD
  by_cases h : ∃ x : Nat, Wk ls a b (x : Int)
  · have h' : ∃ x : Nat, Wk ls b a (x : Int) := h.imp fun x z => z.rev
    rw [dif_pos h, dif_pos h']
    have c1 := Classical.choose_spec (least h)
    have c2 := Classical.choose_spec (least h')
    have l1 := c1.2 _ c2.1.rev
    have l2 := c2.2 _ c1.1.rev
    omega
  · have h' : ¬ ∃ x : Nat, Wk ls b a (x : Int) := fun z => h (z.imp fun x y => y.rev)
    rw [dif_neg h, dif_neg h']
def Conn (n : Nat) (ls : List Lk) : Prop := ∀ b, b < n → ∃ x, Wk ls 0 b x
theorem Conn.two {n : Nat} {ls : List Lk} (h : Conn n ls) {a b : Nat} (ha : a < n) (hb : b < n) : ∃ x, Wk ls a b x := by
  obtain ⟨x, hx⟩ := h a ha
  obtain ⟨y, hy⟩ := h b hb
  exact ⟨_, hx.rev.trans hy⟩
theorem far_met {n : Nat} {ls : List Lk} (hw : ∀ l ∈ ls, 0 ≤ l.2.2) (hc : Conn n ls) : Met n (farD ls) where
  sy := far_sy ls
  nn := fun a b => by
    unfold farD
    split
    · omega
    · exact Int.le_refl _
  tr := fun a b c ha hb hc' => by
    obtain ⟨x, hx⟩ := hc.two ha hb
    obtain ⟨y, hy⟩ := hc.two hb hc'
    exact (far_spec hw (hx.trans hy)).2 _ ((far_spec hw hx).1.trans (far_spec hw hy).1)
theorem far_link {ls : List Lk} (hw : ∀ l ∈ ls, 0 ≤ l.2.2) {l : Lk} (hl : l ∈ ls) : farD ls l.1 l.2.1 ≤ l.2.2 := by
  obtain ⟨i, hi, e⟩ := List.getElem_of_mem hl
  have g := Wk.link (ls := ls) (i := i) (l := l) (a := l.1) (by rw [List.getElem?_eq_getElem hi, e]) (.inl rfl)
  have b1 : bey l l.1 = l.2.1 := by unfold bey; rw [if_pos rfl]
  rw [b1] at g
  exact (far_spec hw g).2 _ g
/-- what is told is how far it is -/
theorem FI.is {n : Nat} {ls : List Lk} {s M : Nat} {T : List (Option Int)} {vv : List (Option Nat)} (I : FI n ls s M T vv [] (fun _ _ => False)) (hc : Conn n ls) (hs : s < n) {r : Nat} (hr : r < n) : T[r]? = some (some (farD ls s r)) := by
  have hw : ∀ l ∈ ls, 0 ≤ l.2.2 := fun l hl => (I.w0 l hl).1
  obtain ⟨x, hx⟩ := hc.two hs hr
  obtain ⟨z, h1, h2⟩ := hx.rel I 0 I.st
  obtain ⟨j, u⟩ := I.up r z h1
  have wz := u.wk I z h1
  obtain ⟨f1, f2⟩ := far_spec hw hx
  obtain ⟨z', h3, h4⟩ := f1.rel I 0 I.st
  rw [h1] at h3; cases h3
  have := f2 z wz
  have e : z = farD ls s r := by omega
  rw [← e]
  exact h1
/-! a way's links joined -/
def maskL (ks : List Nat) : Nat := ks.foldl (fun m k => m ||| 2 ^ k) 0
theorem maskL_bit (ks : List Nat) (i : Nat) : (maskL ks).testBit i = decide (i ∈ ks) := by
  have gen : ∀ (ks : List Nat) (m : Nat), (ks.foldl (fun m k => m ||| 2 ^ k) m).testBit i = (m.testBit i || decide (i ∈ ks)) := by
    intro ks
    induction ks with
    | nil => intro m; simp
    | cons k ks ih =>
      intro m
      rw [List.foldl_cons, ih, Nat.testBit_or, Nat.testBit_two_pow]
      by_cases c : k = i
      · subst c; simp
      · have c' : ¬ i = k := fun z => c z.symm
        simp [c, c']
  unfold maskL
  rw [gen]
  simp
theorem oddE_pow (ls : List Lk) (k : Nat) : ∀ i, oddE ls (2 ^ k) i = if k < i then endX (lkA ls k) else 0
  | 0 => by rw [if_neg (Nat.not_lt_zero _)]; rfl
  | i + 1 => by
    unfold oddE
    rw [oddE_pow ls k i, Nat.testBit_two_pow]
    by_cases c : k = i
    · subst c
      rw [if_pos (by simp), if_neg (Nat.lt_irrefl _), if_pos (Nat.lt_succ_self _), Nat.zero_xor]
    · rw [if_neg (by simpa using c)]
      by_cases d : k < i
      · rw [if_pos d, if_pos (by omega)]
      · rw [if_neg d, if_neg (by omega)]
theorem cstU_pow (ls : List Lk) (k : Nat) : ∀ i, cstU ls (2 ^ k) i = if k < i then (lkA ls k).2.2 else 0
  | 0 => by rw [if_neg (Nat.not_lt_zero _)]; rfl
  | i + 1 => by
    unfold cstU
    rw [cstU_pow ls k i, Nat.testBit_two_pow]
    by_cases c : k = i
    · subst c
      rw [if_pos (by simp), if_neg (Nat.lt_irrefl _), if_pos (Nat.lt_succ_self _), Int.zero_add]
    · rw [if_neg (by simpa using c)]
      by_cases d : k < i
      · rw [if_pos d, if_pos (by omega)]
      · rw [if_neg d, if_neg (by omega)]
theorem oddE_zero (ls : List Lk) : ∀ i, oddE ls 0 i = 0
  | 0 => rfl
  | i + 1 => by unfold oddE; rw [Nat.zero_testBit, if_neg Bool.false_ne_true]; exact oddE_zero ls i
theorem cstU_zero (ls : List Lk) : ∀ i, cstU ls 0 i = 0
  | 0 => rfl
  | i + 1 => by unfold cstU; rw [Nat.zero_testBit, if_neg Bool.false_ne_true]; exact cstU_zero ls i
theorem Pth.node {ls : List Lk} {vv : List (Option Nat)} {s r : Nat} {ks : List Nat} (h : Pth ls vv s r ks) : ∀ k ∈ ks, ∃ q j, vv[q]? = some (some k) ∧ Up ls vv s j q ∧ j ≤ ks.length := by
  induction h with
  | root => intro k hk; cases hk
  | @step r k l ks hv hl h ih =>
    intro k' hk
    rcases List.mem_cons.mp hk with rfl | hk
    · exact ⟨r, _, hv, .step hv hl h.up, Nat.le_refl _⟩
    · obtain ⟨q, j, h1, h2, h3⟩ := ih k' hk
      exact ⟨q, j, h1, h2, by rw [List.length_cons]; omega⟩
theorem Pth.join {n : Nat} {ls : List Lk} {s M : Nat} {T : List (Option Int)} {vv : List (Option Nat)} (I : FI n ls s M T vv [] (fun _ _ => False)) {r : Nat} {ks : List Nat} (h : Pth ls vv s r ks) :
    (∀ k ∈ ks, k < ls.length) ∧ oddE ls (maskL ks) ls.length = 2 ^ s ^^^ 2 ^ r ∧ ∀ x, T[r]? = some (some x) → cstU ls (maskL ks) ls.length ≤ x := by
  induction h with
  | root =>
    refine ⟨(fun k hk => nomatch hk), ?_, fun x hx => ?_⟩
    · show oddE ls 0 ls.length = _
      rw [oddE_zero, Nat.xor_self]
    · rw [I.st] at hx; cases hx
      show cstU ls 0 ls.length ≤ 0
      rw [cstU_zero]; exact Int.le_refl _
  | @step r k l ks hv hl h ih =>
    obtain ⟨h0, h1, h2⟩ := ih
    obtain ⟨l', x, y, e1, e2, e3, e4, e5⟩ := I.even hv
    rw [hl] at e1; cases e1
    have kl : k < ls.length := (List.getElem?_eq_some_iff.mp hl).1
    have me : Up ls vv s (ks.length + 1) r := .step hv hl h.up
    have nk : k ∉ ks := fun z => by
      obtain ⟨q, j, g1, g2, g3⟩ := h.node k z
      obtain ⟨l2, _, _, f1, f2, _⟩ := I.pr q k g1
      rw [hl] at f1; cases f1
      have qr : q ≠ r := fun w => by
        subst w
        have := Up.uniq I.vs me g2
        omega
      have eb : bey l q = r := by
        unfold bey
        rcases f2 with z1 | z1 <;> rcases e2 with z2 | z2
        · exact absurd (z1.trans z2.symm) qr
        · rw [if_pos z1]; exact z2.symm
        · rw [if_neg (fun w => qr (w.trans z2.symm))]; exact z2.symm
        · exact absurd (z1.trans z2.symm) qr
      have : Up ls vv s (ks.length + 1 + 1) q := .step g1 hl (by rw [eb]; exact me)
      have := Up.uniq I.vs this g2
      omega
    have em : maskL (k :: ks) = maskL ks ^^^ 2 ^ k := Nat.eq_of_testBit_eq fun i => by
      rw [maskL_bit, Nat.testBit_xor, maskL_bit, Nat.testBit_two_pow]
      by_cases c : i = k
      · subst c; simp [nk]
      · have c' : ¬ k = i := fun z => c z.symm
        simp [c, c']
    rw [em]
    refine ⟨fun k' hk => ?_, ?_, fun x' hx' => ?_⟩
    · rcases List.mem_cons.mp hk with rfl | hk
      · exact kl
      · exact h0 k' hk
    · rw [oddE_xor, h1, oddE_pow, if_pos kl, lkA_is hl]
      have ee : endX l = 2 ^ bey l r ^^^ 2 ^ r := by
        unfold endX bey
        rcases e2 with z | z
        · rw [if_pos z, z, Nat.xor_comm]
        · by_cases w : r = l.1
          · rw [if_pos w, w, Nat.xor_comm]
          · rw [if_neg w, z]
      rw [ee, ← Nat.xor_assoc, Nat.xor_assoc (2 ^ s), Nat.xor_self, Nat.xor_zero]
    · rw [hx'] at e3; cases e3
      have g1 := cstU_xor ls (fun l hl => (I.w0 l hl).1) (maskL ks) (2 ^ k) ls.length (Nat.le_refl _)
      have g2 := h2 y e4
      rw [cstU_pow, if_pos kl, lkA_is hl] at g1
      omega

end KF


namespace KF
open PySem L2
local macro_rules | `(tactic| walk_at "cc") => `(tactic| first | exact ⟨by decide, by decide⟩ | (show (0 : Int) < _; decide) | (show (0 : Int) < _; omega) | (show (0 : Int) ≤ _; omega) | exact ⟨by decide, by decide, by decide⟩ | exact ⟨by omega, by omega, by decide⟩ | exact Or.inl ⟨by decide, by decide⟩ | exact Or.inl ⟨by omega, by omega⟩)
local macro_rules | `(tactic| walk_at "rd") => `(tactic| repeat (first | refine ⟨_, rfl, ?_⟩ | refine ⟨_, _, rfl, rfl, ?_⟩ | refine ⟨rfl, ?_⟩ | (refine ⟨?cc, ?_⟩; (case cc => walk_at "cc"))))

/-! who hangs together: two loops over the same ends -/
def endsM (l : Lk) : Nat := 2 ^ l.1 ||| 2 ^ l.2.1
def one1 (m : Nat) (l : Lk) : Nat := if m &&& endsM l = 0 then m else m ||| endsM l
def passL (ls : List Lk) (m : Nat) : Nat := ls.foldl one1 m
inductive Run (ls : List Lk) : Nat → Nat → Nat → Prop where
  | stop {m : Nat} : Run ls m m m
  | go {m a r : Nat} (h : m ≠ a) (n : Run ls (passL ls m) m r) : Run ls m a r
theorem one1_le (m : Nat) (l : Lk) : m ≤ one1 m l := by
  unfold one1
  split
  · exact Nat.le_refl _
  · exact Nat.left_le_or
theorem one1_lt {n m : Nat} {l : Lk} (h : m < 2 ^ n) (h1 : l.1 < n) (h2 : l.2.1 < n) : one1 m l < 2 ^ n := by
  unfold one1 endsM
  split
  · exact h
  · exact Nat.or_lt_two_pow h (Nat.or_lt_two_pow (Nat.pow_lt_pow_right (by decide) h1) (Nat.pow_lt_pow_right (by decide) h2))
theorem pass_snoc {ls : List Lk} {i : Nat} {l : Lk} {m : Nat} (h : ls[i]? = some l) : passL (ls.take (i + 1)) m = one1 (passL (ls.take i) m) l := by
  unfold passL
  rw [List.take_add_one, h, List.foldl_append]
  rfl
theorem orN (a b : Nat) : Builtin.bitOr (a : Int) (b : Int) = ((a ||| b : Nat) : Int) := by
  rw [PyProof.Rows.bitOr_and, andN]
  have q := PyProof.Rows.nat_or_add_and a b
  omega
theorem endsV (l : Lk) : Builtin.bitOr (1 * 2 ^ ((l.1 : Nat) : Int).toNat) (1 * 2 ^ ((l.2.1 : Nat) : Int).toNat) = ((endsM l : Nat) : Int) := by rw [shlN, shlN, orN]; rfl
def PaAt (H : Hp) (v : V) (l : Lk) : Prop := ∃ t, v = .ref t ∧ H t = some (.tup [.int (l.1 : Int), .int (l.2.1 : Int)])
theorem dec_vi (a b : Int) : decide (V.int a = V.int b) = decide (a = b) := decide_eq_decide.mpr ⟨V.int.inj, congrArg V.int⟩
def spReach : Sp := fun vs H Q _ => ∃ (a : Addr) (ys : List V) (n : Nat) (ls : List Lk), vs = [.int 0, .ref a] ∧ H a = some (.lst ys) ∧ LsAt PaAt H ys ls ∧ Lok n ls ∧ 1 ≤ n ∧ ∀ r : Nat, Run ls 1 0 r → Q (.int (r : Int)) H
def spWhl : Sp := fun vs H Q _ => ∃ (v : V) (n : Nat) (ls : List Lk), vs = [.int (n : Int), v] ∧ LnAt H v ls ∧ Lok n ls ∧ 1 ≤ n ∧ ∀ (r : Nat) H', Run ls 1 0 r → Same H H' → Q (.bl (decide ((r : Int) = 1 * 2 ^ ((n : Nat) : Int).toNat - 1))) H'
structure TxtR (mg : Str → Option Value) : Prop where
  n_list : mg "list" = none
  n_reversed : mg "reversed" = none
section
variable {P : Program} {w : World} {K : PySem.W.Frag} {mg : Str → Option Value} {base : Heap}
theorem sc_reached : FnScope ["start", "pairs", "mask", "ahead", "one", "two", "ends"] ["start", "pairs"] (defScope s_reached) := ⟨rfl, rfl, rfl, by decide +kernel, rfl, by decide +kernel, by decide +kernel⟩
theorem ok_reached {f : Addr} {fd : FuncData} (F : Fun K "reached" "reached" s_reached f fd) : FnOk P w K mg base CX0 1 f fd ["start", "pairs"] spReach := by
  refine F.ok sc_reached (fun vs H Q E h => ?_) (fun cdv A outer s H vs Q E hr h => ?_)
  · obtain ⟨a, ys, n, ls, rfl, _⟩ := h
    rfl
  obtain ⟨a, ys, n, ls, rfl, hA, hL, ok, n1, kk⟩ := h
  have n40 := ok.n1
  refine ⟨_, (pss_cons (ps_set (i := 2) sc_reached.nd rfl (Or.inl rfl) (pe_op op_shl pe_int (pv 0)))
      (pss_cons (ps_set (i := 3) sc_reached.nd rfl (Or.inl rfl) pe_int)
      (pss_cons (ps_while PassesOwn.never (pt_cmpR op_ne (pv 2) (pv 3) (nomark _)) (pss_cons (ps_set (i := 3) sc_reached.nd rfl (Or.inl rfl) (pv 2))
      (pss_one (ps_for PassesOwn.never rfl (pi_list (pv 1)) (pg_tup rfl (pgs_cons (pg_name (i := 4) sc_reached.nd rfl (Or.inl rfl)) (pgs_cons (pg_name (i := 5) sc_reached.nd rfl (Or.inl rfl)) pgs_nil))) (pss_cons (ps_set (i := 6) sc_reached.nd rfl (Or.inl rfl) (pe_op op_or (pe_op op_shl pe_int (pv 4)) (pe_op op_shl pe_int (pv 5))))
      (pss_one (ps_if (pt_cmpR op_ne (pe_op op_and (pv 2) (pv 6)) pe_int (nomark _)) (pss_one (ps_set (i := 2) sc_reached.nd rfl (Or.inl rfl) (pe_op op_or (pv 2) (pv 6)))) pss_nil)))))))
      (pss_one (ps_ret (pv 2)))))), ?_⟩
  refine ⟨_, rfl, _, _, rfl, rfl, ⟨by decide, by decide, by decide⟩, ?_⟩
  refine while_by (fun σ H2 => ∃ (M Ah : Nat), ∃ v4 v5 v6, H2 = H ∧ σ = [some (.int 0), some (.ref a), some (.int (M : Int)), some (.int (Ah : Int)), v4, v5, v6] ∧ M < 2 ^ n ∧ ∀ r, Run ls M Ah r → Run ls 1 0 r)
    (fun σ _ => match σ with | [_, _, some (.int M), some (.int Ah), _, _, _] => 2 * ((2 ^ n : Nat) - M).toNat + (if M = Ah then 0 else 1) | _ => 0) ⟨1, 0, _, _, _, rfl, rfl, Nat.one_lt_two_pow (by omega), fun r z => z⟩ ?_ ?_
  · rintro σ H2 ⟨M, Ah, v4, v5, v6, rfl, rfl, hM, run⟩
    refine ⟨_, rfl, _, rfl, rfl, _, rfl, ?_⟩
    by_cases c' : M = Ah
    · subst c'
      refine iteNS rfl ?_
      exact ⟨_, rfl, kk M (run M .stop)⟩
    refine ite2 (fun c => ?_) (fun c => absurd (by rw [dec_vi, decide_eq_false (fun z => c' (by omega))]; rfl) c)
    refine ⟨_, rfl, ?_⟩
    refine ⟨_, rfl, a, rfl, ⟨_, SqL.of hA⟩, for_list (K := K) (xs := ys) (fun i σ H3 => ∃ v4 v5 v6, H3 = H2 ∧ σ = [some (.int 0), some (.ref a), some (.int ((passL (ls.take i) M : Nat) : Int)), some (.int (M : Int)), v4, v5, v6] ∧ passL (ls.take i) M < 2 ^ n ∧ M ≤ passL (ls.take i) M) ⟨_, _, _, rfl, rfl, hM, Nat.le_refl _⟩ (fun i σ H3 _ ⟨_, _, _, z, _⟩ => by rw [z]; exact SqL.of hA) ?_ ?_⟩
    · rintro i x σ H3 hx ⟨v4, v5, v6, rfl, rfl, hM', hle⟩
      obtain ⟨l, hl, p, rfl, hp⟩ := hL.get hx
      obtain ⟨b1, b2⟩ := ok.sm l (List.mem_of_getElem? hl)
      refine ⟨p, _, rfl, SqT.of hp, rfl, _, _, rfl, _, _, rfl, rfl, ?_⟩
      refine ⟨_, rfl, _, _, rfl, rfl, ⟨by omega, by omega, by decide⟩, _, rfl, _, _, rfl, rfl, ⟨by omega, by omega, by decide⟩, _, _, rfl, rfl, ?_⟩
      simp only [endsV]
      refine ⟨_, rfl, _, rfl, _, _, rfl, rfl, rfl, _, rfl, ?_⟩
      have ps := pass_snoc (m := M) hl
      have lt1 := one1_lt hM' b1 b2
      have le1 := one1_le (passL (ls.take i) M) l
      simp only [andN]
      by_cases z : passL (ls.take i) M &&& endsM l = 0
      · refine iteNS (by rw [z]; rfl) ?_
        have e : one1 (passL (ls.take i) M) l = passL (ls.take i) M := by unfold one1; rw [if_pos z]
        exact ⟨_, _, _, rfl, by rw [ps, e]; rfl, by rw [ps]; exact lt1, by rw [ps]; omega⟩
      · refine ite2 (fun _ => ?_) (fun c => absurd (by rw [dec_vi, decide_eq_false (fun y => z (by omega))]; rfl) c)
        have e : one1 (passL (ls.take i) M) l = passL (ls.take i) M ||| endsM l := by unfold one1; rw [if_neg z]
        refine ⟨_, rfl, _, rfl, _, _, rfl, rfl, ?_⟩
        simp only [orN]
        exact ⟨_, _, _, rfl, by rw [ps, e]; rfl, by rw [ps]; exact lt1, by rw [ps]; omega⟩
    · rintro σ H3 ⟨v4, v5, v6, rfl, rfl, hM', hle⟩
      rw [hL.1, List.take_length] at hM' hle ⊢
      refine ⟨⟨_, M, _, _, _, rfl, rfl, hM', fun r z => run r (.go c' z)⟩, ?_⟩
      show 2 * (((2 ^ n : Nat) : Int) - ((passL ls M : Nat) : Int)).toNat + (if ((passL ls M : Nat) : Int) = (M : Int) then 0 else 1) < 2 * (((2 ^ n : Nat) : Int) - (M : Int)).toNat + (if (M : Int) = (Ah : Int) then 0 else 1)
      rw [if_neg (show ¬ (M : Int) = (Ah : Int) from fun z => c' (by omega))]
      generalize (2 ^ n : Nat) = N at hM hM'
      split <;> omega
  · rintro σ H4 Q1 Q2 hi ⟨v1, e1, v2, e2, e3, b, e4, q'⟩
    exact ⟨v1, e1, v2, e2, e3, b, e4, hi _ _ q'⟩
theorem sc_whole : FnScope ["many", "links"] ["many", "links"] (defScope s_whole) := ⟨rfl, rfl, rfl, by decide +kernel, rfl, by decide +kernel, by decide +kernel⟩
theorem ok_whl {f f1 : Addr} {fd fd1 : FuncData} (F : Fun K "whole" "whole" s_whole f fd) (G_reached : Cal P w K mg base 1 "reached" ["start", "pairs"] spReach f1 fd1) : FnOk P w K mg base CX0 2 f fd ["many", "links"] spWhl := by
  refine F.ok sc_whole (fun vs H Q E h => ?_) (fun cdv A outer s H vs Q E hr h => ?_)
  · obtain ⟨v, n, ls, rfl, _⟩ := h
    rfl
  obtain ⟨v, n, ls, rfl, ⟨a, xs, rfl, hA, hL⟩, ok, n1, kk⟩ := h
  have n40 := ok.n1
  have l9 := ok.l9
  have xl := hL.1
  refine ⟨_, (pss_one (ps_ret (pe_cmpR op_eq (pe_call G_reached.ok (hr.mono (by decide)) rfl G_reached.mg G_reached.kp G_reached.bn .nil pass0 (pa_cons pe_int (pa_cons (pe_comp rfl (fr := []) (by exact CompOk.plain (by rfl) (by decide +kernel) (by rfl) (by decide +kernel) (by rfl) (by decide +kernel)) (pi_list (pv 1)) (fun C ex s H => (pe_tup (pa_cons (pe_ix (ixK_tup (K := K) rfl) (pv 0) pe_int (fun _ _ => rfl)) (pa_cons (pe_ix (ixK_tup (K := K) rfl) (pv 0) pe_int (fun _ _ => rfl)) pa_nil))))) pa_nil))) (pe_op op_sub (pe_op op_shl pe_int (pv 0)) pe_int) (nomark _)))), ?_⟩
  refine ⟨_, rfl, a, rfl, ⟨_, SqL.of hA⟩, comp_list (K := K) (xs := xs) (fun i zs H2 => Same H H2 ∧ LsAt PaAt H2 zs (ls.take i)) (Nat.le_of_lt (small1000 (by omega))) ⟨fun _ _ e => e, LsAt.nil⟩ (fun i zs H2 _ z => SqL.of (z.1 _ _ hA)) ?_ ?_⟩
  · rintro i x zs H2 hx ⟨s2, hZ⟩
    obtain ⟨l, hl, p, rfl, hp⟩ := hL.get hx
    have hp2 := s2 _ _ hp
    refine ⟨_, rfl, p, _, 0, _, rfl, rfl, SqT.of hp2, a30, _, rfl, p, _, 1, _, rfl, rfl, SqT.of hp2, a31, (by show 2 ≤ sizeLine; decide), fun t ht => ?_⟩
    have s3 := same_new ht (.tup [.int (l.1 : Int), .int (l.2.1 : Int)])
    refine ⟨s2.trans s3, ?_⟩
    rw [List.take_add_one, hl]
    exact (hZ.imp fun _ _ ⟨t, e, z⟩ => ⟨t, e, s3 _ _ z⟩).snoc ⟨t, rfl, upd_same⟩
  rintro zs H2 _ ⟨s2, hZ⟩ D hD
  rw [xl, List.take_length] at hZ
  have s3 := same_new hD (.lst zs)
  refine ⟨D, zs, n, ls, rfl, upd_same, hZ.imp fun _ _ ⟨t, e, z⟩ => ⟨t, e, s3 _ _ z⟩, ok, n1, fun r run => ?_⟩
  refine ⟨_, rfl, _, _, rfl, rfl, ⟨by omega, by omega, by decide⟩, _, _, rfl, rfl, rfl, ?_⟩
  rw [dec_vi]
  exact kk r _ run (s2.trans s3)
end

structure TxtM (mg : Str → Option Value) : Prop where
  most : ∃ t, mg "MOST_MARKS" = some (.int 14 t)
theorem two_bits {M p q : Nat} : (M &&& (2 ^ p ||| 2 ^ q) = 0 ↔ M.testBit p = false ∧ M.testBit q = false) ∧ (M ||| (2 ^ p ||| 2 ^ q) = M → M.testBit p = true ∧ M.testBit q = true) := by
  have b1 : ∀ i, (2 ^ p ||| 2 ^ q).testBit i = (decide (p = i) || decide (q = i)) := fun i => by rw [Nat.testBit_or, Nat.testBit_two_pow, Nat.testBit_two_pow]
  refine ⟨⟨fun h => ?_, fun ⟨h1, h2⟩ => ?_⟩, fun h => ?_⟩
  · have h1 := congrArg (fun z => Nat.testBit z p) h
    have h2 := congrArg (fun z => Nat.testBit z q) h
    simp only [Nat.testBit_and, b1, Nat.zero_testBit] at h1 h2
    constructor
    · simpa using h1
    · simpa using h2
  · refine Nat.eq_of_testBit_eq fun i => ?_
    rw [Nat.testBit_and, b1, Nat.zero_testBit]
    by_cases z1 : p = i
    · subst z1; rw [h1]; rfl
    · by_cases z2 : q = i
      · subst z2; rw [h2]; rfl
      · simp [z1, z2]
  · have h1 := congrArg (fun z => Nat.testBit z p) h
    have h2 := congrArg (fun z => Nat.testBit z q) h
    simp only [Nat.testBit_or (x := M), b1] at h1 h2
    constructor
    · simpa using h1.symm
    · simpa using h2.symm
theorem full_mask {M m : Nat} (h : M < 2 ^ m) (k : ∀ p, p < m → M.testBit p = true) : M = 2 ^ m - 1 := by
  refine Nat.eq_of_testBit_eq fun i => ?_
  rw [Nat.testBit_two_pow_sub_one]
  by_cases z : i < m
  · rw [k i z, decide_eq_true z]
  · rw [decide_eq_false z]
    exact Nat.testBit_lt_two_pow (Nat.lt_of_lt_of_le h (Nat.pow_le_pow_right (by decide) (by omega)))
theorem pe_globI {X : Cx} {x : Str} {n : Int} {pos : Pos} (hg : Gl X x) (hm : ∃ t, X.mg x = some (.int n t)) (hd : (x == ("__debug__" : Str)) = false := by decide) : PE X (.Name x pos) (tC (.int n)) := by
  obtain ⟨t, h⟩ := hm
  exact pe_glob hg h ⟨t, rfl⟩ hd
theorem pass_take_le {ls : List Lk} {m : Nat} : ∀ i, m ≤ passL (ls.take i) m ∧ passL (ls.take i) m ≤ passL ls m := fun i => by
  have le : ∀ (l : List Lk) (m : Nat), m ≤ passL l m := fun l => by
    induction l with
    | nil => intro m; exact Nat.le_refl _
    | cons x l ih => intro m; exact Nat.le_trans (one1_le m x) (ih _)
  refine ⟨le _ _, ?_⟩
  have e : passL ls m = passL (ls.drop i) (passL (ls.take i) m) := by
    unfold passL
    rw [← List.foldl_append, List.take_append_drop]
  rw [e]
  exact le _ _
theorem closed_link {ls : List Lk} {r : Nat} (h : passL ls r = r) {l : Lk} (hl : l ∈ ls) : r.testBit l.1 = r.testBit l.2.1 := by
  obtain ⟨i, hi, e⟩ := List.getElem_of_mem hl
  have hi' : ls[i]? = some l := by rw [List.getElem?_eq_getElem hi, e]
  have t1 := pass_take_le (ls := ls) (m := r) i
  have t2 := pass_take_le (ls := ls) (m := r) (i + 1)
  have e1 : passL (ls.take i) r = r := by omega
  have e2 : passL (ls.take (i + 1)) r = r := by omega
  rw [pass_snoc hi', e1] at e2
  obtain ⟨b1, b2⟩ := two_bits (M := r) (p := l.1) (q := l.2.1)
  unfold one1 endsM at e2
  split at e2
  · rename_i c
    obtain ⟨z1, z2⟩ := b1.mp c
    rw [z1, z2]
  · obtain ⟨z1, z2⟩ := b2 e2
    rw [z1, z2]
theorem Run.shut {ls : List Lk} {n m a r : Nat} (h : Run ls m a r) (hl : ∀ l ∈ ls, l.1 < n ∧ l.2.1 < n) : (m = a → passL ls m = m) → m < 2 ^ n → passL ls r = r ∧ r < 2 ^ n ∧ (m.testBit 0 = true → r.testBit 0 = true) := by
  induction h with
  | stop => intro h1 h2; exact ⟨h1 rfl, h2, id⟩
  | @go m a r h nx ih =>
    intro _ h2
    have lt : ∀ (k : List Lk), (∀ l ∈ k, l.1 < n ∧ l.2.1 < n) → ∀ m, m < 2 ^ n → passL k m < 2 ^ n := fun k => by
      induction k with
      | nil => intro _ m hm; exact hm
      | cons x k ihk =>
        intro hk m hm
        obtain ⟨b1, b2⟩ := hk x (List.mem_cons_self ..)
        exact ihk (fun l hl => hk l (List.mem_cons_of_mem _ hl)) _ (one1_lt hm b1 b2)
    have bit : ∀ (k : List Lk) (m : Nat), m.testBit 0 = true → (passL k m).testBit 0 = true := fun k => by
      induction k with
      | nil => intro m hm; exact hm
      | cons x k ihk =>
        intro m hm
        refine ihk _ ?_
        unfold one1
        split
        · exact hm
        · rw [Nat.testBit_or, hm]; rfl
    obtain ⟨g1, g2, g3⟩ := ih (fun e => by rw [e]; exact e) (lt ls hl m h2)
    exact ⟨g1, g2, fun z => g3 (bit ls m z)⟩
theorem run_full {ls : List Lk} {n r : Nat} (h : Run ls 1 0 r) (hl : ∀ l ∈ ls, l.1 < n ∧ l.2.1 < n) (n1 : 1 ≤ n) (hc : Conn n ls) : r = 2 ^ n - 1 := by
  obtain ⟨g1, g2, g3⟩ := h.shut hl (fun z => by cases z) (Nat.one_lt_two_pow (by omega))
  refine full_mask g2 fun p hp => ?_
  obtain ⟨x, hx⟩ := hc p hp
  have gen : ∀ {a b : Nat} {x : Int}, Wk ls a b x → r.testBit a = r.testBit b := fun h => by
    induction h with
    | nil => rfl
    | @step b i x l h' hl' he ih =>
      rw [ih]
      have cl := closed_link g1 (List.mem_of_getElem? hl')
      unfold bey
      rcases he with z | z
      · rw [if_pos z, z]; exact cl
      · by_cases w : b = l.1
        · rw [if_pos w, w]; exact cl
        · rw [if_neg w, z]; exact cl.symm
  rw [← gen hx]
  exact g3 (by decide)
def spOnes : Sp := fun vs H Q _ => ∃ n : Nat, vs = [.int (n : Int)] ∧ n < 2 ^ 40 ∧ ∀ H', Same H H' → Q (.int (((bl n).length : Nat) : Int)) H'
def spOdd : Sp := fun vs H Q _ => ∃ n : Nat, vs = [.int (n : Int)] ∧ n < 2 ^ 40 ∧ ∀ H', Same H H' → Q (.int (((bl n).length : Nat) % 2 : Int)) H'
def spMask (K : PySem.W.Frag) : Sp := fun vs H Q _ => ∃ (a : Addr) (ks : List Nat), vs = [.ref a] ∧ SqL K H a (ks.map iV) ∧ (∀ k ∈ ks, k < 80) ∧ Q (.int ((maskL ks : Nat) : Int)) H
def spRef : Sp := fun vs H Q _ => ∃ (v : V) (n mk : Nat) (ls : List Lk), vs = [.int (n : Int), v, .int (mk : Int)] ∧ LnAt H v ls ∧ Lok n ls ∧ 1 ≤ n ∧ Conn n ls ∧ mk < 2 ^ n ∧ (bl mk).length % 2 = 0 ∧ (bl mk).length ≤ 14 ∧ ∀ H', Same H H' → Q .non H'
section
variable {P : Program} {w : World} {K : PySem.W.Frag} {mg : Str → Option Value} {base : Heap}
theorem sc_ones : FnScope ["mask"] ["mask"] (defScope s_ones) := ⟨rfl, rfl, rfl, by decide +kernel, rfl, by decide +kernel, by decide +kernel⟩
theorem ok_ones {f f1 : Addr} {fd fd1 : FuncData} (F : Fun K "ones" "ones" s_ones f fd) (T : Txt mg) (G_bits : Cal P w K mg base 1 "bits" ["mask"] spBits f1 fd1) : FnOk P w K mg base CX0 2 f fd ["mask"] spOnes := by
  refine F.ok sc_ones (fun vs H Q E h => ?_) (fun cdv A outer s H vs Q E hr h => ?_)
  · obtain ⟨n, rfl, _⟩ := h
    rfl
  obtain ⟨n, rfl, hn, kk⟩ := h
  have e40 : (2 : Nat) ^ 40 = 1099511627776 := by decide
  refine ⟨_, (pss_one (ps_ret (pe_callB call_len_seq (by rfl) T.n_len bt_len (pa_cons (pe_call G_bits.ok (hr.mono (by decide)) rfl G_bits.mg G_bits.kp G_bits.bn .nil pass0 (pa_cons (pv 0) pa_nil)) pa_nil)))), ?_⟩
  refine ⟨_, rfl, _, rfl, by omega, by omega, fun r H1 s1 _ hr1 => ?_⟩
  refine ⟨r, _, rfl, .inl (SqL.of hr1), ?_⟩
  rw [List.length_map, Int.toNat_natCast]
  exact kk _ s1
theorem sc_odd : FnScope ["mask"] ["mask"] (defScope s_odd) := ⟨rfl, rfl, rfl, by decide +kernel, rfl, by decide +kernel, by decide +kernel⟩
theorem ok_odd {f f1 : Addr} {fd fd1 : FuncData} (F : Fun K "odd" "odd" s_odd f fd) (G_ones : Cal P w K mg base 2 "ones" ["mask"] spOnes f1 fd1) : FnOk P w K mg base CX0 3 f fd ["mask"] spOdd := by
  refine F.ok sc_odd (fun vs H Q E h => ?_) (fun cdv A outer s H vs Q E hr h => ?_)
  · obtain ⟨n, rfl, _⟩ := h
    rfl
  obtain ⟨n, rfl, hn, kk⟩ := h
  refine ⟨_, (pss_one (ps_ret (pe_op op_mod (pe_call G_ones.ok (hr.mono (by decide)) rfl G_ones.mg G_ones.kp G_ones.bn .nil pass0 (pa_cons (pv 0) pa_nil)) pe_int))), ?_⟩
  exact ⟨_, rfl, n, rfl, hn, fun H1 s1 => ⟨_, _, rfl, rfl, (by show (0 : Int) < 2; decide), kk _ s1⟩⟩
theorem sc_mask_of : FnScope ["places", "mask", "place"] ["places"] (defScope s_mask_of) := ⟨rfl, rfl, rfl, by decide +kernel, rfl, by decide +kernel, by decide +kernel⟩
theorem ok_mask {f : Addr} {fd : FuncData} (F : Fun K "mask_of" "mask_of" s_mask_of f fd) : FnOk P w K mg base CX0 1 f fd ["places"] (spMask K) := by
  refine F.ok sc_mask_of (fun vs H Q E h => ?_) (fun cdv A outer s H vs Q E hr h => ?_)
  · obtain ⟨a, ks, rfl, _⟩ := h
    rfl
  obtain ⟨a, ks, rfl, hS, k80, q⟩ := h
  refine ⟨_, (pss_cons (ps_set (i := 1) sc_mask_of.nd rfl (Or.inl rfl) pe_int)
      (pss_cons (ps_for PassesOwn.never rfl (pi_list (pv 0)) (pg_name (i := 2) sc_mask_of.nd rfl (Or.inl rfl)) (pss_one (ps_set (i := 1) sc_mask_of.nd rfl (Or.inl rfl) (pe_op op_or (pv 1) (pe_op op_shl pe_int (pv 2))))))
      (pss_one (ps_ret (pv 1))))), ?_⟩
  refine ⟨_, rfl, a, rfl, ⟨_, hS⟩, for_list (K := K) (xs := ks.map iV) (fun i σ H2 => ∃ v2, σ = [some (.ref a), some (.int ((maskL (ks.take i) : Nat) : Int)), v2] ∧ H2 = H) ⟨_, rfl, rfl⟩ (fun i σ H2 _ ⟨_, _, z⟩ => by rw [z]; exact hS) ?_ ?_⟩
  · rintro i x σ H2 hx ⟨v2, rfl, rfl⟩
    rw [List.getElem?_map] at hx
    obtain ⟨k, hk, rfl⟩ := Option.map_eq_some_iff.mp hx
    have kb := k80 k (List.mem_of_getElem? hk)
    refine ⟨_, rfl, _, rfl, _, _, rfl, rfl, ⟨by show (0 : Int) ≤ (k : Int); omega, by show (k : Int) ≤ 1000000; omega, by decide⟩, _, _, rfl, rfl, ?_⟩
    have e : Builtin.bitOr ((maskL (ks.take i) : Nat) : Int) (1 * 2 ^ ((k : Nat) : Int).toNat) = ((maskL (ks.take (i + 1)) : Nat) : Int) := by
      rw [shlN, orN]
      unfold maskL
      rw [List.take_add_one, hk, List.foldl_append]
      rfl
    simp only [e]
    exact ⟨_, rfl, rfl⟩
  · rintro σ H2 ⟨v2, rfl, rfl⟩
    rw [List.length_map, List.take_length]
    exact ⟨_, rfl, q⟩
theorem sc_refuse_marks : FnScope ["many", "links", "marks"] ["many", "links", "marks"] (defScope s_refuse_marks) := ⟨rfl, rfl, rfl, by decide +kernel, rfl, by decide +kernel, by decide +kernel⟩
theorem ok_ref {f f1 f2 f3 : Addr} {fd fd1 fd2 fd3 : FuncData} (F : Fun K "refuse_marks" "refuse_marks" s_refuse_marks f fd) (T : TxtM mg) (G_odd : Cal P w K mg base 3 "odd" ["mask"] spOdd f1 fd1) (G_whole : Cal P w K mg base 2 "whole" ["many", "links"] spWhl f2 fd2) (G_ones : Cal P w K mg base 2 "ones" ["mask"] spOnes f3 fd3) : FnOk P w K mg base CX0 4 f fd ["many", "links", "marks"] spRef := by
  refine F.ok sc_refuse_marks (fun vs H Q E h => ?_) (fun cdv A outer s H vs Q E hr h => ?_)
  · obtain ⟨v, n, mk, ls, rfl, _⟩ := h
    rfl
  obtain ⟨v, n, mk, ls, rfl, hV, ok, n1, hc, hmk, ev, few, kk⟩ := h
  have n40 := ok.n1
  have mlt : mk < 2 ^ 40 := Nat.lt_of_lt_of_le hmk (Nat.pow_le_pow_right (by decide) n40)
  obtain ⟨tM, hM⟩ := T.most
  refine ⟨_, (pss_cons (ps_if (pt_cmpR op_eq (pe_call G_odd.ok (hr.mono (by decide)) rfl G_odd.mg G_odd.kp G_odd.bn .nil pass0 (pa_cons (pv 2) pa_nil)) pe_int (nomark _)) (pss_one ps_never) pss_nil)
      (pss_cons (ps_if (pt_not (pt_val (pe_call G_whole.ok (hr.mono (by decide)) rfl G_whole.mg G_whole.kp G_whole.bn .nil pass0 (pa_cons (pv 0) (pa_cons (pv 1) pa_nil))))) (pss_one ps_never) pss_nil)
      (pss_one (ps_if (pt_cmpR op_gt (pe_call G_ones.ok (hr.mono (by decide)) rfl G_ones.mg G_ones.kp G_ones.bn .nil pass0 (pa_cons (pv 2) pa_nil)) (pe_globI rfl T.most) (nomark _)) (pss_one ps_never) pss_nil)))), ?_⟩
  refine ⟨_, rfl, mk, rfl, mlt, fun H1 s1 => ?_⟩
  refine ⟨rfl, _, rfl, ite2 (fun z => absurd (V.int.inj (of_decide_eq_true z)) (by omega)) (fun _ => ?_)⟩
  refine ⟨_, rfl, _, rfl, v, n, ls, rfl, hV.mono s1, ok, n1, fun r H2 run s2 => ?_⟩
  have er := run_full run ok.sm n1 hc
  have eb : decide ((r : Int) = 1 * 2 ^ ((n : Nat) : Int).toNat - 1) = true := decide_eq_true (by
    rw [shlN, er]
    have := Nat.two_pow_pos n
    omega)
  rw [eb]
  refine ⟨_, rfl, iteF ?_⟩
  refine ⟨_, rfl, mk, rfl, mlt, fun H3 s3 => ?_⟩
  refine ⟨_, _, rfl, rfl, _, rfl, ite2 (fun z => absurd (of_decide_eq_true z) (by show ¬ (((bl mk).length : Nat) : Int) > 14; omega)) (fun _ => ?_)⟩
  exact kk _ (s1.trans (s2.trans s3))
end

end KF


namespace KF
open PySem L2
local macro_rules | `(tactic| walk_at "cc") => `(tactic| first | exact ⟨by decide, by decide⟩ | (show (0 : Int) < _; decide) | (show (0 : Int) < _; omega) | (show (0 : Int) ≤ _; omega) | exact ⟨by decide, by decide, by decide⟩ | exact ⟨by omega, by omega, by decide⟩ | exact Or.inl ⟨by decide, by decide⟩ | exact Or.inl ⟨by omega, by omega⟩)
local macro_rules | `(tactic| walk_at "rd") => `(tactic| repeat (first | refine ⟨_, rfl, ?_⟩ | refine ⟨_, _, rfl, rfl, ?_⟩ | refine ⟨rfl, ?_⟩ | (refine ⟨?cc, ?_⟩; (case cc => walk_at "cc"))))

def spRow : Sp := fun vs H Q _ => ∃ (v : V) (va : Addr) (r s : Nat) (ls : List Lk) (VL : List (Option Nat)) (ks : List Nat), vs = [v, .ref va, .int (r : Int)] ∧ LnAt H v ls ∧ H va = some (.lst (VL.map oN)) ∧ VL[s]? = some none ∧ Pth ls VL s r ks ∧ ks.length ≤ 40 ∧ ∀ q H', Same H H' → H' q = some (.lst (ks.reverse.map iV)) → Q (.ref q) H'
section
variable {P : Program} {w : World} {K : PySem.W.Frag} {mg : Str → Option Value} {base : Heap}
theorem sc_row_to : FnScope ["links", "via", "room", "back", "here"] ["links", "via", "room"] (defScope s_row_to) := ⟨rfl, rfl, rfl, by decide +kernel, rfl, by decide +kernel, by decide +kernel⟩
theorem ok_row {f f1 : Addr} {fd fd1 : FuncData} (F : Fun K "row_to" "row_to" s_row_to f fd) (T : TxtR mg) (G_beyond : Cal P w K mg base 1 "beyond" ["link", "room"] spBey f1 fd1) : FnOk P w K mg base CX0 2 f fd ["links", "via", "room"] spRow := by
  refine F.ok sc_row_to (fun vs H Q E h => ?_) (fun cdv A outer s H vs Q E hr h => ?_)
  · obtain ⟨v, va, r, s0, ls, VL, ks, rfl, _⟩ := h
    rfl
  obtain ⟨v, va, r, s0, ls, VL, ks, rfl, ⟨a, xs, rfl, hA, hL⟩, hva, hs0, hP, k40, kk⟩ := h
  refine ⟨_, (pss_cons (ps_set (i := 3) sc_row_to.nd rfl (Or.inl rfl) (pe_lst pa_nil))
      (pss_cons (ps_set (i := 4) sc_row_to.nd rfl (Or.inl rfl) (pv 2))
      (pss_cons (ps_while PassesOwn.never (pt_cmpR op_notN (pe_ix ix_list (pv 1) (pv 4) (fun _ _ => rfl)) pe_non (nomark _)) (pss_cons (ps_expr (pe_bm PySem.F.plainAttrs_list PySem.F.slot_list_append PySem.F.type_list_append mt_append (pv 3) (pa_cons (pe_ix ix_list (pv 1) (pv 4) (fun _ _ => rfl)) pa_nil)))
      (pss_one (ps_set (i := 4) sc_row_to.nd rfl (Or.inl rfl) (pe_call G_beyond.ok (hr.mono (by decide)) rfl G_beyond.mg G_beyond.kp G_beyond.bn .nil pass0 (pa_cons (pe_ix ix_list (pv 0) (pe_ix ix_list (pv 1) (pv 4) (fun _ _ => rfl)) (fun _ _ => rfl)) (pa_cons (pv 4) pa_nil)))))))
      (pss_one (ps_ret (pe_listrev rfl rfl T.n_list rfl T.n_reversed (pv 3))))))), ?_⟩
  refine ⟨(by show 0 ≤ sizeLine; decide), fun l hl => ?_⟩
  have lv : l ≠ va := fun z => by rw [z, hva] at hl; cases hl
  refine ⟨_, rfl, while_by (fun σ H2 => ∃ (here : Nat) (pre rest : List Nat), σ = [some (.ref a), some (.ref va), some (.int (r : Int)), some (.ref l), some (.int (here : Int))] ∧ H2 l = some (.lst (pre.map iV)) ∧ pre ++ rest = ks ∧ Pth ls VL s0 here rest ∧ Same H H2)
    (fun _ H2 => match H2 l with | some (.lst zs) => 100 - zs.length | _ => 0) ⟨r, [], ks, rfl, upd_same, rfl, hP, same_new hl _⟩ ?_ ?_⟩
  · rintro σ H2 ⟨here, pre, rest, rfl, hp, hpr, hc, s2⟩
    have hpl : pre.length + rest.length ≤ 40 := by
      have := congrArg List.length hpr
      rw [List.length_append] at this
      omega
    have hva2 := s2 _ _ hva
    cases hc with
    | root =>
      refine ⟨_, rfl, _, rfl, va, _, _, _, rfl, rfl, SqL.of hva2, atI_nat (oN_at hs0), rfl, _, rfl, iteF ?_⟩
      rw [List.append_nil] at hpr
      subst hpr
      refine ⟨_, rfl, l, _, rfl, SqL.of hp, fun q hq => ?_⟩
      refine kk q _ (s2.trans (same_new hq _)) ?_
      rw [upd_same, List.map_reverse]
    | @step _ k lk rest' hv hlk hc' =>
      obtain ⟨lv', hlv, lt, rfl, hlt⟩ := hL.2 k lk hlk
      refine ⟨_, rfl, _, rfl, va, _, _, _, rfl, rfl, SqL.of hva2, atI_nat (oN_at hv), rfl, _, rfl, iteT ?_⟩
      rw [List.length_cons] at hpl
      refine ⟨_, rfl, .inl ⟨rfl, _, SqL.of hp⟩, _, rfl, _, rfl, va, _, _, _, rfl, rfl, SqL.of hva2, atI_nat (oN_at hv), l, _, _, rfl, rfl, hp, small1000 (by rw [List.length_map]; omega), ?_⟩
      have s3 := same_upd s2 hl (.lst (pre.map iV ++ [.int (k : Int)]))
      refine ⟨_, rfl, _, rfl, _, rfl, va, _, _, _, rfl, rfl, SqL.of (s3 _ _ hva), atI_nat (oN_at hv), a, _, _, _, rfl, rfl, SqL.of (s3 _ _ hA), atI_nat hlv, _, rfl, .ref lt, lk, here, rfl, ⟨lt, rfl, s3 _ _ hlt⟩, ?_⟩
      refine ⟨⟨bey lk here, pre ++ [k], rest', rfl, ?_, ?_, hc', s3⟩, ?_⟩
      · rw [upd_same, List.map_append]; rfl
      · rw [List.append_assoc]; exact hpr
      · rw [hp]
        show (match (upd H2 l (.lst (pre.map iV ++ [.int (k : Int)]))) l with | some (.lst zs) => 100 - zs.length | _ => 0) < 100 - (pre.map iV).length
        rw [upd_same]
        show 100 - (pre.map iV ++ [V.int (k : Int)]).length < 100 - (pre.map iV).length
        rw [List.length_append, List.length_map, List.length_singleton]
        omega
  · rintro σ H2 Q1 Q2 hi ⟨v', e, i, j, a', b', c', d', f', g', h', i', j', k', l', q⟩
    exact ⟨v', e, i, j, a', b', c', d', f', g', h', i', j', k', l', hi _ _ q⟩
end

/-! paired -/
def RM (rho : Nat → Nat) (c : Nat) : Nat → Nat
  | 0 => 0
  | i + 1 => if c.testBit i = true then RM rho c i ^^^ 2 ^ rho i else RM rho c i
theorem RM_xor (rho : Nat → Nat) (u v : Nat) : ∀ i, RM rho (u ^^^ v) i = RM rho u i ^^^ RM rho v i
  | 0 => (Nat.xor_self 0).symm
  | i + 1 => by
    unfold RM
    rw [RM_xor rho u v i, Nat.testBit_xor]
    have x4 : ∀ a b e : Nat, (a ^^^ e) ^^^ (b ^^^ e) = a ^^^ b := fun a b e => by rw [Nat.xor_comm b e, ← Nat.xor_assoc, Nat.xor_assoc a e e, Nat.xor_self, Nat.xor_zero]
    cases u.testBit i <;> cases v.testBit i <;> simp
    · rw [Nat.xor_assoc]
    · rw [Nat.xor_assoc, Nat.xor_assoc, Nat.xor_comm (RM rho v i)]
    · exact (x4 _ _ _).symm
theorem RM_pow (rho : Nat → Nat) (k : Nat) : ∀ i, RM rho (2 ^ k) i = if k < i then 2 ^ rho k else 0
  | 0 => by rw [if_neg (Nat.not_lt_zero _)]; rfl
  | i + 1 => by
    unfold RM
    rw [RM_pow rho k i, Nat.testBit_two_pow]
    by_cases c : k = i
    · subst c
      rw [if_pos (by simp), if_neg (Nat.lt_irrefl _), if_pos (Nat.lt_succ_self _), Nat.zero_xor]
    · rw [if_neg (by simpa using c)]
      by_cases d : k < i
      · rw [if_pos d, if_pos (by omega)]
      · rw [if_neg d, if_neg (by omega)]
theorem RM_zero (rho : Nat → Nat) : ∀ i, RM rho 0 i = 0
  | 0 => rfl
  | i + 1 => by unfold RM; rw [Nat.zero_testBit, if_neg Bool.false_ne_true]; exact RM_zero rho i
theorem RM_full {l : List Nat} (nd : l.Nodup) (x : Nat) : ∀ i, i ≤ l.length → (RM (fun i => l.getD i 0) (2 ^ l.length - 1) i).testBit x = decide (x ∈ l.take i)
  | 0, _ => by rw [List.take_zero]; show (0 : Nat).testBit x = _; rw [Nat.zero_testBit]; simp
  | i + 1, h => by
    unfold RM
    rw [if_pos (by rw [Nat.testBit_two_pow_sub_one]; exact decide_eq_true (by omega)), Nat.testBit_xor, RM_full nd x i (by omega), Nat.testBit_two_pow]
    have e : l[i]? = some l[i] := List.getElem?_eq_getElem (by omega)
    have eg : l.getD i 0 = l[i] := by rw [List.getD_eq_getElem?_getD, e]; rfl
    rw [eg]
    have nm : l[i] ∉ l.take i := fun z => by
      obtain ⟨k, hk, ek⟩ := List.getElem_of_mem z
      rw [List.length_take] at hk
      rw [List.getElem_take] at ek
      have := (List.getElem_inj nd).mp ek
      omega
    have mm : x ∈ l.take (i + 1) ↔ (x ∈ l.take i ∨ x = l[i]) := by
      rw [List.take_add_one, e]
      exact List.mem_append.trans (or_congr Iff.rfl List.mem_singleton)
    by_cases c : x = l[i]
    · rw [decide_eq_false (fun z => nm (c ▸ z)), decide_eq_true c.symm, decide_eq_true (mm.mpr (.inr c))]
      rfl
    · rw [decide_eq_false (show ¬ l[i] = x from fun z => c z.symm), Bool.xor_false]
      exact decide_eq_decide.mpr ⟨fun h => mm.mpr (.inl h), fun h => (mm.mp h).resolve_right c⟩
theorem RM_all (mk : Nat) : RM (fun i => (bl mk).getD i 0) (2 ^ (bl mk).length - 1) (bl mk).length = mk := Nat.eq_of_testBit_eq fun x => by
  rw [RM_full (bl_nd mk) x _ (Nat.le_refl _), List.take_length]
  cases z : mk.testBit x with
  | true => exact decide_eq_true (mem_bl.mpr z)
  | false => exact decide_eq_false fun y => by rw [mem_bl, z] at y; cases y
theorem cut2_less {c f g : Nat} (hf : f ∈ bl c) (hg : g ∈ bl c) (n : f ≠ g) : cut2 c f g < c := by
  have sub : cut2 c f g &&& c = cut2 c f g := Nat.eq_of_testBit_eq fun i => by
    rw [Nat.testBit_and]
    cases z : (cut2 c f g).testBit i with
    | false => rfl
    | true =>
      have := (cut2_bit hf hg n i).mp (mem_bl.mpr z)
      rw [mem_bl.mp this.1]
      rfl
  have le : cut2 c f g ≤ c := by rw [← sub]; exact Nat.and_le_right
  have ne : cut2 c f g ≠ c := fun z => by
    have := (cut2_bit hf hg n f).mp (by rw [z]; exact hf)
    exact this.2.1 rfl
  omega
theorem Cs.map {d : Nat → Nat → Int} {rho : Nat → Nat} {l : List Nat} {c : Int} (h : Cs (fun i j => d (rho i) (rho j)) l c) : Cs d (l.map rho) c := by
  obtain ⟨PL, p, e⟩ := h
  refine ⟨PL.map fun q => (rho q.1, rho q.2), ?_, ?_⟩
  · have ef : ∀ PL : List (Nat × Nat), flat (PL.map fun q => (rho q.1, rho q.2)) = (flat PL).map rho := fun PL => by
      induction PL with
      | nil => rfl
      | cons q r ih => rw [List.map_cons, flat_cons, flat_cons, ih, List.map_cons, List.map_cons]
    rw [ef]
    exact p.map rho
  · rw [← e]
    unfold cst
    rw [List.map_map]
    rfl
theorem Cs.back {d : Nat → Nat → Int} {rho ix : Nat → Nat} {l : List Nat} {c : Int} (hi : ∀ i ∈ l, ix (rho i) = i) (h : Cs d (l.map rho) c) : Cs (fun i j => d (rho i) (rho j)) l c := by
  obtain ⟨PL, p, e⟩ := h
  have mem : ∀ x ∈ flat PL, rho (ix x) = x := fun x hx => by
    obtain ⟨i, hi', rfl⟩ := List.mem_map.mp (p.mem_iff.mp hx)
    rw [hi i hi']
  refine ⟨PL.map fun q => (ix q.1, ix q.2), ?_, ?_⟩
  · have ef : ∀ PL : List (Nat × Nat), flat (PL.map fun q => (ix q.1, ix q.2)) = (flat PL).map ix := fun PL => by
      induction PL with
      | nil => rfl
      | cons q r ih => rw [List.map_cons, flat_cons, flat_cons, ih, List.map_cons, List.map_cons]
    rw [ef]
    refine (p.map ix).trans ?_
    rw [List.map_map]
    have : l.map (ix ∘ rho) = l := by
      conv => rhs; rw [← List.map_id l]
      exact List.map_congr_left fun i hi' => hi i hi'
    rw [this]
  · rw [← e]
    unfold cst
    rw [List.map_map]
    refine congrArg List.sum (List.map_congr_left fun q hq => ?_)
    have m1 : q.1 ∈ flat PL := by
      unfold flat
      exact List.mem_flatMap.mpr ⟨q, hq, List.mem_cons_self ..⟩
    have m2 : q.2 ∈ flat PL := by
      unfold flat
      exact List.mem_flatMap.mpr ⟨q, hq, List.mem_cons_of_mem _ (List.mem_cons_self ..)⟩
    show d (rho (ix q.1)) (rho (ix q.2)) = d q.1 q.2
    rw [mem _ m1, mem _ m2]
theorem bl_full (m : Nat) : (bl (2 ^ m - 1)).Perm (List.range m) := by
  refine (List.perm_ext_iff_of_nodup (bl_nd _) (List.nodup_range)).mpr fun x => ?_
  rw [mem_bl, Nat.testBit_two_pow_sub_one, List.mem_range, decide_eq_true_iff]
/-- over the rooms' places or over the rooms: the same least -/
theorem Opt.rooms {d : Nat → Nat → Int} {l : List Nat} (nd : l.Nodup) {t : Int} (h : Opt (fun i j => d (l.getD i 0) (l.getD j 0)) (bl (2 ^ l.length - 1)) t) : Opt d l t := by
  have h' := h.perm (bl_full l.length)
  have em : (List.range l.length).map (fun i => l.getD i 0) = l := by
    refine List.ext_getElem (by rw [List.length_map, List.length_range]) fun i h1 h2 => ?_
    rw [List.getElem_map, List.getElem_range, List.getD_eq_getElem?_getD, List.getElem?_eq_getElem h2]
    rfl
  have ix : ∀ i ∈ List.range l.length, l.idxOf (l.getD i 0) = i := fun i hi => by
    have hi' := List.mem_range.mp hi
    rw [List.getD_eq_getElem?_getD, List.getElem?_eq_getElem hi']
    exact nd.idxOf_getElem i hi'
  refine ⟨?_, fun c hc => h'.2 c (Cs.back (rho := fun i => l.getD i 0) (ix := fun x => l.idxOf x) ix (by rw [em]; exact hc))⟩
  have := Cs.map (rho := fun i => l.getD i 0) h'.1
  rw [em] at this
  exact this

def spChosen : Sp := fun vs H Q _ => ∃ (ta r : Addr) (xs vals : List V) (ks : List Nat), vs = [.ref ta, .ref r] ∧ H ta = some (.lst xs) ∧ H r = some (.lst (ks.map iV)) ∧ vals.length = ks.length ∧ ks.length ≤ 900 ∧ (∀ (i k : Nat), ks[i]? = some k → ∃ y, xs[k]? = some y ∧ vals[i]? = some y) ∧ ∀ q H', Same H H' → H q = none → H' q = some (.lst vals) → Q (.ref q) H'
def spTable : Sp := fun vs H Q _ => vs = [] ∧ ∀ p t H', Same H H' → H p = none → H' p = some (.dK [(.inl ((0 : Nat) : Int), .ref t)]) → H' t = some (.tup [.int 0, .non, .non]) → Q (.ref p) H'
section
variable {P : Program} {w : World} {K : PySem.W.Frag} {mg : Str → Option Value} {base : Heap}
theorem sc_chosen_of : FnScope ["entries", "numbers"] ["entries", "numbers"] (defScope s_chosen_of) := ⟨rfl, rfl, rfl, by decide +kernel, rfl, by decide +kernel, by decide +kernel⟩
theorem ok_chosen {f : Addr} {fd : FuncData} (F : Fun K "chosen_of" "chosen_of" s_chosen_of f fd) : FnOk P w K mg base CX0 1 f fd ["entries", "numbers"] spChosen := by
  refine F.ok sc_chosen_of (fun vs H Q E h => ?_) (fun cdv A outer s H vs Q E hr h => ?_)
  · obtain ⟨ta, r, xs, vals, ks, rfl, _⟩ := h
    rfl
  obtain ⟨ta, r, xs, vals, ks, rfl, hta, hr', vl, k9, hv, kk⟩ := h
  refine ⟨_, (pss_one (ps_ret (pe_comp rfl (fr := [("entries", 0)]) (by exact CompOk.one (by rfl) (by decide +kernel) (by rfl) (by decide +kernel) (by rfl) (by decide +kernel) (by rfl) (by rfl) (by decide +kernel) (by rfl)) (pi_list (pv 1)) (fun C ex s H => (pe_ix (ixK_list (K := K) rfl) (pv 1) (pv 0) (fun _ _ => rfl)))))), ?_⟩
  refine ⟨_, rfl, r, rfl, ⟨_, SqL.of hr'⟩, comp_list (K := K) (xs := ks.map iV) (fun i zs H2 => H2 = H ∧ zs = vals.take i) (Nat.le_of_lt (small1000 (by rw [List.length_map]; omega))) ⟨rfl, rfl⟩ (fun i zs H2 _ z => by rw [z.1]; exact SqL.of hr') ?_ ?_⟩
  · rintro i x zs H2 hx ⟨rfl, rfl⟩
    rw [List.getElem?_map] at hx
    obtain ⟨k, hk, rfl⟩ := Option.map_eq_some_iff.mp hx
    obtain ⟨y, h1, h2⟩ := hv i k hk
    refine ⟨_, rfl, _, rfl, ta, _, _, _, rfl, rfl, SqL.of hta, atI_nat h1, rfl, ?_⟩
    rw [List.take_add_one, h2]
    rfl
  rintro zs H2 _ ⟨rfl, rfl⟩ q hq
  rw [List.length_map, ← vl, List.take_length]
  exact kk q _ (same_new hq _) hq upd_same
theorem sc_new_table : FnScope [] [] (defScope s_new_table) := ⟨rfl, rfl, rfl, by decide +kernel, rfl, by decide +kernel, by decide +kernel⟩
theorem ok_table {f : Addr} {fd : FuncData} (F : Fun K "new_table" "new_table" s_new_table f fd) : FnOk P w K mg base CX0 1 f fd [] spTable := by
  refine F.ok sc_new_table (fun vs H Q E h => ?_) (fun cdv A outer s H vs Q E hr h => ?_)
  · rw [h.1]; rfl
  obtain ⟨rfl, kk⟩ := h
  refine ⟨_, (pss_one (ps_ret (pe_disp (pps_cons pe_int (pe_tup (pa_cons pe_int (pa_cons pe_non (pa_cons pe_non pa_nil)))) pps_nil) rfl rfl (fun z => by cases z) (by decide)))), ?_⟩
  intro p hp
  refine ⟨(by show 3 ≤ sizeLine; decide), fun t ht => ?_⟩
  have z1 := same_new hp (.dK [])
  have z2 := same_new ht (.tup [.int 0, .non, .non])
  have pt : p ≠ t := fun z => by rw [← z, upd_same] at ht; cases ht
  refine ⟨by rw [upd_ne pt]; exact upd_same, [(.inl ((0 : Nat) : Int), .ref t)], rfl, (by show 1 ≤ 15; decide), ?_⟩
  refine kk p t _ (same_upd (z1.trans z2) hp _) hp upd_same ?_
  rw [upd_ne (Ne.symm pt)]
  exact upd_same
end

end KF


namespace KF
open PySem L2
local macro_rules | `(tactic| walk_at "cc") => `(tactic| first | exact ⟨by decide, by decide⟩ | (show (0 : Int) < _; decide) | (show (0 : Int) < _; omega) | (show (0 : Int) ≤ _; omega) | exact ⟨by decide, by decide, by decide⟩ | exact ⟨by omega, by omega, by decide⟩ | exact Or.inl ⟨by decide, by decide⟩ | exact Or.inl ⟨by omega, by omega⟩)
local macro_rules | `(tactic| walk_at "rd") => `(tactic| repeat (first | refine ⟨_, rfl, ?_⟩ | refine ⟨_, _, rfl, rfl, ?_⟩ | refine ⟨rfl, ?_⟩ | (refine ⟨?cc, ?_⟩; (case cc => walk_at "cc"))))

/-- a room's fares, as they lie -/
def FdAt (n : Nat) (ls : List Lk) (H : Hp) (v : V) (s : Nat) : Prop := ∃ t ta va TL VL, v = .ref t ∧ H t = some (.tup [.ref ta, .ref va]) ∧ H ta = some (.lst (TL.map oV)) ∧ H va = some (.lst (VL.map oN)) ∧ FI n ls s MM TL VL [] (fun _ _ => False)
theorem tb_same {q : Str} {lp : Pos} {TT : Addr} {H H' : Hp} (h : Tb q lp TT H) (s : Same H H') : Tb q lp TT H' := by
  rcases h with y | ⟨c', y1, y2⟩
  · exact .inl (s _ _ y)
  · exact .inr ⟨c', s _ _ y1, s _ _ y2⟩
theorem tb_ne {q : Str} {lp : Pos} {TT : Addr} {H : Hp} (h : Tb q lp TT H) {b : Addr} {o : HO} (e : H b = some o) (n : ∀ ps, o ≠ .tbl ps) : b ≠ TT := fun z => by
  rw [z] at e
  rcases h with y | ⟨_, y, _⟩ <;> rw [y] at e <;> cases e <;> exact n _ rfl
/-- all that is no table is as it was -/
def SmT (H H' : Hp) : Prop := ∀ b o, (∀ ps, o ≠ .tbl ps) → H b = some o → H' b = some o
theorem SmT.trans {H H1 H2 : Hp} (a : SmT H H1) (b : SmT H1 H2) : SmT H H2 := fun c o n e => b c o n (a c o n e)
theorem SmT.of {H H' : Hp} (s : Same H H') : SmT H H' := fun c o _ e => s c o e
theorem TbS.smT {q : Str} {lp : Pos} {TT : Addr} {H H' : Hp} (s : TbS TT H H') (h : Tb q lp TT H) : SmT H H' := fun b o n e => s b o (tb_ne h e n) e
theorem SmT.lst {H H' : Hp} (s : SmT H H') {b : Addr} {xs : List V} (e : H b = some (.lst xs)) : H' b = some (.lst xs) := s _ _ (fun ps z => by cases z) e
theorem SmT.tup {H H' : Hp} (s : SmT H H') {b : Addr} {xs : List V} (e : H b = some (.tup xs)) : H' b = some (.tup xs) := s _ _ (fun ps z => by cases z) e
theorem FdAt.mono {n : Nat} {ls : List Lk} {H H' : Hp} {v : V} {s : Nat} (h : FdAt n ls H v s) (sm : SmT H H') : FdAt n ls H' v s := by
  obtain ⟨t, ta, va, TL, VL, e, h1, h2, h3, h4⟩ := h
  exact ⟨t, ta, va, TL, VL, e, sm.tup h1, sm.lst h2, sm.lst h3, h4⟩
theorem LnAt.smT {H H' : Hp} {v : V} {r : List Lk} (h : LnAt H v r) (s : SmT H H') : LnAt H' v r := by
  obtain ⟨a, ys, e, z, l⟩ := h
  exact ⟨a, ys, e, s.lst z, l.imp fun _ _ ⟨t, e, q⟩ => ⟨t, e, s.tup q⟩⟩
def LT (H H' : Hp) : Prop := (∀ b xs, H b = some (.lst xs) → H' b = some (.lst xs)) ∧ ∀ b xs, H b = some (.tup xs) → H' b = some (.tup xs)
theorem LT.same {H H' : Hp} (s : Same H H') : LT H H' := ⟨fun _ _ e => s _ _ e, fun _ _ e => s _ _ e⟩
theorem LT.tbS {H H' : Hp} {tb : Addr} {kvs : List (Key × V)} (s : TbS tb H H') (h : H tb = some (.dK kvs)) : LT H H' := ⟨fun b xs e => s _ _ (fun z => by rw [z, h] at e; cases e) e, fun b xs e => s _ _ (fun z => by rw [z, h] at e; cases e) e⟩
theorem FdAt.lt {n : Nat} {ls : List Lk} {H H' : Hp} {v : V} {s : Nat} (h : FdAt n ls H v s) (sm : LT H H') : FdAt n ls H' v s := by
  obtain ⟨t, ta, va, TL, VL, e, h1, h2, h3, h4⟩ := h
  exact ⟨t, ta, va, TL, VL, e, sm.2 _ _ h1, sm.1 _ _ h2, sm.1 _ _ h3, h4⟩
theorem CostV.uniq {H : Hp} {v : V} {t t' : Int} (h : CostV H v t) (h' : CostV H v t') : t = t' := by
  obtain ⟨a, y, z, e, q⟩ := h
  obtain ⟨a', y', z', e', q'⟩ := h'
  rw [e] at e'
  cases e'
  rw [q] at q'
  cases q'
  rfl
theorem maskL_lt {ks : List Nat} {N : Nat} (h : ∀ k ∈ ks, k < N) : maskL ks < 2 ^ N := Nat.lt_pow_two_of_testBit _ fun i hi => by
  rw [maskL_bit]
  exact decide_eq_false fun z => by have := h i z; omega
theorem maskL_rev (ks : List Nat) : maskL ks.reverse = maskL ks := Nat.eq_of_testBit_eq fun i => by
  rw [maskL_bit, maskL_bit]
  exact decide_eq_decide.mpr List.mem_reverse
def PrI (v : V) (n mk m N : Nat) (ls : List Lk) (r fa bv tb : Addr) (kvs : List (Key × V)) (t : Int) (H8 : Hp) (σ : St) (H : Hp) : Prop := ∃ (c u : Nat) (v10 v11 : Option V) (w : V) (tc : Int), σ = [some (.int (n : Int)), some v, some (.int (mk : Int)), some (.ref r), some (.ref fa), some (.ref bv), some (.ref tb), some (.int (c : Int)), some (.int t), some (.int (u : Int)), v10, v11] ∧ Same H8 H ∧ valV kvs (.inl (c : Int)) = some w ∧ CostV H8 w tc ∧ u < 2 ^ N ∧ oddE ls u N = mk ^^^ RM (fun i => (bl mk).getD i 0) c m ∧ cstU ls u N ≤ t - tc
def spPaired (TT : Addr) : Sp := fun vs H Q _ => ∃ (v : V) (n mk : Nat) (ls : List Lk), vs = [.int (n : Int), v, .int (mk : Int)] ∧ LnAt H v ls ∧ Lok n ls ∧ 1 ≤ n ∧ Conn n ls ∧ mk < 2 ^ n ∧ (bl mk).length % 2 = 0 ∧ (bl mk).length ≤ 14 ∧ Tb lqF lpF TT H ∧
  ∀ (t : Addr) (cost : Int) (u : Nat) H', SmT H H' → Tb lqF lpF TT H' → H' t = some (.tup [.int cost, .int (u : Int)]) → u < 2 ^ ls.length → oddE ls u ls.length = mk → Opt (farD ls) (bl mk) cost → cstU ls u ls.length ≤ cost → Q (.ref t) H'
def RwA (ls : List Lk) (mk : Nat) (H : Hp) (v : V) (s : Nat) : Prop := ∃ p, v = V.ref p ∧ H p = some (.lst ((bl mk).map fun x => V.int (farD ls s x)))
noncomputable def dR (ls : List Lk) (mk : Nat) (i j : Nat) : Int := farD ls ((bl mk).getD i 0) ((bl mk).getD j 0)
section
variable {P : Program} {w : World} {K : PySem.W.Frag} {mg : Str → Option Value} {base : Heap}
theorem sc_paired : FnScope ["many", "links", "marks", "rooms", "found", "between", "table", "left", "cost", "used", "first", "mate"] ["many", "links", "marks"] (defScope s_paired) := ⟨rfl, rfl, rfl, by decide +kernel, rfl, by decide +kernel, by decide +kernel⟩
theorem ok_paired {TT f f1 f2 f3 f4 f5 f6 f7 f8 : Addr} {fd fd1 fd2 fd3 fd4 fd5 fd6 fd7 fd8 : FuncData} (F : Fun K "paired" "paired" s_paired f fd) (T : Txt mg) (G_refuse_marks : Cal P w K mg base 4 "refuse_marks" ["many", "links", "marks"] spRef f1 fd1) (G_bits : Cal P w K mg base 1 "bits" ["mask"] spBits f2 fd2) (G_fares : Cal P w K mg base 2 "fares" ["many", "links", "start"] (spFares TT) f3 fd3)
    (G_chosen_of : Cal P w K mg base 1 "chosen_of" ["entries", "numbers"] spChosen f4 fd4) (G_new_table : Cal P w K mg base 1 "new_table" [] spTable f5 fd5) (GL : ∀ (D : Nat → Nat → Int) (m : Nat), (∀ a b, D a b = D b a) → Cal P w K mg base 10 "laid_in_pairs" ["between", "chosen", "table"] (spLaid D m 8) f6 fd6)
    (G_mask_of : Cal P w K mg base 1 "mask_of" ["places"] (spMask K) f7 fd7) (G_row_to : Cal P w K mg base 2 "row_to" ["links", "via", "room"] spRow f8 fd8) : FnOk P w K mg base CX0 11 f fd ["many", "links", "marks"] (spPaired TT) := by
  refine F.ok sc_paired (fun vs H Q E h => ?_) (fun cdv A outer s H vs Q E hr h => ?_)
  · obtain ⟨v, n, mk, ls, rfl, _⟩ := h
    rfl
  obtain ⟨v, n, mk, ls, rfl, hV, ok, n1, hc, hmk, ev, few, tb0, kk⟩ := h
  have hu := hu_of hr
  have n40 := ok.n1
  have l60 := ok.l9
  have G_laid_in_pairs := GL (dR ls mk) (bl mk).length (fun a b => far_sy _ _ _)
  have mlt : mk < 1099511627776 := by
    have h1 : 2 ^ n ≤ 2 ^ 40 := Nat.pow_le_pow_right (by decide) n40
    have e40 : (2 : Nat) ^ 40 = 1099511627776 := by decide
    omega
  have rlt : ∀ x ∈ bl mk, x < n := fun x hx => bl_lt hmk hx
  refine ⟨_, (pss_cons (ps_expr (pe_call G_refuse_marks.ok (hr.mono (by decide)) rfl G_refuse_marks.mg G_refuse_marks.kp G_refuse_marks.bn .nil pass0 (pa_cons (pv 0) (pa_cons (pv 1) (pa_cons (pv 2) pa_nil)))))
      (pss_cons (ps_set (i := 3) sc_paired.nd rfl (Or.inr rfl) (pe_call G_bits.ok (hr.mono (by decide)) rfl G_bits.mg G_bits.kp G_bits.bn .nil pass0 (pa_cons (pv 2) pa_nil)))
      (pss_cons (ps_setCompG (i := 4) rfl sc_paired.nd rfl rfl (fr := [("many", 0), ("links", 1)]) (xs := ["room"]) (CompG.of (by rfl) (by decide +kernel) (by rfl) (by decide +kernel) (by intro p hp; simp only [List.mem_cons, List.not_mem_nil, or_false] at hp; rcases hp with rfl | rfl <;> exact ⟨rfl, rfl⟩) (by decide +kernel) (by intro p hp; simp only [List.mem_cons, List.not_mem_nil, or_false] at hp; rcases hp with rfl | rfl <;> rfl)) (pi_list (pv 3)) (fun C ex s H => (pg_name (i := 0) (show (["room", "many", "links"] : List Str).Nodup from by decide +kernel) rfl (Or.inl rfl))) (fun C ex s H => pts_nil) (fun C ex s H => (pe_call G_fares.ok (hr.mono (by decide)) rfl G_fares.mg G_fares.kp G_fares.bn .nil pass0 (pa_cons (pv 1) (pa_cons (pv 2) (pa_cons (pv 0) pa_nil))))))
      (pss_cons (ps_setCompG (i := 5) rfl sc_paired.nd rfl rfl (fr := [("rooms", 3)]) (xs := ["told", "via"]) (CompG.of (by rfl) (by decide +kernel) (by rfl) (by decide +kernel) (by intro p hp; simp only [List.mem_cons, List.not_mem_nil, or_false] at hp; rcases hp with rfl <;> exact ⟨rfl, rfl⟩) (by decide +kernel) (by intro p hp; simp only [List.mem_cons, List.not_mem_nil, or_false] at hp; rcases hp with rfl <;> rfl)) (pi_list (pv 4)) (fun C ex s H => (pgK_tup (n := 2) (K := K) rfl rfl (pgs_cons (pg_name (i := 0) (show (["told", "via", "rooms"] : List Str).Nodup from by decide +kernel) rfl (Or.inl rfl)) (pgs_cons (pg_name (i := 1) (show (["told", "via", "rooms"] : List Str).Nodup from by decide +kernel) rfl (Or.inl rfl)) pgs_nil)))) (fun C ex s H => pts_nil) (fun C ex s H => (pe_call G_chosen_of.ok (hr.mono (by decide)) rfl G_chosen_of.mg G_chosen_of.kp G_chosen_of.bn .nil pass0 (pa_cons (pv 0) (pa_cons (pv 2) pa_nil)))))
      (pss_cons (ps_set (i := 6) sc_paired.nd rfl (Or.inl rfl) (pe_call0 G_new_table.ok (hr.mono (by decide)) rfl G_new_table.mg G_new_table.kp G_new_table.bn .nil pass0))
      (pss_cons (ps_set (i := 7) sc_paired.nd rfl (Or.inl rfl) (pe_op op_sub (pe_op op_shl pe_int (pe_callB call_len_seq (by rfl) T.n_len bt_len (pa_cons (pv 3) pa_nil))) pe_int))
      (pss_cons (ps_set (i := 8) sc_paired.nd rfl (Or.inl rfl) (pe_ix ix_tup (pe_call G_laid_in_pairs.ok (hr.mono (by decide)) rfl G_laid_in_pairs.mg G_laid_in_pairs.kp G_laid_in_pairs.bn .nil pass0 (pa_cons (pv 5) (pa_cons (pv 7) (pa_cons (pv 6) pa_nil)))) pe_int (fun _ _ => rfl)))
      (pss_cons (ps_set (i := 9) sc_paired.nd rfl (Or.inl rfl) pe_int)
      (pss_cons (ps_while PassesOwn.never (pt_cmpR op_ne (pv 7) pe_int (nomark _)) (pss_cons (ps_set (i := 10) sc_paired.nd rfl (Or.inl rfl) (pe_ix ix_tup (pe_dget hu (pv 6) (pv 7) (fun _ _ => rfl)) pe_int (fun _ _ => rfl)))
      (pss_cons (ps_set (i := 11) sc_paired.nd rfl (Or.inl rfl) (pe_ix ix_tup (pe_dget hu (pv 6) (pv 7) (fun _ _ => rfl)) pe_int (fun _ _ => rfl)))
      (pss_cons (ps_set (i := 9) sc_paired.nd rfl (Or.inl rfl) (pe_op op_xor (pv 9) (pe_call G_mask_of.ok (hr.mono (by decide)) rfl G_mask_of.mg G_mask_of.kp G_mask_of.bn .nil pass0 (pa_cons (pe_call G_row_to.ok (hr.mono (by decide)) rfl G_row_to.mg G_row_to.kp G_row_to.bn .nil pass0 (pa_cons (pv 1) (pa_cons (pe_ix ix_tup (pe_ix ix_list (pv 4) (pv 10) (fun _ _ => rfl)) pe_int (fun _ _ => rfl)) (pa_cons (pe_ix ix_list (pv 3) (pv 11) (fun _ _ => rfl)) pa_nil)))) pa_nil))))
      (pss_one (ps_set (i := 7) sc_paired.nd rfl (Or.inl rfl) (pe_op op_xor (pe_op op_xor (pv 7) (pe_op op_shl pe_int (pv 10))) (pe_op op_shl pe_int (pv 11)))))))))
      (pss_one (ps_ret (pe_tup (pa_cons (pv 8) (pa_cons (pv 9) pa_nil)))))))))))))), ?_⟩
  refine ⟨_, rfl, _, rfl, _, rfl, v, n, mk, ls, rfl, hV, ok, n1, hc, hmk, ev, few, fun H1 s1 => ?_⟩
  refine ⟨_, rfl, (mk : Int), rfl, by omega, by omega, fun r H2 s2 hr0 hr2 => ?_⟩
  rw [Int.toNat_natCast] at hr2
  have s12 := s1.trans s2
  have tb2 := tb_same tb0 s12
  have hr2' : H2 r = some (.lst ((bl mk).map iV)) := hr2
  have lenm : ((bl mk).map iV).length = (bl mk).length := List.length_map ..
  refine ⟨_, rfl, r, rfl, ⟨_, SqL.of hr2'⟩, compG_list (K := K) (xs := (bl mk).map iV) (fun i zs H3 => SmT H2 H3 ∧ Tb lqF lpF TT H3 ∧ LsAt (FdAt n ls) H3 zs ((bl mk).take i)) (Nat.le_of_lt (small1000 (by omega))) ⟨fun _ _ _ e => e, tb2, LsAt.nil⟩ (fun i zs H3 _ z => SqL.of (z.1.lst hr2')) ?_ ?_ ?_⟩
  · rintro i x zs H3 hx ⟨sm3, tb3, hZ⟩
    rw [List.getElem?_map] at hx
    obtain ⟨k, hk, rfl⟩ := Option.map_eq_some_iff.mp hx
    refine ⟨rfl, yesT ⟨_, rfl, _, rfl, _, rfl, v, n, k, ls, rfl, LnAt.smT (hV.mono s12) sm3, ok, rlt k (List.mem_of_getElem? hk), tb3, fun t ta va TL VL H4 sm4 tb4 _ _ ht hta hva fi => ?_⟩⟩
    have sm34 := TbS.smT sm4 tb3
    refine ⟨sm3.trans sm34, tb4, ?_⟩
    rw [List.take_add_one, hk]
    exact (hZ.imp fun _ _ q => q.mono sm34).snoc ⟨t, ta, va, TL, VL, rfl, ht, hta, hva, fi⟩
  · rintro zs H3 ⟨sm3, tb3, hZ⟩ fa hfa
    rw [lenm, List.take_length] at hZ
    have z4 := same_new hfa (.lst zs)
    have sm24 : SmT H2 (upd H3 fa (.lst zs)) := sm3.trans (.of z4)
    have tb4 := tb_same tb3 z4
    have hZ4 : LsAt (FdAt n ls) (upd H3 fa (.lst zs)) zs (bl mk) := hZ.imp fun _ _ q => q.mono (.of z4)
    have gfa : (upd H3 fa (.lst zs)) fa = some (.lst zs) := upd_same
    generalize upd H3 fa (.lst zs) = H4 at sm24 tb4 hZ4 gfa
    have zl := hZ4.1
    have hr4 := sm24.lst hr2'
    refine ⟨_, rfl, fa, rfl, ⟨_, SqL.of gfa⟩, compG_list (K := K) (xs := zs) (fun i ws H5 => Same H4 H5 ∧ LsAt (RwA ls mk) H5 ws ((bl mk).take i)) (Nat.le_of_lt (small1000 (by omega))) ⟨fun _ _ e => e, LsAt.nil⟩ (fun i ws H5 _ z => SqL.of (z.1 _ _ gfa)) ?_ ?_ ?_⟩
    · rintro i x ws H5 hx ⟨s5, hW⟩
      obtain ⟨s0, hs0, t, ta, va, TL, VL, rfl, ht, hta, hva, fi⟩ := hZ4.get hx
      have slt := rlt s0 (List.mem_of_getElem? hs0)
      refine ⟨t, _, rfl, SqT.of (s5 _ _ ht), rfl, _, _, rfl, _, _, rfl, rfl, rfl, yesT ⟨_, rfl, _, rfl, ta, r, _, (bl mk).map fun x => V.int (farD ls s0 x), bl mk, rfl, s5 _ _ hta, s5 _ _ hr4, List.length_map .., by omega, fun j k hk => ?_, fun q H6 s6 hq0 hq => ?_⟩⟩
      · refine ⟨.int (farD ls s0 k), ?_, by rw [List.getElem?_map, hk]; rfl⟩
        exact oV_at (fi.is hc slt (rlt k (List.mem_of_getElem? hk)))
      · refine ⟨s5.trans s6, ?_⟩
        rw [List.take_add_one, hs0]
        exact (hW.imp fun _ _ ⟨p, e, z⟩ => ⟨p, e, s6 _ _ z⟩).snoc ⟨q, rfl, hq⟩
    · rintro ws H5 ⟨s5, hW⟩ bv hbv
      rw [zl, List.take_length] at hW
      have z6 := same_new hbv (.lst ws)
      refine ⟨rfl, fun tb t0 H7 s7 htb0 htb ht0 => ?_⟩
      have s57 : Same H4 H7 := s5.trans (z6.trans s7)
      have hW7 : LsAt (RwA ls mk) H7 ws (bl mk) := hW.imp fun _ _ ⟨p, e, z⟩ => ⟨p, e, s7 _ _ (z6 _ _ z)⟩
      have hbv7 : H7 bv = some (.lst ws) := s7 _ _ upd_same
      have at' : ∀ i, i < (bl mk).length → (bl mk)[i]? = some ((bl mk).getD i 0) := fun i hi => by rw [List.getD_eq_getElem?_getD, List.getElem?_eq_getElem hi]; rfl
      have bt : BtAt H7 (.ref bv) (dR ls mk) (bl mk).length := ⟨bv, ws, rfl, hbv7, fun i hi => by
        obtain ⟨y, hy, p, rfl, hp⟩ := hW7.2 i _ (at' i hi)
        exact ⟨p, _, hy, hp, fun k hk => by rw [List.getElem?_map, at' k hk]; rfl⟩⟩
      have ti : TI H7 (dR ls mk) (bl mk).length [(.inl ((0 : Nat) : Int), .ref t0)] := ⟨(fun k w e => by
        by_cases c : (Sum.inl ((0 : Nat) : Int) : Key) = k
        · rw [valV_pos c] at e
          cases e
          exact ⟨0, c.symm, Nat.two_pow_pos _, .inl ⟨rfl, t0, _, _, rfl, ht0⟩⟩
        · rw [valV_neg c] at e
          cases e), ⟨_, valV_pos rfl⟩, List.nodup_cons.mpr ⟨(by simp), List.nodup_nil⟩⟩
      have hr7 := s57 _ _ hr4
      have tb7 := tb_same tb4 s57
      have eL : (1 : Int) * 2 ^ ((((bl mk).map iV).length : Nat) : Int).toNat - 1 = ((2 ^ (bl mk).length - 1 : Nat) : Int) := by
        rw [lenm, shlN]
        have := Nat.two_pow_pos (bl mk).length
        omega
      refine ⟨_, rfl, r, _, rfl, .inl (SqL.of hr7), _, _, rfl, rfl, ⟨by omega, by rw [lenm]; omega, by decide⟩, _, _, rfl, rfl, ?_⟩
      simp only [eL]
      have lfull : (bl (2 ^ (bl mk).length - 1)).length = (bl mk).length := by rw [(bl_full _).length_eq, List.length_range]
      refine ⟨_, rfl, _, rfl, _, rfl, .ref bv, tb, 2 ^ (bl mk).length - 1, _, rfl, bt, htb, ti, by have := Nat.two_pow_pos (bl mk).length; omega, few, by rw [lfull]; omega, by rw [lfull]; exact ev, fun w t kvs' H8 sT hT' ti' gr hv cv op => ?_⟩
      have lt78 := LT.tbS sT htb
      obtain ⟨va, y, z, rfl, hva⟩ := id cv
      refine ⟨va, _, 0, _, rfl, rfl, SqT.of hva, a30, ?_⟩
      have optR : Opt (farD ls) (bl mk) t := Opt.rooms (bl_nd mk) op
      have tb8 : Tb lqF lpF TT H8 := tb_keep tb7 fun b hb => by
        have hs : ∃ o, H7 b = some o ∧ b ≠ tb := by
          rcases hb with rfl | ⟨c', hb⟩
          · rcases tb7 with q | ⟨_, q, _⟩
            · exact ⟨_, q, fun z => by rw [z, htb] at q; cases q⟩
            · exact ⟨_, q, fun z => by rw [z, htb] at q; cases q⟩
          · exact ⟨_, hb, fun z => by rw [z, htb] at hb; cases hb⟩
        obtain ⟨o, h1, h2⟩ := hs
        rw [h1]
        exact sT _ _ h2 h1
      have smT8 : SmT H H8 := fun b o no e => by
        have e4 := sm24 b o no (s12 _ _ e)
        have e7 := s57 _ _ e4
        refine sT _ _ (fun z => ?_) e7
        subst z
        have := same_no (s5.trans z6) htb0
        rw [this] at e4; cases e4
      have hZ8 : LsAt (FdAt n ls) H8 zs (bl mk) := hZ4.imp fun _ _ q => (q.lt (LT.same s57)).lt lt78
      have hfa8 := lt78.1 _ _ (s57 _ _ gfa)
      have hr8 := lt78.1 _ _ hr7
      have hV8 : LnAt H8 v ls := (LnAt.smT hV smT8)
      refine while_by (PrI v n mk (bl mk).length ls.length ls r fa bv tb kvs' t H8) (fun σ _ => match σ with | [_, _, _, _, _, _, _, some (.int c), _, _, _, _] => c.toNat | _ => 0) ⟨2 ^ (bl mk).length - 1, 0, _, _, _, t, rfl, fun _ _ e => e, hv, cv, Nat.two_pow_pos _, by rw [oddE_zero, RM_all, Nat.xor_self], by rw [cstU_zero]; omega⟩ ?_ ?_
      · rintro σ H9 ⟨c, u, v10, v11, w, tc, rfl, s9, hw, cw, ult, ou, cu⟩
        obtain ⟨c', ec', clt, en⟩ := ti'.en _ _ hw
        have ecc : c' = c := by
          have : (c : Int) = (c' : Int) := by injection ec'
          omega
        subst ecc
        refine ⟨_, rfl, rfl, _, rfl, ?_⟩
        by_cases c0 : c' = 0
        · subst c0
          refine iteNS rfl ?_
          have t0' : tc = 0 := by
            rcases en with ⟨_, q⟩ | ⟨_, f, _, _, _, _, _, _, q, _⟩
            · exact cw.uniq q
            · rw [bl_zero] at q; cases q
          refine ⟨_, rfl, _, rfl, (by show 2 ≤ sizeLine; decide), fun t9 ht9 => ?_⟩
          have z9 := same_new ht9 (.tup [.int t, .int (u : Int)])
          refine kk t9 t u _ (smT8.trans (.of (s9.trans z9))) (tb_same tb8 (s9.trans z9)) upd_same ult ?_ optR (by omega)
          rw [ou, RM_zero, Nat.xor_zero]
        · refine ite2 (fun _ => ?_) (fun z => absurd (by rw [decide_eq_false (fun y => c0 (by have := V.int.inj y; omega))]; rfl) z)
          obtain ⟨tt, f, g, a, vr, tr, rfl, ha, hf, hg, fg, hvr, cvr, ett, _⟩ : ∃ (t : Int) (f g : Nat) (a : Addr) (vr : V) (tr : Int), w = .ref a ∧ H8 a = some (.tup [.int t, .int (f : Int), .int (g : Int)]) ∧ f ∈ bl c' ∧ g ∈ bl c' ∧ f ≠ g ∧ valV kvs' (.inl ((cut2 c' f g : Nat) : Int)) = some vr ∧ CostV H8 vr tr ∧ t = dR ls mk f g + tr ∧ Opt (dR ls mk) (bl c') t := by
            rcases en with ⟨q, _⟩ | q
            · exact absurd q c0
            · exact q
          have etc : tc = tt := cw.uniq ⟨a, _, _, rfl, ha⟩
          have flt := bl_lt clt hf
          have glt := bl_lt clt hg
          have hT9 := s9 _ _ hT'
          have ha9 := s9 _ _ ha
          have dg : DGet H9 tb (.int (c' : Int)) (some (.ref a)) := by have := DGet.k (k := .inl ((c' : Nat) : Int)) hT9; rw [hw] at this; exact this
          refine ⟨_, rfl, _, rfl, tb, _, rfl, dg, a, _, 1, _, rfl, rfl, SqT.of ha9, a31, ?_⟩
          refine ⟨_, rfl, _, rfl, tb, _, rfl, dg, a, _, 2, _, rfl, rfl, SqT.of ha9, a32, ?_⟩
          obtain ⟨y, hy, tF, taF, vaF, TL, VL, rfl, htF, htaF, hvaF, fi⟩ := hZ8.2 f _ (at' f flt)
          have gl := rlt _ (List.mem_of_getElem? (at' g glt))
          have fl := rlt _ (List.mem_of_getElem? (at' f flt))
          have xg := fi.is hc fl gl
          obtain ⟨j, up⟩ := fi.up _ _ xg
          obtain ⟨ks, pth, kl⟩ := up.path
          have sh := up.short fi.vs
          have vl := fi.vl
          obtain ⟨j1, j2, j3⟩ := pth.join fi
          have j3' := j3 _ xg
          refine ⟨_, rfl, _, rfl, _, rfl, _, rfl, fa, _, _, _, rfl, rfl, SqL.of (s9 _ _ hfa8), atI_nat hy, tF, _, 1, _, rfl, rfl, SqT.of (s9 _ _ htF), at1, _, rfl, _, rfl, r, _, _, _, rfl, rfl, SqL.of (s9 _ _ hr8), atI_nat (show ((bl mk).map iV)[g]? = some (V.int (((bl mk).getD g 0 : Nat) : Int)) by rw [List.getElem?_map, at' g glt]; rfl), v, vaF, (bl mk).getD g 0, (bl mk).getD f 0, ls, VL, ks, rfl, hV8.mono s9, s9 _ _ hvaF, fi.vs, pth, by omega, fun q H10 s10 hq => ?_⟩
          refine ⟨q, ks.reverse, rfl, SqL.of hq, fun k hk => by have := j1 k (List.mem_reverse.mp hk); omega, _, _, rfl, rfl, ?_⟩
          have ex : Builtin.bitXor (u : Int) ((maskL ks.reverse : Nat) : Int) = ((u ^^^ maskL ks : Nat) : Int) := by rw [maskL_rev, xorN]
          simp only [ex]
          refine ⟨_, rfl, _, rfl, _, _, rfl, rfl, ⟨by omega, by omega, by decide⟩, _, _, rfl, rfl, _, rfl, _, _, rfl, rfl, ⟨by omega, by omega, by decide⟩, _, _, rfl, rfl, ?_⟩
          have ec : Builtin.bitXor (Builtin.bitXor (c' : Int) (1 * 2 ^ ((f : Nat) : Int).toNat)) (1 * 2 ^ ((g : Nat) : Int).toNat) = ((cut2 c' f g : Nat) : Int) := by rw [shlN, shlN, xorN, xorN]; rfl
          simp only [ec]
          have cx := cstU_xor ls (fun l hl => (ok.w0 l hl).1) u (maskL ks) ls.length (Nat.le_refl _)
          refine ⟨⟨cut2 c' f g, u ^^^ maskL ks, some (.int (f : Int)), some (.int (g : Int)), vr, tr, rfl, s9.trans s10, hvr, cvr, Nat.xor_lt_two_pow ult (maskL_lt j1), ?_, ?_⟩, ?_⟩
          · rw [oddE_xor, ou, j2]
            unfold cut2
            rw [RM_xor, RM_xor, RM_pow, RM_pow, if_pos flt, if_pos glt, Nat.xor_assoc, Nat.xor_assoc]
          · have ed : dR ls mk f g = farD ls ((bl mk).getD f 0) ((bl mk).getD g 0) := rfl
            omega
          · show ((cut2 c' f g : Nat) : Int).toNat < ((c' : Nat) : Int).toNat
            have := cut2_less hf hg fg
            omega
      · rintro σ H9 Q1 Q2 hi ⟨v1, e1, e2, b, e3, q⟩
        exact ⟨v1, e1, e2, b, e3, hi _ _ q⟩
    · rintro i ws H5 ⟨_, hW⟩
      rw [hW.1, List.length_take]
      omega
  · rintro i zs H3 ⟨_, _, hZ⟩
    rw [hZ.1, List.length_take]
    omega
end

end KF


namespace KF
open PySem L2
local macro_rules | `(tactic| walk_at "cc") => `(tactic| first | exact ⟨by decide, by decide⟩ | (show (0 : Int) < _; decide) | (show (0 : Int) < _; omega) | (show (0 : Int) ≤ _; omega) | exact ⟨by decide, by decide, by decide⟩ | exact ⟨by omega, by omega, by decide⟩ | exact Or.inl ⟨by decide, by decide⟩ | exact Or.inl ⟨by omega, by omega⟩)
local macro_rules | `(tactic| walk_at "rd") => `(tactic| repeat (first | refine ⟨_, rfl, ?_⟩ | refine ⟨_, _, rfl, rfl, ?_⟩ | refine ⟨rfl, ?_⟩ | (refine ⟨?cc, ?_⟩; (case cc => walk_at "cc"))))

def cellD (ns : List Int) (k : Nat) : Int := ns.getD k 0
def spCell (K : PySem.W.Frag) : Sp := fun vs H Q _ => ∃ (a : Addr) (k : Nat) (ns : List Int), vs = [.ref a, .int (k : Int)] ∧ SqL K H a (ns.map V.int) ∧ Q (.int (cellD ns k)) H
def spWhole : Sp := fun vs H Q _ => ∃ i : Int, vs = [.int i] ∧ Q (.bl true) H
def spOddE : Sp := fun vs H Q _ => ∃ (v : V) (n u : Nat) (ls : List Lk), vs = [v, .int (u : Int)] ∧ LnAt H v ls ∧ Lok n ls ∧ Q (.int ((oddE ls u ls.length : Nat) : Int)) H
def spNames : Sp := fun vs H Q _ => ∃ (c : Int) (n : Nat), vs = [.int c, .int (n : Int)] ∧ n ≤ 40 ∧ ∀ (p : Addr) (rs : List Nat) H', Same H H' → H p = none → H' p = some (.lst (rs.map iV)) → rs.length = n → rs.Nodup → (∀ x ∈ rs, x < n) → Q (.ref p) H'
theorem bit_is (u i : Nat) : (Builtin.bitAnd ((u : Int) / 2 ^ ((i : Nat) : Int).toNat) 1 = 1) ↔ u.testBit i = true := by
  have e1 : (u : Int) / 2 ^ ((i : Nat) : Int).toNat = ((u / 2 ^ i : Nat) : Int) := by
    rw [Int.toNat_natCast]
    push_cast
    rfl
  have e2 : Builtin.bitAnd ((u / 2 ^ i : Nat) : Int) 1 = ((u / 2 ^ i &&& 1 : Nat) : Int) := andN _ 1
  rw [e1, e2, Nat.and_one_is_mod, Nat.testBit_eq_decide_div_mod_eq, decide_eq_true_iff]
  omega
section
variable {P : Program} {w : World} {K : PySem.W.Frag} {mg : Str → Option Value} {base : Heap}
theorem sc_law_cell_at : FnScope ["script", "k"] ["script", "k"] (defScope s_law_cell_at) := ⟨rfl, rfl, rfl, by decide +kernel, rfl, by decide +kernel, by decide +kernel⟩
theorem ok_cell {f : Addr} {fd : FuncData} (F : Fun K "_law_cell_at" "_law_cell_at" s_law_cell_at f fd) (T : Txt mg) : FnOk P w K mg base CX0 1 f fd ["script", "k"] (spCell K) := by
  refine F.ok sc_law_cell_at (fun vs H Q E h => ?_) (fun cdv A outer s H vs Q E hr h => ?_)
  · obtain ⟨a, k, ns, rfl, _⟩ := h
    rfl
  obtain ⟨a, k, ns, rfl, hS, q⟩ := h
  refine ⟨_, (pss_cons (ps_if (pt_cmpR op_lt (pv 1) (pe_callB call_len_seq (by rfl) T.n_len bt_len (pa_cons (pv 0) pa_nil)) (nomark _)) (pss_one (ps_ret (pe_ix ix_list (pv 0) (pv 1) (fun _ _ => rfl)))) pss_nil)
      (pss_one (ps_ret pe_int))), ?_⟩
  refine ⟨_, rfl, _, rfl, a, _, rfl, .inl hS, _, _, rfl, rfl, _, rfl, ?_⟩
  refine ite2 (fun c => ?_) (fun c => ?_)
  · have c' : (k : Int) < ((ns.map V.int).length : Int) := of_decide_eq_true c
    rw [List.length_map] at c'
    have hk : k < ns.length := by omega
    have hat : atI (ns.map V.int) (k : Int) = some (.int (cellD ns k)) := atI_nat (by rw [List.getElem?_map, List.getElem?_eq_getElem hk]; unfold cellD; rw [List.getD_eq_getElem?_getD, List.getElem?_eq_getElem hk]; rfl)
    exact ⟨_, rfl, _, rfl, a, _, _, _, rfl, rfl, hS, hat, q⟩
  · have c' : ¬ (k : Int) < ((ns.map V.int).length : Int) := fun z => c (decide_eq_true z)
    rw [List.length_map] at c'
    have e : cellD ns k = 0 := by unfold cellD; rw [List.getD_eq_getElem?_getD, List.getElem?_eq_none (by omega)]; rfl
    rw [e] at q
    exact q
theorem sc_law_whole : FnScope ["found"] ["found"] (defScope s_law_whole) := ⟨rfl, rfl, rfl, by decide +kernel, rfl, by decide +kernel, by decide +kernel⟩
theorem ok_whole {f : Addr} {fd : FuncData} (F : Fun K "_law_whole" "_law_whole" s_law_whole f fd) (T : Txt mg) : FnOk P w K mg base CX0 1 f fd ["found"] spWhole := by
  refine F.ok sc_law_whole (fun vs H Q E h => ?_) (fun cdv A outer s H vs Q E hr h => ?_)
  · obtain ⟨i, rfl, _⟩ := h
    rfl
  obtain ⟨i, rfl, k⟩ := h
  refine ⟨_, (pss_one (ps_ret (pe_and (pe_callB call_isi (by rfl) T.n_isinstance bt_isinstance (pa_cons (pv 0) (pa_cons (pe_bltn (v := .ty "int") rfl T.n_int bt_int rfl) pa_nil))) (pe_one (pe_not (pe_callB call_isi (by rfl) T.n_isinstance bt_isinstance (pa_cons (pv 0) (pa_cons (pe_bltn (v := .ty "bool") rfl T.n_bool bt_bool rfl) pa_nil)))))))), ?_⟩
  refine ⟨_, rfl, _, _, _, _, _, rfl, TyOf.int i, Or.inl ⟨_, rfl, rfl⟩, kit_ii K, _, rfl, iteT ?_⟩
  exact ⟨_, rfl, _, _, _, _, _, rfl, TyOf.int i, Or.inl ⟨_, rfl, rfl⟩, kit_ib K, _, rfl, k⟩
theorem sc_law_odd_ends : FnScope ["links", "used", "found", "k"] ["links", "used"] (defScope s_law_odd_ends) := ⟨rfl, rfl, rfl, by decide +kernel, rfl, by decide +kernel, by decide +kernel⟩
theorem ok_oddE {f : Addr} {fd : FuncData} (F : Fun K "_law_odd_ends" "_law_odd_ends" s_law_odd_ends f fd) (T : Txt mg) : FnOk P w K mg base CX0 1 f fd ["links", "used"] spOddE := by
  refine F.ok sc_law_odd_ends (fun vs H Q E h => ?_) (fun cdv A outer s H vs Q E hr h => ?_)
  · obtain ⟨v, n, u, ls, rfl, _⟩ := h
    rfl
  obtain ⟨v, n, u, ls, rfl, ⟨a, ys, rfl, hA, hL⟩, ok, q⟩ := h
  have n40 := ok.n1
  have l9 := ok.l9
  have yl := hL.1
  refine ⟨_, (pss_cons (ps_set (i := 2) sc_law_odd_ends.nd rfl (Or.inl rfl) pe_int)
      (pss_cons (ps_for PassesOwn.never rfl (pi_range1 rfl T.n_range (pa_cons (pe_callB call_len_seq (by rfl) T.n_len bt_len (pa_cons (pv 0) pa_nil)) pa_nil)) (pg_name (i := 3) sc_law_odd_ends.nd rfl (Or.inl rfl)) (pss_one (ps_if (pt_cmpR op_eq (pe_op op_and (pe_op op_shr (pv 1) (pv 3)) pe_int) pe_int (nomark _)) (pss_one (ps_set (i := 2) sc_law_odd_ends.nd rfl (Or.inl rfl) (pe_op op_xor (pe_op op_xor (pv 2) (pe_op op_shl pe_int (pe_ix ix_tup (pe_ix ix_list (pv 0) (pv 3) (fun _ _ => rfl)) pe_int (fun _ _ => rfl)))) (pe_op op_shl pe_int (pe_ix ix_tup (pe_ix ix_list (pv 0) (pv 3) (fun _ _ => rfl)) pe_int (fun _ _ => rfl)))))) pss_nil)))
      (pss_one (ps_ret (pv 2))))), ?_⟩
  refine ⟨_, rfl, a, _, rfl, .inl (SqL.of hA), _, rfl, by omega, by omega, for_range (n := ys.length) (fun i σ H2 => ∃ v3, σ = [some (.ref a), some (.int (u : Int)), some (.int ((oddE ls u i : Nat) : Int)), v3] ∧ H2 = H) ⟨_, rfl, rfl⟩ ?_ ?_⟩
  · rintro i σ H2 hi ⟨v3, rfl, rfl⟩
    have e0 : (0 : Int) + (i : Int) = (i : Int) := Int.zero_add _
    rw [e0]
    obtain ⟨l, hl⟩ : ∃ l, ls[i]? = some l := ⟨_, List.getElem?_eq_getElem (by omega)⟩
    obtain ⟨y, hy, t, rfl, ht⟩ := hL.2 i l hl
    obtain ⟨b1, b2⟩ := ok.sm l (List.mem_of_getElem? hl)
    refine ⟨_, rfl, _, rfl, _, _, rfl, rfl, (show (0 : Int) ≤ (i : Int) by omega), _, _, rfl, rfl, rfl, _, rfl, ?_⟩
    refine ite2 (fun c => ?_) (fun c => ?_)
    · have c' : u.testBit i = true := (bit_is u i).mp (V.int.inj (of_decide_eq_true c))
      refine ⟨_, rfl, _, rfl, _, rfl, a, _, _, _, rfl, rfl, SqL.of hA, atI_nat hy, t, _, 0, _, rfl, rfl, SqT.of ht, a30, _, _, rfl, rfl, ⟨by omega, by omega, by decide⟩, _, _, rfl, rfl, _, rfl, _, rfl, a, _, _, _, rfl, rfl, SqL.of hA, atI_nat hy, t, _, 1, _, rfl, rfl, SqT.of ht, a31, _, _, rfl, rfl, ⟨by omega, by omega, by decide⟩, _, _, rfl, rfl, ?_⟩
      have e : Builtin.bitXor (Builtin.bitXor ((oddE ls u i : Nat) : Int) (1 * 2 ^ ((l.1 : Nat) : Int).toNat)) (1 * 2 ^ ((l.2.1 : Nat) : Int).toNat) = ((oddE ls u (i + 1) : Nat) : Int) := by
        have eo : oddE ls u (i + 1) = oddE ls u i ^^^ endX l := by
          show (if u.testBit i = true then oddE ls u i ^^^ endX (lkA ls i) else oddE ls u i) = _
          rw [if_pos c', lkA_is hl]
        rw [shlN, shlN, xorN, xorN, eo, Nat.xor_assoc]
        rfl
      simp only [e]
      exact ⟨_, rfl, rfl⟩
    · have c' : ¬ u.testBit i = true := fun z => c (decide_eq_true (congrArg V.int ((bit_is u i).mpr z)))
      have e : oddE ls u (i + 1) = oddE ls u i := by
        show (if u.testBit i = true then _ else _) = _
        rw [if_neg c']
      exact ⟨_, by rw [e]; rfl, rfl⟩
  · rintro σ H2 ⟨v3, rfl, rfl⟩
    rw [yl]
    exact ⟨_, rfl, q⟩
theorem sc_law_names : FnScope ["cell", "many", "names", "room", "mixed"] ["cell", "many"] (defScope s_law_names) := ⟨rfl, rfl, rfl, by decide +kernel, rfl, by decide +kernel, by decide +kernel⟩
theorem ok_names {f : Addr} {fd : FuncData} (F : Fun K "_law_names" "_law_names" s_law_names f fd) (T : Txt mg) : FnOk P w K mg base CX0 1 f fd ["cell", "many"] spNames := by
  refine F.ok sc_law_names (fun vs H Q E h => ?_) (fun cdv A outer s H vs Q E hr h => ?_)
  · obtain ⟨c, n, rfl, _⟩ := h
    rfl
  obtain ⟨c, n, rfl, n40, kk⟩ := h
  refine ⟨_, (pss_cons (ps_set (i := 2) sc_law_names.nd rfl (Or.inl rfl) (pe_lst pa_nil))
      (pss_cons (ps_for PassesOwn.never rfl (pi_range1 rfl T.n_range (pa_cons (pv 1) pa_nil)) (pg_name (i := 3) sc_law_names.nd rfl (Or.inl rfl)) (pss_cons (ps_set (i := 4) sc_law_names.nd rfl (Or.inl rfl) (pe_op op_mod (pe_op op_mul (pe_op op_mul (pe_op op_add (pe_op op_mod (pv 0) pe_int) pe_int) (pe_op op_add (pv 3) pe_int)) pe_int) pe_int))
      (pss_one (ps_expr (pe_bm PySem.F.plainAttrs_list PySem.F.slot_list_insert PySem.F.type_list_insert mt_insert (pv 2) (pa_cons (pe_op op_mod (pv 4) (pe_op op_add (pv 3) pe_int)) (pa_cons (pv 3) pa_nil)))))))
      (pss_one (ps_ret (pv 2))))), ?_⟩
  refine ⟨(by show 0 ≤ sizeLine; decide), fun l hl => ?_⟩
  refine ⟨_, rfl, _, rfl, by omega, by omega, for_range (n := n) (fun i σ H2 => ∃ (v3 v4 : Option V) (rs : List Nat), σ = [some (.int c), some (.int (n : Int)), some (.ref l), v3, v4] ∧ Same H H2 ∧ H2 l = some (.lst (rs.map iV)) ∧ rs.length = i ∧ rs.Nodup ∧ ∀ x ∈ rs, x < i) ⟨_, _, [], rfl, same_new hl _, upd_same, rfl, List.nodup_nil, fun x h => nomatch h⟩ ?_ ?_⟩
  · rintro i σ H2 hi ⟨v3, v4, rs, rfl, s2, hl2, rl, nd, lt⟩
    have e0 : (0 : Int) + (i : Int) = (i : Int) := Int.zero_add _
    rw [e0]
    refine ⟨_, rfl, _, _, rfl, rfl, (by show (0 : Int) < 1000000007; decide), _, _, rfl, rfl, _, rfl, _, _, rfl, rfl, _, _, rfl, rfl, .inr ⟨by show -(2 ^ 64 : Int) < (i : Int) + 3; omega, by show (i : Int) + 3 < (2 ^ 64 : Int); omega⟩, _, _, rfl, rfl, .inr ⟨by decide, by decide⟩, _, _, rfl, rfl, (by show (0 : Int) < 2147483647; decide), ?_⟩
    obtain ⟨mx, emx⟩ : ∃ mx, (c % 1000000007 + 77) * ((i : Int) + 3) * 48271 % 2147483647 = mx := ⟨_, rfl⟩
    simp only [emx]
    have ip : (0 : Int) < (i : Int) + 1 := by omega
    have k0 := Int.emod_nonneg mx (show (i : Int) + 1 ≠ 0 by omega)
    have k1 := Int.emod_lt_of_pos mx ip
    refine ⟨_, rfl, .inl ⟨rfl, _, SqL.of hl2⟩, _, rfl, _, rfl, _, _, rfl, rfl, _, _, rfl, rfl, ip, _, rfl, l, _, _, _, rfl, rfl, hl2, k0, by rw [List.length_map, rl]; omega, small1000 (by rw [List.length_map]; omega), ?_⟩
    have ev : (rs.map iV).take (mx % ((i : Int) + 1)).toNat ++ V.int (i : Int) :: (rs.map iV).drop (mx % ((i : Int) + 1)).toNat = (rs.take (mx % ((i : Int) + 1)).toNat ++ i :: rs.drop (mx % ((i : Int) + 1)).toNat).map iV := by
      rw [List.map_append, List.map_cons, List.map_take, List.map_drop]
      rfl
    rw [ev]
    have pm : (rs.take (mx % ((i : Int) + 1)).toNat ++ i :: rs.drop (mx % ((i : Int) + 1)).toNat).Perm (i :: rs) := by
      have := List.perm_middle (a := i) (l₁ := rs.take (mx % ((i : Int) + 1)).toNat) (l₂ := rs.drop (mx % ((i : Int) + 1)).toNat)
      rw [List.take_append_drop] at this
      exact this
    refine ⟨_, _, _, rfl, same_upd s2 hl _, upd_same, by rw [pm.length_eq, List.length_cons, rl], pm.nodup_iff.mpr (List.nodup_cons.mpr ⟨fun z => by have := lt i z; omega, nd⟩), fun x hx => ?_⟩
    rcases List.mem_cons.mp (pm.mem_iff.mp hx) with z | z
    · omega
    · have := lt x z; omega
  · rintro σ H2 ⟨v3, v4, rs, rfl, s2, hl2, rl, nd, lt⟩
    exact ⟨_, rfl, kk l rs H2 s2 hl hl2 rl nd lt⟩
end

end KF


namespace KF
open PySem L2
local macro_rules | `(tactic| walk_at "cc") => `(tactic| first | exact ⟨by decide, by decide⟩ | (show (0 : Int) < _; decide) | (show (0 : Int) < _; omega) | (show (0 : Int) ≤ _; omega) | exact ⟨by decide, by decide, by decide⟩ | exact ⟨by omega, by omega, by decide⟩ | exact Or.inl ⟨by decide, by decide⟩ | exact Or.inl ⟨by omega, by omega⟩)
local macro_rules | `(tactic| walk_at "rd") => `(tactic| repeat (first | refine ⟨_, rfl, ?_⟩ | refine ⟨_, _, rfl, rfl, ?_⟩ | refine ⟨rfl, ?_⟩ | (refine ⟨?cc, ?_⟩; (case cc => walk_at "cc"))))

structure TxtL (mg : Str → Option Value) : Prop extends Txt mg where
  n_max : mg "max" = none
  n_sum : mg "sum" = none
  n_dict : mg "dict" = none
/-! the links, drawn -/
theorem Wk.mem {es ls : List Lk} (h : ∀ l ∈ es, l ∈ ls) {a b : Nat} {x : Int} (w : Wk es a b x) : Wk ls a b x := by
  induction w with
  | nil => exact .nil _
  | step _ hl he ih =>
    obtain ⟨j, hj, e⟩ := List.getElem_of_mem (h _ (List.mem_of_getElem? hl))
    exact .step ih (by rw [List.getElem?_eq_getElem hj, e]) he
theorem nd_all {n : Nat} {rs : List Nat} (nd : rs.Nodup) (lt : ∀ x ∈ rs, x < n) (l : rs.length = n) {b : Nat} (hb : b < n) : b ∈ rs := by
  by_cases c : b ∈ rs
  · exact c
  · have := nd_below n (b :: rs) (List.nodup_cons.mpr ⟨c, nd⟩) fun x hx => by
      rcases List.mem_cons.mp hx with rfl | hx
      · exact hb
      · exact lt x hx
    rw [List.length_cons] at this
    omega
theorem ls_rot {H : Hp} {ys : List V} {es : List Lk} (h : LsAt LkAt H ys es) (c : Nat) : LsAt LkAt H (ys.drop c ++ ys.take c) (es.drop c ++ es.take c) := by
  have hl := h.1
  refine ⟨by rw [List.length_append, List.length_append, List.length_drop, List.length_drop, List.length_take, List.length_take, hl], fun i x e => ?_⟩
  rw [List.getElem?_append, List.length_drop] at e ⊢
  rw [← hl] at e
  by_cases z : i < ys.length - c
  · rw [if_pos z, List.getElem?_drop] at e ⊢
    exact h.2 _ _ e
  · rw [if_neg z, List.getElem?_take] at e ⊢
    by_cases z2 : i - (ys.length - c) < c
    · rw [if_pos z2] at e ⊢
      exact h.2 _ _ e
    · rw [if_neg z2] at e; cases e
theorem cut_hi {xs : List V} {c : Nat} (h : c ≤ xs.length) : cutV xs (some (c : Int)) none = xs.drop c := by
  unfold cutV
  rw [HT.sIx_nat, Nat.min_eq_left h]
  show (xs.drop c).take (xs.length - c) = _
  exact List.take_of_length_le (by rw [List.length_drop]; exact Nat.le_refl _)
theorem cut_lo {xs : List V} {c : Nat} (h : c ≤ xs.length) : cutV xs none (some (c : Int)) = xs.take c := by
  unfold cutV
  rw [HT.sIx_nat, Nat.min_eq_left h]
  show (xs.drop 0).take (c - 0) = _
  rw [List.drop_zero, Nat.sub_zero]
/-- what is drawn so far -/
structure DrI (n : Nat) (rs : List Nat) (es : List Lk) (i : Nat) : Prop where
  len : es.length = i
  sm : ∀ x ∈ es, x.1 < n ∧ x.2.1 < n
  w0 : ∀ x ∈ es, 0 ≤ x.2.2 ∧ x.2.2 ≤ (MM : Int)
  co : ∀ k, k ≤ i → k < n → ∃ x, Wk es (rs.getD 0 0) (rs.getD k 0) x
theorem DrI.put {n : Nat} {rs : List Nat} {es : List Lk} {i : Nat} (h : DrI n rs es i) {l : Lk} {o t : Nat} (hn : rs.length = n) (hlt : ∀ x ∈ rs, x < n) (ho : o < n) (ht : t < n) (w0 : 0 ≤ l.2.2 ∧ l.2.2 ≤ (MM : Int)) (e1 : l.1 = rs.getD o 0) (e2 : l.2.1 = rs.getD t 0)
    (g : i < n - 1 → (o = i + 1 ∧ t ≤ i) ∨ (t = i + 1 ∧ o ≤ i)) : DrI n rs (es ++ [l]) (i + 1) where
  len := by rw [List.length_append, h.len]; rfl
  sm := fun x hx => by
    have at' : ∀ k, k < n → rs.getD k 0 < n := fun k hk => by
      rw [List.getD_eq_getElem?_getD, List.getElem?_eq_getElem (by omega)]
      exact hlt _ (List.getElem_mem _)
    rcases List.mem_append.mp hx with hx | hx
    · exact h.sm x hx
    · rw [List.mem_singleton.mp hx, e1, e2]
      exact ⟨at' o ho, at' t ht⟩
  w0 := fun x hx => by
    rcases List.mem_append.mp hx with hx | hx
    · exact h.w0 x hx
    · rw [List.mem_singleton.mp hx]; exact w0
  co := fun k hk kn => by
    have old : ∀ k, k ≤ i → k < n → ∃ x, Wk (es ++ [l]) (rs.getD 0 0) (rs.getD k 0) x := fun k a b => by
      obtain ⟨x, hx⟩ := h.co k a b
      exact ⟨x, hx.mem fun l hl => List.mem_append_left _ hl⟩
    by_cases c : k ≤ i
    · exact old k c kn
    · have ek : k = i + 1 := by omega
      have hl : (es ++ [l])[i]? = some l := by rw [List.getElem?_append_right (by rw [h.len]; exact Nat.le_refl _), h.len, Nat.sub_self]; rfl
      rcases g (by omega) with ⟨g1, g2⟩ | ⟨g1, g2⟩
      · obtain ⟨x, hx⟩ := old t g2 ht
        have w := Wk.link hl (.inl rfl : isEnd l l.1)
        have eb : bey l l.1 = l.2.1 := by unfold bey; rw [if_pos rfl]
        rw [eb] at w
        have w' := w.rev
        rw [e1, e2] at w'
        rw [ek, ← g1]
        exact ⟨_, hx.trans w'⟩
      · obtain ⟨x, hx⟩ := old o g2 ho
        have w := Wk.link hl (.inl rfl : isEnd l l.1)
        have eb : bey l l.1 = l.2.1 := by unfold bey; rw [if_pos rfl]
        rw [eb, e1, e2] at w
        rw [ek, ← g1]
        exact ⟨_, hx.trans w⟩
theorem DrI.conn {n : Nat} {rs : List Nat} {es : List Lk} {i : Nat} (h : DrI n rs es i) (hn : rs.length = n) (nd : rs.Nodup) (hlt : ∀ x ∈ rs, x < n) (n1 : 1 ≤ n) (hi : n - 1 ≤ i) {ls : List Lk} (hm : ∀ l ∈ es, l ∈ ls) : Conn n ls := by
  have one : ∀ b, b < n → ∃ x, Wk es (rs.getD 0 0) b x := fun b hb => by
    obtain ⟨k, hk, e⟩ := List.getElem_of_mem (nd_all nd hlt hn hb)
    obtain ⟨x, hx⟩ := h.co k (by omega) (by omega)
    rw [List.getD_eq_getElem?_getD (i := k), List.getElem?_eq_getElem hk, e] at hx
    exact ⟨x, hx⟩
  intro b hb
  obtain ⟨x, hx⟩ := one 0 (by omega)
  obtain ⟨y, hy⟩ := one b hb
  exact ⟨_, (hx.rev.trans hy).mem hm⟩
section
variable {P : Program} {w : World} {K : PySem.W.Frag} {mg : Str → Option Value} {base : Heap}
end

end KF


namespace KF
open PySem L2
local macro_rules | `(tactic| walk_at "cc") => `(tactic| first | exact ⟨by decide, by decide⟩ | (show (0 : Int) < _; decide) | (show (0 : Int) < _; omega) | (show (0 : Int) ≤ _; omega) | exact ⟨by decide, by decide, by decide⟩ | exact ⟨by omega, by omega, by decide⟩ | exact Or.inl ⟨by decide, by decide⟩ | exact Or.inl ⟨by omega, by omega⟩)
local macro_rules | `(tactic| walk_at "rd") => `(tactic| repeat (first | refine ⟨_, rfl, ?_⟩ | refine ⟨_, _, rfl, rfl, ?_⟩ | refine ⟨rfl, ?_⟩ | (refine ⟨?cc, ?_⟩; (case cc => walk_at "cc"))))

section
variable {X : Cx}
end
/-! the costs, by taking or leaving each link: the mathematics -/
theorem oddE_lt {n : Nat} {ls : List Lk} (hl : ∀ l ∈ ls, l.1 < n ∧ l.2.1 < n) (u : Nat) : ∀ i, i ≤ ls.length → oddE ls u i < 2 ^ n
  | 0, _ => Nat.two_pow_pos n
  | i + 1, h => by
    have ih := oddE_lt hl u i (by omega)
    unfold oddE
    split
    · obtain ⟨l, e⟩ : ∃ l, ls[i]? = some l := ⟨_, List.getElem?_eq_getElem (by omega)⟩
      obtain ⟨l1, l2⟩ := hl l (List.mem_of_getElem? e)
      rw [lkA_is e]
      exact Nat.xor_lt_two_pow ih (Nat.xor_lt_two_pow (Nat.pow_lt_pow_right (by decide) l1) (Nat.pow_lt_pow_right (by decide) l2))
    · exact ih
theorem low_same {ls : List Lk} {u v : Nat} : ∀ i, (∀ j, j < i → u.testBit j = v.testBit j) → oddE ls u i = oddE ls v i ∧ cstU ls u i = cstU ls v i
  | 0, _ => ⟨rfl, rfl⟩
  | i + 1, h => by
    obtain ⟨h1, h2⟩ := low_same (ls := ls) (u := u) (v := v) i fun j hj => h j (by omega)
    unfold oddE cstU
    rw [h i (Nat.lt_succ_self i), h1, h2]
    exact ⟨rfl, rfl⟩
theorem leave_is (ls : List Lk) {u i : Nat} (h : u.testBit i = false) : oddE ls u (i + 1) = oddE ls u i ∧ cstU ls u (i + 1) = cstU ls u i := by
  have h' : ¬ u.testBit i = true := by rw [h]; exact Bool.false_ne_true
  constructor
  · show (if u.testBit i = true then _ else _) = _
    rw [if_neg h']
  · show (if u.testBit i = true then _ else _) = _
    rw [if_neg h']
theorem take_is {ls : List Lk} {u i : Nat} {l : Lk} (hl : ls[i]? = some l) (h : u.testBit i = true) : oddE ls u (i + 1) = oddE ls u i ^^^ endX l ∧ cstU ls u (i + 1) = cstU ls u i + l.2.2 := by
  constructor
  · show (if u.testBit i = true then _ else _) = _
    rw [if_pos h, lkA_is hl]
  · show (if u.testBit i = true then _ else _) = _
    rw [if_pos h, lkA_is hl]
section
variable {P : Program} {w : World} {K : PySem.W.Frag} {mg : Str → Option Value} {base : Heap}
end

end KF


namespace KF
open PySem L2
local macro_rules | `(tactic| walk_at "cc") => `(tactic| first | exact ⟨by decide, by decide⟩ | (show (0 : Int) < _; decide) | (show (0 : Int) < _; omega) | (show (0 : Int) ≤ _; omega) | exact ⟨by decide, by decide, by decide⟩ | exact ⟨by omega, by omega, by decide⟩ | exact Or.inl ⟨by decide, by decide⟩ | exact Or.inl ⟨by omega, by omega⟩)
local macro_rules | `(tactic| walk_at "rd") => `(tactic| repeat (first | refine ⟨_, rfl, ?_⟩ | refine ⟨_, _, rfl, rfl, ?_⟩ | refine ⟨rfl, ?_⟩ | (refine ⟨?cc, ?_⟩; (case cc => walk_at "cc"))))

/-! the marks -/
theorem low_clear : ∀ (m : Nat), 0 < m → ∃ p, m.testBit p = true ∧ m &&& (m - 1) = m ^^^ 2 ^ p := by
  intro m
  induction m using Nat.strongRecOn with
  | ind m ih =>
    intro h0
    by_cases c : m % 2 = 1
    · refine ⟨0, by rw [Nat.testBit_zero]; simpa using c, Nat.eq_of_testBit_eq fun j => ?_⟩
      rw [Nat.testBit_and, Nat.testBit_xor, Nat.testBit_two_pow]
      cases j with
      | zero =>
        have e : (m - 1).testBit 0 = false := by rw [Nat.testBit_zero]; simp; omega
        have e1 : m.testBit 0 = true := by rw [Nat.testBit_zero]; simpa using c
        rw [e, e1]; rfl
      | succ j =>
        rw [Nat.testBit_succ, Nat.testBit_succ, show (m - 1) / 2 = m / 2 by omega]
        simp
    · obtain ⟨p, h1, h2⟩ := ih (m / 2) (by omega) (by omega)
      refine ⟨p + 1, by rw [Nat.testBit_succ]; exact h1, Nat.eq_of_testBit_eq fun j => ?_⟩
      rw [Nat.testBit_and, Nat.testBit_xor, Nat.testBit_two_pow]
      cases j with
      | zero =>
        have e1 : m.testBit 0 = false := by rw [Nat.testBit_zero]; simpa using c
        rw [e1]; simp
      | succ j =>
        have q := congrArg (fun z => Nat.testBit z j) h2
        simp only [Nat.testBit_and, Nat.testBit_xor, Nat.testBit_two_pow] at q
        rw [Nat.testBit_succ, Nat.testBit_succ, show (m - 1) / 2 = m / 2 - 1 by omega, q]
        congr 1
        exact decide_eq_decide.mpr ⟨fun z => by omega, fun z => by omega⟩
/-- the least cost is what it takes -/
theorem low_cost {n : Nat} {ls : List Lk} (ok : Lok n ls) (hc : Conn n ls) {mk u : Nat} {cost : Int} (ho : Opt (farD ls) (bl mk) cost) (e : oddE ls u ls.length = mk) : cost ≤ cstU ls u ls.length := by
  have hw : ∀ l ∈ ls, 0 ≤ l.2.2 := fun l hl => (ok.w0 l hl).1
  obtain ⟨_, c, h1, h2⟩ := low_join (far_met hw hc) u (fun l hl => ⟨(ok.sm l hl).1, (ok.sm l hl).2, far_link hw hl⟩) ls.length (Nat.le_refl _)
  rw [e] at h1
  have := ho.2 c h1
  omega
section
variable {P : Program} {w : World} {K : PySem.W.Frag} {mg : Str → Option Value} {base : Heap}
theorem lks_rd {H : Hp} {a : Addr} {xs : List V} {es : List Lk} (h : SqL K H a xs) (hE : LsAt LkAt H xs es) : RdD K H (.ref a) (.list (es.map fun e => PyData.tuple [.int (e.1 : Int), .int (e.2.1 : Int), .int e.2.2])) := by
  refine RdD.lst h (by rw [List.length_map]; exact hE.1) fun i x d e1 e2 => ?_
  rw [List.getElem?_map] at e2
  obtain ⟨e, he, rfl⟩ := Option.map_eq_some_iff.mp e2
  obtain ⟨y, a1, p, rfl, a2⟩ := hE.2 i e he
  rw [e1] at a1
  cases a1
  refine RdD.tup (SqT.of a2) rfl fun j x d' q1 q2 => ?_
  match j with
  | 0 => cases q1; cases q2; exact .int _
  | 1 => cases q1; cases q2; exact .int _
  | 2 => cases q1; cases q2; exact .int _
  | j + 3 => cases q1
theorem lks_shaped (es : List Lk) : SeqAt.shaped (.list (es.map fun e => PyData.tuple [.int (e.1 : Int), .int (e.2.1 : Int), .int e.2.2])) = true := shaped_flat fun d hd => by
  obtain ⟨l, _, rfl⟩ := List.mem_map.mp hd
  exact flat3 _ _ _
end

/-! the least, with a room turned over -/
/-! a joining for every pairing -/

end KF


namespace KF
open PySem L2
local macro_rules | `(tactic| walk_at "cc") => `(tactic| first | exact ⟨by decide, by decide⟩ | (show (0 : Int) < _; decide) | (show (0 : Int) < _; omega) | (show (0 : Int) ≤ _; omega) | exact ⟨by decide, by decide, by decide⟩ | exact ⟨by omega, by omega, by decide⟩ | exact Or.inl ⟨by decide, by decide⟩ | exact Or.inl ⟨by omega, by omega⟩)
local macro_rules | `(tactic| walk_at "rd") => `(tactic| repeat (first | refine ⟨_, rfl, ?_⟩ | refine ⟨_, _, rfl, rfl, ?_⟩ | refine ⟨rfl, ?_⟩ | (refine ⟨?cc, ?_⟩; (case cc => walk_at "cc"))))

/-! k26: the mathematics -/
def nmd (rs : List Nat) (pl : List Lk) : List Lk := pl.map fun l => (rs.getD l.1 0, rs.getD l.2.1 0, l.2.2)
def PlK (n k : Nat) (l : Lk) : Prop := l.1 < n ∧ l.2.1 < n ∧ (0 ≤ l.2.2 ∧ l.2.2 ≤ (MM : Int)) ∧ (k < n - 1 → (l.1 = k + 1 ∧ l.2.1 ≤ k) ∨ (l.2.1 = k + 1 ∧ l.1 ≤ k))
def PlOk (n : Nat) (pl : List Lk) : Prop := ∀ (k : Nat) (l : Lk), pl[k]? = some l → PlK n k l
theorem or_new {a k : Nat} (h : a < 2 ^ k) : a ||| 2 ^ k = a ^^^ 2 ^ k := Nat.eq_of_testBit_eq fun j => by
  rw [Nat.testBit_or, Nat.testBit_xor, Nat.testBit_two_pow]
  by_cases c : k = j
  · subst c
    rw [Nat.testBit_lt_two_pow h]
    simp
  · simp [c]
theorem nmd_at {rs : List Nat} {pl : List Lk} {k : Nat} {l : Lk} (h : pl[k]? = some l) : (nmd rs pl)[k]? = some (rs.getD l.1 0, rs.getD l.2.1 0, l.2.2) := by unfold nmd; rw [List.getElem?_map, h]; rfl
theorem nmd_len (rs : List Nat) (pl : List Lk) : (nmd rs pl).length = pl.length := List.length_map ..
theorem way_step {n : Nat} {rs : List Nat} {pl : List Lk} (hp : PlOk n pl) {k low w : Nat} (kn : k < n - 1) {l : Lk} (hl : pl[k]? = some l) (hlow : l.1 + l.2.1 = low + (k + 1))
    (hw : oddE (nmd rs pl) w pl.length = 2 ^ rs.getD 0 0 ^^^ 2 ^ rs.getD low 0) : oddE (nmd rs pl) (w ^^^ 2 ^ k) pl.length = 2 ^ rs.getD 0 0 ^^^ 2 ^ rs.getD (k + 1) 0 := by
  have kl : k < pl.length := (List.getElem?_eq_some_iff.mp hl).1
  rw [oddE_xor, oddE_pow, if_pos kl, hw, lkA_is (nmd_at hl)]
  show _ ^^^ (2 ^ rs.getD l.1 0 ^^^ 2 ^ rs.getD l.2.1 0) = _
  obtain ⟨_, _, _, g⟩ := hp k l hl
  rcases g kn with ⟨g1, g2⟩ | ⟨g1, g2⟩
  · have : l.2.1 = low := by omega
    rw [g1, this, Nat.xor_comm (2 ^ rs.getD (k + 1) 0), Nat.xor_assoc, ← Nat.xor_assoc (2 ^ rs.getD low 0), Nat.xor_self, Nat.zero_xor]
  · have : l.1 = low := by omega
    rw [g1, this, Nat.xor_assoc, ← Nat.xor_assoc (2 ^ rs.getD low 0), Nat.xor_self, Nat.zero_xor]
theorem dr_of {n : Nat} {rs : List Nat} {pl : List Lk} (hp : PlOk n pl) (hn : rs.length = n) (hlt : ∀ x ∈ rs, x < n) : ∀ i, i ≤ pl.length → DrI n rs ((nmd rs pl).take i) i
  | 0, _ => ⟨rfl, (fun x h => by cases h), (fun x h => by cases h), fun k hk _ => by
    have : k = 0 := by omega
    subst this
    exact ⟨0, .nil _⟩⟩
  | i + 1, h => by
    have ih := dr_of hp hn hlt i (by omega)
    obtain ⟨l, hl⟩ : ∃ l, pl[i]? = some l := ⟨_, List.getElem?_eq_getElem (by omega)⟩
    obtain ⟨g1, g2, g3, g4⟩ := hp i l hl
    rw [List.take_add_one, nmd_at hl]
    exact ih.put hn hlt g1 g2 g3 rfl rfl g4
open Classical in
theorem far_mem {ls ls' : List Lk} (h : ∀ l, l ∈ ls ↔ l ∈ ls') : farD ls = farD ls' := by
  funext a b
  have e : ∀ x : Nat, Wk ls a b (x : Int) = Wk ls' a b (x : Int) := fun x => propext ⟨Wk.mem fun l hl => (h l).mp hl, Wk.mem fun l hl => (h l).mpr hl⟩
  have e' : (fun x : Nat => Wk ls a b (x : Int)) = fun x : Nat => Wk ls' a b (x : Int) := funext e
  unfold farD
  have key : ∀ (p q : Nat → Prop), p = q → (if h : ∃ x, p x then ((Classical.choose (least h) : Nat) : Int) else 0) = (if h : ∃ x, q x then ((Classical.choose (least h) : Nat) : Int) else 0) := fun p q z => by subst z; rfl
  exact key _ _ e'
theorem flat_len : ∀ PL : List (Nat × Nat), (flat PL).length = 2 * PL.length
  | [] => rfl
  | p :: PL => by
    rw [flat_cons, List.length_cons, List.length_cons, flat_len PL, List.length_cons]
    omega
theorem odd_even {n : Nat} {ls : List Lk} (ok : Lok n ls) (hc : Conn n ls) (u : Nat) : (bl (oddE ls u ls.length)).length % 2 = 0 := by
  have hw : ∀ l ∈ ls, 0 ≤ l.2.2 := fun l hl => (ok.w0 l hl).1
  obtain ⟨_, c, ⟨PL, h1, _⟩, h2⟩ := low_join (far_met hw hc) u (fun l hl => ⟨(ok.sm l hl).1, (ok.sm l hl).2, far_link hw hl⟩) ls.length (Nat.le_refl _)
  rw [← h1.length_eq, flat_len]
  omega
theorem clear_len {m : Nat} (h : 0 < m) : (bl (m &&& (m - 1))).length + 1 = (bl m).length ∧ m &&& (m - 1) < m := by
  obtain ⟨p, h1, h2⟩ := low_clear m h
  have hp : p ∈ bl m := mem_bl.mpr h1
  have l1 : 0 < (bl m).length := List.length_pos_of_mem hp
  refine ⟨?_, ?_⟩
  · rw [h2, (xor_tog m p).length_eq]
    unfold tog
    rw [if_pos hp, List.length_erase, if_pos hp]
    omega
  · have : m &&& (m - 1) ≤ m - 1 := Nat.and_le_right
    omega
theorem rep_flat0 : ∀ n : Nat, (List.replicate n [V.int 0]).flatten = List.replicate n (iV 0)
  | 0 => rfl
  | n + 1 => by
    rw [List.replicate_succ, List.flatten_cons, rep_flat0 n, List.replicate_succ]
    rfl
/-- what stands while ways are told -/
structure WyI (n : Nat) (pl : List Lk) (ws : List Nat) (r : Nat) : Prop where
  len : ws.length = n
  lt : ∀ x w, x < r → ws[x]? = some w → w < 2 ^ x
  od : ∀ rs x w, x < r → ws[x]? = some w → oddE (nmd rs pl) w pl.length = 2 ^ rs.getD 0 0 ^^^ 2 ^ rs.getD x 0
theorem WyI.first (n : Nat) (pl : List Lk) : WyI n pl (List.replicate n 0) 1 where
  len := List.length_replicate ..
  lt := fun x w hx e => by
    rw [List.getElem?_replicate] at e
    split at e
    · cases e; exact Nat.two_pow_pos x
    · cases e
  od := fun rs x w hx e => by
    rw [List.getElem?_replicate] at e
    split at e
    · cases e
      have : x = 0 := by omega
      subst this
      rw [oddE_zero, Nat.xor_self]
    · cases e
theorem WyI.put {n : Nat} {pl : List Lk} {ws : List Nat} {k : Nat} (h : WyI n pl ws (k + 1)) (hp : PlOk n pl) (kn : k < n - 1) {l : Lk} (hl : pl[k]? = some l) {low w : Nat} (hlow : l.1 + l.2.1 = low + (k + 1)) (lk : low ≤ k) (hw : ws[low]? = some w) : WyI n pl (ws.set (k + 1) (w ^^^ 2 ^ k)) (k + 2) where
  len := by rw [List.length_set]; exact h.len
  lt := fun x w' hx e => by
    have hl' := h.len
    rw [set_at (by omega)] at e
    split at e
    · rename_i c
      cases e
      subst c
      have h1 := h.lt low w (by omega) hw
      have h2 : 2 ^ low ≤ 2 ^ (k + 1) := Nat.pow_le_pow_right (by decide) (by omega)
      exact Nat.xor_lt_two_pow (by omega) (Nat.pow_lt_pow_right (by decide) (by omega))
    · rename_i c
      exact h.lt x w' (by omega) e
  od := fun rs x w' hx e => by
    have hl' := h.len
    rw [set_at (by omega)] at e
    split at e
    · rename_i c
      cases e
      subst c
      exact way_step hp kn hl hlow (h.od rs low w (by omega) hw)
    · rename_i c
      exact h.od rs x w' (by omega) e
def spLink (K : PySem.W.Frag) : Sp := fun vs H Q _ => ∃ (a : Addr) (k n : Nat) (ns : List Int), vs = [.ref a, .int (k : Int), .int (n : Int)] ∧ SqL K H a (ns.map V.int) ∧ k ≤ 80 ∧ 1 ≤ n ∧ n ≤ 40 ∧ ∀ (t : Addr) (l : Lk), H t = none → PlK n k l → Q (.ref t) (upd H t (.tup [.int (l.1 : Int), .int (l.2.1 : Int), .int l.2.2]))
def spCount : Sp := fun vs H Q _ => ∃ m : Nat, vs = [.int (m : Int)] ∧ Q (.int (((bl m).length : Nat) : Int)) H
def spDrawn (K : PySem.W.Frag) : Sp := fun vs H Q _ => ∃ (a : Addr) (v : V) (n most : Nat) (ns : List Int) (ls : List Lk), vs = [.ref a, v, .int (most : Int)] ∧ SqL K H a (ns.map V.int) ∧ LnAt H v ls ∧ Lok n ls ∧ ∀ u : Nat, u < 2 ^ ls.length → (bl (oddE ls u ls.length)).length ≤ most → Q (.int (u : Int)) H
def spWays : Sp := fun vs H Q _ => ∃ (v : V) (n : Nat) (pl : List Lk), vs = [v, .int (n : Int)] ∧ LnAt H v pl ∧ PlOk n pl ∧ 1 ≤ n ∧ n ≤ 40 ∧ n - 1 ≤ pl.length ∧ ∀ (p : Addr) (ws : List Nat) H', Same H H' → H p = none → H' p = some (.lst (ws.map iV)) → WyI n pl ws n → Q (.ref p) H'
def spCost : Sp := fun vs H Q _ => ∃ (v : V) (n u : Nat) (ls : List Lk), vs = [v, .int (u : Int)] ∧ LnAt H v ls ∧ Lok n ls ∧ ∀ H', Same H H' → Q (.int (cstU ls u ls.length)) H'
def rLk (a : Addr) (k n : Nat) (ns : List Int) (H : Hp) : TS := fun D0 σ H3 => ∃ (c mx : Int) (o t : Nat), σ = [some (.ref a), some (.int (k : Int)), some (.int (n : Int)), some (.int c), some (.int mx), some (.int (o : Int)), some (.int (t : Int)), none] ∧ H3 = H ∧ o < n ∧ t < n ∧ (k < n - 1 → (o = k + 1 ∧ t ≤ k) ∨ (t = k + 1 ∧ o ≤ k)) ∧ ∀ (t : Addr) (l : Lk), H t = none → PlK n k l → D0.rt (.ref t) (upd H t (.tup [.int (l.1 : Int), .int (l.2.1 : Int), .int l.2.2]))
section
variable {P : Program} {w : World} {K : PySem.W.Frag} {mg : Str → Option Value} {base : Heap}
theorem sc_law_link_by : FnScope ["script", "k", "many", "cell", "mixed", "one", "two", "length"] ["script", "k", "many"] (defScope s_law_link_by) := ⟨rfl, rfl, rfl, by decide +kernel, rfl, by decide +kernel, by decide +kernel⟩
theorem ok_link {f f1 : Addr} {fd fd1 : FuncData} (F : Fun K "_law_link_by" "_law_link_by" s_law_link_by f fd) (G_law_cell_at : Cal P w K mg base 1 "_law_cell_at" ["script", "k"] (spCell K) f1 fd1) : FnOk P w K mg base CX0 2 f fd ["script", "k", "many"] (spLink K) := by
  refine F.ok sc_law_link_by (fun vs H Q E h => ?_) (fun cdv A outer s H vs Q E hr h => ?_)
  · obtain ⟨a, k, n, ns, rfl, _⟩ := h
    rfl
  obtain ⟨a, k, n, ns, rfl, hS, k80, n1, n40, kk⟩ := h
  refine ⟨_, (pss_cons (ps_set (i := 3) sc_law_link_by.nd rfl (Or.inl rfl) (pe_call G_law_cell_at.ok (hr.mono (by decide)) rfl G_law_cell_at.mg G_law_cell_at.kp G_law_cell_at.bn .nil pass0 (pa_cons (pv 0) (pa_cons (pe_op op_add (pe_op op_mul pe_int (pv 1)) pe_int) pa_nil))))
      (pss_cons (ps_set (i := 4) sc_law_link_by.nd rfl (Or.inl rfl) (pe_op op_mod (pe_op op_mul (pe_op op_mod (pv 3) pe_int) pe_int) pe_int))
      (pss_cons (ps_set (i := 5) sc_law_link_by.nd rfl (Or.inl rfl) (pe_op op_mod (pv 4) (pv 2)))
      (pss_cons (ps_set (i := 6) sc_law_link_by.nd rfl (Or.inl rfl) (pe_op op_mod (pe_op op_mod (pe_op op_mul (pv 4) (pv 4)) pe_int) (pv 2)))
      (pss_cons (ps_if (pt_cmpR op_lt (pv 1) (pe_op op_sub (pv 2) pe_int) (nomark _)) (pss_cons (ps_set (i := 5) sc_law_link_by.nd rfl (Or.inl rfl) (pe_op op_add (pv 1) pe_int))
      (pss_one (ps_set (i := 6) sc_law_link_by.nd rfl (Or.inl rfl) (pe_op op_mod (pv 4) (pe_op op_add (pv 1) pe_int))))) pss_nil)
      (pss_imp (t2 := rLk a k n ns H) (pss_cons (ps_set (i := 7) sc_law_link_by.nd rfl (Or.inl rfl) (pe_op op_mod (pe_call G_law_cell_at.ok (hr.mono (by decide)) rfl G_law_cell_at.mg G_law_cell_at.kp G_law_cell_at.bn .nil pass0 (pa_cons (pv 0) (pa_cons (pe_op op_add (pe_op op_mul pe_int (pv 1)) pe_int) pa_nil))) (pe_op op_add (pe_op op_pow pe_int pe_int) pe_int)))
      (pss_cons (ps_if (pt_cmpR op_eq (pe_op op_mod (pe_op op_fdiv (pv 3) pe_int) pe_int) pe_int (nomark _)) (pss_one (ps_ret (pe_tup (pa_cons (pv 6) (pa_cons (pv 5) (pa_cons (pv 7) pa_nil)))))) pss_nil)
      (pss_one (ps_ret (pe_tup (pa_cons (pv 5) (pa_cons (pv 6) (pa_cons (pv 7) pa_nil)))))))) (fun D0 S0 H0 h0 => ?resta))))))), ?_⟩
  case resta =>
    obtain ⟨c, mx, o, t, rfl, rfl, ob, tb, g, kn⟩ := h0
    have e3 : 2 * (k : Int) + 3 = ((2 * k + 3 : Nat) : Int) := by push_cast; rfl
    have w0 := Int.emod_nonneg (cellD ns (2 * k + 3)) (show (10 : Int) ^ (31 : Int).toNat + 1 ≠ 0 by decide)
    have w1 := Int.emod_lt_of_pos (cellD ns (2 * k + 3)) (show (0 : Int) < 10 ^ (31 : Int).toNat + 1 by decide)
    have eM : ((MM : Nat) : Int) = 10 ^ (31 : Int).toNat := by unfold MM; rfl
    refine ⟨_, rfl, _, rfl, _, _, rfl, rfl, .inr ⟨by omega, by omega⟩, _, _, rfl, rfl, a, 2 * k + 3, ns, congrArg (fun z => [V.ref a, V.int z]) e3, hS, _, _, rfl, rfl, ⟨by decide, by decide, by decide⟩, _, _, rfl, rfl, _, _, rfl, rfl, (by show (0 : Int) < 10 ^ (31 : Int).toNat + 1; decide), ?_⟩
    obtain ⟨z, ez⟩ : ∃ z, cellD ns (2 * k + 3) % (10 ^ (31 : Int).toNat + 1) = z := ⟨_, rfl⟩
    rw [ez] at w0 w1
    have wz : 0 ≤ z ∧ z ≤ (MM : Int) := ⟨w0, by rw [eM]; exact Int.lt_add_one_iff.mp w1⟩
    simp only [ez]
    refine ⟨_, rfl, _, _, rfl, rfl, ⟨by decide, by decide⟩, _, _, rfl, rfl, (by show (0 : Int) < 2; decide), rfl, _, rfl, ?_⟩
    refine ite2 (fun _ => ?_) (fun _ => ?_)
    · exact ⟨_, rfl, _, rfl, _, rfl, (by show 3 ≤ sizeLine; decide), fun tt htt => kn tt (t, o, z) htt ⟨tb, ob, wz, fun y => (g y).symm⟩⟩
    · exact ⟨_, rfl, _, rfl, _, rfl, (by show 3 ≤ sizeLine; decide), fun tt htt => kn tt (o, t, z) htt ⟨ob, tb, wz, g⟩⟩
  have e2 : 2 * (k : Int) + 2 = ((2 * k + 2 : Nat) : Int) := by push_cast; rfl
  have np : (0 : Int) < (n : Int) := by omega
  refine ⟨_, rfl, _, rfl, _, _, rfl, rfl, .inr ⟨by omega, by omega⟩, _, _, rfl, rfl, a, 2 * k + 2, ns, congrArg (fun z => [V.ref a, V.int z]) e2, hS, ?_⟩
  generalize cellD ns (2 * k + 2) = c
  refine ⟨_, rfl, _, _, rfl, rfl, (by show (0 : Int) < 1000000007; decide), _, _, rfl, rfl, .inr ⟨by decide, by decide⟩, _, _, rfl, rfl, (by show (0 : Int) < 2147483647; decide), ?_⟩
  have mx0 := Int.emod_nonneg (c % 1000000007 * 48271) (show (2147483647 : Int) ≠ 0 by decide)
  have mx1 := Int.emod_lt_of_pos (c % 1000000007 * 48271) (show (0 : Int) < 2147483647 by decide)
  obtain ⟨mx, emx⟩ : ∃ mx, c % 1000000007 * 48271 % 2147483647 = mx := ⟨_, rfl⟩
  rw [emx] at mx0 mx1
  simp only [emx]
  refine ⟨_, rfl, _, rfl, _, _, rfl, rfl, np, ?_⟩
  obtain ⟨o, eo, ob⟩ : ∃ o : Nat, mx % (n : Int) = (o : Int) ∧ o < n := ⟨(mx % (n : Int)).toNat, by have := Int.emod_nonneg mx (show (n : Int) ≠ 0 by omega); omega, by have := Int.emod_lt_of_pos mx np; have := Int.emod_nonneg mx (show (n : Int) ≠ 0 by omega); omega⟩
  simp only [eo]
  refine ⟨_, rfl, _, rfl, _, _, rfl, rfl, .inr ⟨by omega, by omega⟩, _, _, rfl, rfl, (by show (0 : Int) < 1000003; decide), _, rfl, _, _, rfl, rfl, np, ?_⟩
  obtain ⟨t, et, tb⟩ : ∃ t : Nat, mx * mx % 1000003 % (n : Int) = (t : Int) ∧ t < n := ⟨(mx * mx % 1000003 % (n : Int)).toNat, by have := Int.emod_nonneg (mx * mx % 1000003) (show (n : Int) ≠ 0 by omega); omega, by have := Int.emod_lt_of_pos (mx * mx % 1000003) np; have := Int.emod_nonneg (mx * mx % 1000003) (show (n : Int) ≠ 0 by omega); omega⟩
  simp only [et]
  refine ⟨_, rfl, _, rfl, _, _, rfl, rfl, _, _, rfl, rfl, _, rfl, ?_⟩
  refine ite2 (fun z => ?_) (fun z => ?_)
  · have z' : (k : Int) < (n : Int) - 1 := of_decide_eq_true z
    have ip : (0 : Int) < (k : Int) + 1 := by omega
    refine ⟨_, rfl, _, _, rfl, rfl, _, rfl, _, rfl, _, _, rfl, rfl, _, _, rfl, rfl, ip, ?_⟩
    obtain ⟨t2, et2, tb2⟩ : ∃ t : Nat, mx % ((k : Int) + 1) = (t : Int) ∧ t ≤ k := ⟨(mx % ((k : Int) + 1)).toNat, by have := Int.emod_nonneg mx (show (k : Int) + 1 ≠ 0 by omega); omega, by have := Int.emod_lt_of_pos mx ip; have := Int.emod_nonneg mx (show (k : Int) + 1 ≠ 0 by omega); omega⟩
    simp only [et2]
    exact ⟨c, mx, k + 1, t2, rfl, rfl, by omega, by omega, fun _ => .inl ⟨rfl, tb2⟩, kk⟩
  · have z' : ¬ (k : Int) < (n : Int) - 1 := fun y => z (decide_eq_true y)
    exact ⟨c, mx, o, t, rfl, rfl, ob, tb, fun y => by omega, kk⟩
theorem sc_law_count : FnScope ["mask", "count"] ["mask"] (defScope s_law_count) := ⟨rfl, rfl, rfl, by decide +kernel, rfl, by decide +kernel, by decide +kernel⟩
theorem ok_count {f : Addr} {fd : FuncData} (F : Fun K "_law_count" "_law_count" s_law_count f fd) : FnOk P w K mg base CX0 1 f fd ["mask"] spCount := by
  refine F.ok sc_law_count (fun vs H Q E h => ?_) (fun cdv A outer s H vs Q E hr h => ?_)
  · obtain ⟨m, rfl, _⟩ := h
    rfl
  obtain ⟨m, rfl, kk⟩ := h
  refine ⟨_, (pss_cons (ps_set (i := 1) sc_law_count.nd rfl (Or.inl rfl) pe_int)
      (pss_cons (ps_while PassesOwn.never (pt_cmpR op_gt (pv 0) pe_int (nomark _)) (pss_cons (ps_set (i := 0) sc_law_count.nd rfl (Or.inl rfl) (pe_op op_and (pv 0) (pe_op op_sub (pv 0) pe_int)))
      (pss_one (ps_aug (i := 1) sc_law_count.nd rfl (Or.inl rfl) pe_int ip_add))))
      (pss_one (ps_ret (pv 1))))), ?_⟩
  refine while_by (fun σ H2 => ∃ (q c : Nat), σ = [some (.int (q : Int)), some (.int (c : Int))] ∧ H2 = H ∧ c + (bl q).length = (bl m).length) (fun σ _ => match σ with | [some (.int r), _] => r.toNat | _ => 0) ⟨m, 0, rfl, rfl, Nat.zero_add _⟩ ?_ ?_
  · rintro σ H2 ⟨q, c, rfl, rfl, hb⟩
    refine ⟨_, rfl, _, _, rfl, rfl, _, rfl, ?_⟩
    refine ite2 (fun z => ?_) (fun z => ?_)
    · have z' : (0 : Int) < (q : Int) := of_decide_eq_true z
      obtain ⟨g1, g2⟩ := clear_len (m := q) (by omega)
      have ea : Builtin.bitAnd (q : Int) ((q : Int) - 1) = ((q &&& (q - 1) : Nat) : Int) := by
        rw [show (q : Int) - 1 = ((q - 1 : Nat) : Int) by omega]
        exact andN _ _
      refine ⟨_, rfl, _, rfl, _, _, rfl, rfl, _, _, rfl, rfl, ?_⟩
      simp only [ea]
      refine ⟨_, rfl, _, _, rfl, rfl, ⟨q &&& (q - 1), c + 1, rfl, rfl, by omega⟩, ?_⟩
      show ((q &&& (q - 1) : Nat) : Int).toNat < ((q : Nat) : Int).toNat
      omega
    · have z' : ¬ (0 : Int) < (q : Int) := fun y => z (decide_eq_true y)
      have : q = 0 := by omega
      subst this
      rw [bl_zero] at hb
      have hb' : c = (bl m).length := hb
      rw [← hb'] at kk
      exact ⟨_, rfl, kk⟩
  · rintro σ H2 Q1 Q2 hi ⟨v, e, i, j, a, b, kk, e2, q⟩
    exact ⟨v, e, i, j, a, b, kk, e2, hi _ _ q⟩
theorem sc_law_drawn : FnScope ["script", "links", "most", "used", "ends", "k", "fresh"] ["script", "links", "most"] (defScope s_law_drawn) := ⟨rfl, rfl, rfl, by decide +kernel, rfl, by decide +kernel, by decide +kernel⟩
theorem ok_drawn {f f1 f2 : Addr} {fd fd1 fd2 : FuncData} (F : Fun K "_law_drawn" "_law_drawn" s_law_drawn f fd) (T : Txt mg) (G_law_cell_at : Cal P w K mg base 1 "_law_cell_at" ["script", "k"] (spCell K) f1 fd1) (G_law_count : Cal P w K mg base 1 "_law_count" ["mask"] spCount f2 fd2) : FnOk P w K mg base CX0 2 f fd ["script", "links", "most"] (spDrawn K) := by
  refine F.ok sc_law_drawn (fun vs H Q E h => ?_) (fun cdv A outer s H vs Q E hr h => ?_)
  · obtain ⟨a, v, n, most, ns, ls, rfl, _⟩ := h
    rfl
  obtain ⟨a, v, n, most, ns, ls, rfl, hS, ⟨la, ys, rfl, hA, hL⟩, ok, kk⟩ := h
  have n40 := ok.n1
  have l9 := ok.l9
  have yl := hL.1
  refine ⟨_, (pss_cons (ps_set (i := 3) sc_law_drawn.nd rfl (Or.inl rfl) pe_int)
      (pss_cons (ps_set (i := 4) sc_law_drawn.nd rfl (Or.inl rfl) pe_int)
      (pss_cons (ps_for PassesOwn.never rfl (pi_range1 rfl T.n_range (pa_cons (pe_callB call_len_seq (by rfl) T.n_len bt_len (pa_cons (pv 1) pa_nil)) pa_nil)) (pg_name (i := 5) sc_law_drawn.nd rfl (Or.inl rfl)) (pss_cons (ps_set (i := 6) sc_law_drawn.nd rfl (Or.inl rfl) (pe_op op_xor (pe_op op_xor (pv 4) (pe_op op_shl pe_int (pe_ix ix_tup (pe_ix ix_list (pv 1) (pv 5) (fun _ _ => rfl)) pe_int (fun _ _ => rfl)))) (pe_op op_shl pe_int (pe_ix ix_tup (pe_ix ix_list (pv 1) (pv 5) (fun _ _ => rfl)) pe_int (fun _ _ => rfl)))))
      (pss_one (ps_if (PW.pt (pw_and (pt_cmpR op_eq (pe_op op_mod (pe_op op_fdiv (pe_call G_law_cell_at.ok (hr.mono (by decide)) rfl G_law_cell_at.mg G_law_cell_at.kp G_law_cell_at.bn .nil pass0 (pa_cons (pv 0) (pa_cons (pe_op op_add (pe_op op_mul pe_int (pv 5)) pe_int) pa_nil))) pe_int) pe_int) pe_int (nomark _)) (pw_and1 (pt_cmpR op_le (pe_call G_law_count.ok (hr.mono (by decide)) rfl G_law_count.mg G_law_count.kp G_law_count.bn .nil pass0 (pa_cons (pv 6) pa_nil)) (pv 2) (nomark _))))) (pss_cons (ps_set (i := 3) sc_law_drawn.nd rfl (Or.inl rfl) (pe_op op_or (pv 3) (pe_op op_shl pe_int (pv 5))))
      (pss_one (ps_set (i := 4) sc_law_drawn.nd rfl (Or.inl rfl) (pv 6)))) pss_nil))))
      (pss_one (ps_ret (pv 3)))))), ?_⟩
  refine ⟨_, rfl, la, _, rfl, .inl (SqL.of hA), _, rfl, by omega, by omega, for_range (n := ys.length) (fun i σ H2 => ∃ (v5 v6 : Option V) (u : Nat), σ = [some (.ref a), some (.ref la), some (.int (most : Int)), some (.int (u : Int)), some (.int ((oddE ls u i : Nat) : Int)), v5, v6] ∧ H2 = H ∧ u < 2 ^ i ∧ (bl (oddE ls u i)).length ≤ most) ⟨_, _, 0, rfl, rfl, Nat.zero_lt_one, by show (bl 0).length ≤ _; rw [bl_zero]; exact Nat.zero_le _⟩ ?_ ?_⟩
  · rintro i σ H2 hi ⟨v5, v6, u, rfl, rfl, ub, lb⟩
    have e0 : (0 : Int) + (i : Int) = (i : Int) := Int.zero_add _
    rw [e0]
    obtain ⟨l, hl⟩ : ∃ l, ls[i]? = some l := ⟨_, List.getElem?_eq_getElem (by omega)⟩
    obtain ⟨y, hy, t, rfl, ht⟩ := hL.2 i l hl
    obtain ⟨b1, b2⟩ := ok.sm l (List.mem_of_getElem? hl)
    have ul : u < 2 ^ (i + 1) := by rw [Nat.pow_succ]; omega
    have bf : u.testBit i = false := Nat.testBit_lt_two_pow ub
    have e2 : 2 * (i : Int) + 2 = ((2 * i + 2 : Nat) : Int) := by push_cast; rfl
    have skip : (bl (oddE ls u (i + 1))).length ≤ most := by rw [(leave_is ls bf).1]; exact lb
    refine ⟨_, rfl, _, rfl, _, rfl, la, _, _, _, rfl, rfl, SqL.of hA, atI_nat hy, t, _, 0, _, rfl, rfl, SqT.of ht, a30, _, _, rfl, rfl, ⟨by omega, by omega, by decide⟩, _, _, rfl, rfl, _, rfl, _, rfl, la, _, _, _, rfl, rfl, SqL.of hA, atI_nat hy, t, _, 1, _, rfl, rfl, SqT.of ht, a31, _, _, rfl, rfl, ⟨by omega, by omega, by decide⟩, _, _, rfl, rfl, ?_⟩
    have e : Builtin.bitXor (Builtin.bitXor ((oddE ls u i : Nat) : Int) (1 * 2 ^ ((l.1 : Nat) : Int).toNat)) (1 * 2 ^ ((l.2.1 : Nat) : Int).toNat) = ((oddE ls u i ^^^ endX l : Nat) : Int) := by
      rw [shlN, shlN, xorN, xorN, Nat.xor_assoc]
      rfl
    simp only [e]
    refine ⟨_, rfl, _, rfl, _, _, rfl, rfl, .inr ⟨by omega, by omega⟩, _, _, rfl, rfl, a, 2 * i + 2, ns, congrArg (fun z => [V.ref a, V.int z]) e2, hS, _, _, rfl, rfl, ⟨by decide, by decide⟩, _, _, rfl, rfl, (by show (0 : Int) < 2; decide), rfl, _, rfl, ?_⟩
    refine ite2 (fun c => ?_) (fun c => ?_)
    · refine ⟨_, rfl, oddE ls u i ^^^ endX l, rfl, _, rfl, _, _, rfl, rfl, _, rfl, ?_⟩
      refine ite2 (fun c => ?_) (fun c => ?_)
      · have c' : (((bl (oddE ls u i ^^^ endX l)).length : Nat) : Int) ≤ (most : Int) := of_decide_eq_true c
        have eo : Builtin.bitOr (u : Int) (1 * 2 ^ ((i : Nat) : Int).toNat) = ((u ^^^ 2 ^ i : Nat) : Int) := by rw [shlN, orN, or_new ub]
        have bt : (u ^^^ 2 ^ i).testBit i = true := by rw [Nat.testBit_xor, bf, Nat.testBit_two_pow_self]; rfl
        have eq : oddE ls (u ^^^ 2 ^ i) (i + 1) = oddE ls u i ^^^ endX l := by
          rw [(take_is hl bt).1, (low_same (ls := ls) (u := u ^^^ 2 ^ i) (v := u) i fun j hj => by rw [Nat.testBit_xor, Nat.testBit_two_pow_of_ne (by omega)]; simp).1]
        refine ⟨_, rfl, _, rfl, _, _, rfl, rfl, ⟨by omega, by omega, by decide⟩, _, _, rfl, rfl, ?_⟩
        simp only [eo]
        refine ⟨_, rfl, some (.int (i : Int)), some (.int ((oddE ls u i ^^^ endX l : Nat) : Int)), u ^^^ 2 ^ i, ?_, rfl, Nat.xor_lt_two_pow ul (Nat.pow_lt_pow_right (by decide) (by omega)), by rw [eq]; omega⟩
        rw [eq]
        rfl
      · exact ⟨_, _, u, by rw [(leave_is ls bf).1]; rfl, rfl, ul, skip⟩
    · exact ⟨_, _, u, by rw [(leave_is ls bf).1]; rfl, rfl, ul, skip⟩
  · rintro σ H2 ⟨v5, v6, u, rfl, rfl, ub, lb⟩
    rw [yl] at ub lb
    exact ⟨_, rfl, kk u ub lb⟩
theorem sc_law_ways : FnScope ["links", "many", "ways", "room", "low"] ["links", "many"] (defScope s_law_ways) := ⟨rfl, rfl, rfl, by decide +kernel, rfl, by decide +kernel, by decide +kernel⟩
theorem ok_ways {f : Addr} {fd : FuncData} (F : Fun K "_law_ways" "_law_ways" s_law_ways f fd) (T : Txt mg) : FnOk P w K mg base CX0 1 f fd ["links", "many"] spWays := by
  refine F.ok sc_law_ways (fun vs H Q E h => ?_) (fun cdv A outer s H vs Q E hr h => ?_)
  · obtain ⟨v, n, pl, rfl, _⟩ := h
    rfl
  obtain ⟨v, n, pl, rfl, ⟨la, ys, rfl, hA, hL⟩, hp, n1, n40, nl, kk⟩ := h
  have yl := hL.1
  refine ⟨_, (pss_cons (ps_set (i := 2) sc_law_ways.nd rfl (Or.inl rfl) (pe_op op_rep (pe_lst (pa_cons pe_int pa_nil)) (pv 1)))
      (pss_cons (ps_for PassesOwn.never rfl (pi_range2 rfl T.n_range (pa_cons pe_int (pa_cons (pv 1) pa_nil))) (pg_name (i := 3) sc_law_ways.nd rfl (Or.inl rfl)) (pss_cons (ps_set (i := 4) sc_law_ways.nd rfl (Or.inl rfl) (pe_op op_sub (pe_op op_add (pe_ix ix_tup (pe_ix ix_list (pv 0) (pe_op op_sub (pv 3) pe_int) (fun _ _ => rfl)) pe_int (fun _ _ => rfl)) (pe_ix ix_tup (pe_ix ix_list (pv 0) (pe_op op_sub (pv 3) pe_int) (fun _ _ => rfl)) pe_int (fun _ _ => rfl))) (pv 3)))
      (pss_one (ps_asg (pe_op op_or (pe_ix ix_list (pv 2) (pv 4) (fun _ _ => rfl)) (pe_op op_shl pe_int (pe_op op_sub (pv 3) pe_int))) (pg_sub (pv 2) (pv 3) set_list)))))
      (pss_one (ps_ret (pv 2))))), ?_⟩
  refine ⟨(by show 1 ≤ sizeLine; decide), fun l0 hl0 => ⟨_, rfl, l0, _, _, rfl, rfl, upd_same, by omega, by omega, ?_, fun p hp' => ?_⟩⟩
  · show 1 * ((n : Nat) : Int).toNat ≤ sizeLine
    rw [Int.toNat_natCast, Nat.one_mul]
    exact Nat.le_of_lt (small1000 (by omega))
  have s0 := same_new hl0 (.lst [V.int 0])
  have hp0 : H p = none := same_no s0 hp'
  have hz : (List.replicate ((n : Nat) : Int).toNat [V.int 0]).flatten = (List.replicate n 0).map iV := by
    rw [Int.toNat_natCast, List.map_replicate]
    exact rep_flat0 n
  rw [hz]
  have s1 : Same H (upd (upd H l0 (.lst [V.int 0])) p (.lst ((List.replicate n 0).map iV))) := s0.trans (same_new hp' _)
  refine ⟨_, rfl, 1, (n : Int), rfl, ⟨by decide, by decide, by omega, by omega⟩, ?_⟩
  refine for_range (lo := 1) (n := ((n : Int) - 1).toNat) (fun i σ H2 => ∃ (v3 v4 : Option V) (ws : List Nat), σ = [some (.ref la), some (.int (n : Int)), some (.ref p), v3, v4] ∧ Same H H2 ∧ H2 p = some (.lst (ws.map iV)) ∧ WyI n pl ws (i + 1)) ⟨_, _, _, rfl, s1, upd_same, WyI.first n pl⟩ ?_ ?_
  · rintro i σ H2 hi ⟨v3, v4, ws, rfl, s2, hp2, wy⟩
    have kn : i < n - 1 := by omega
    obtain ⟨l, hl⟩ : ∃ l, pl[i]? = some l := ⟨_, List.getElem?_eq_getElem (by omega)⟩
    obtain ⟨y, hy, t, rfl, ht⟩ := hL.2 i l hl
    have hA2 := s2 _ _ hA
    have ht2 := s2 _ _ ht
    obtain ⟨_, _, _, g⟩ := hp i l hl
    obtain ⟨low, hlow, lk⟩ : ∃ low, l.1 + l.2.1 = low + (i + 1) ∧ low ≤ i := by
      rcases g kn with ⟨g1, g2⟩ | ⟨g1, g2⟩
      · exact ⟨l.2.1, by omega, g2⟩
      · exact ⟨l.1, by omega, g2⟩
    have wl := wy.len
    obtain ⟨w', hw⟩ : ∃ w', ws[low]? = some w' := ⟨_, List.getElem?_eq_getElem (by omega)⟩
    have wb : w' < 2 ^ i := Nat.lt_of_lt_of_le (wy.lt low w' (by omega) hw) (Nat.pow_le_pow_right (by decide) lk)
    have ei : (1 : Int) + (i : Int) - 1 = (i : Int) := by omega
    refine ⟨_, rfl, _, rfl, _, _, rfl, rfl, ?_⟩
    simp only [ei]
    refine ⟨la, _, _, _, rfl, rfl, SqL.of hA2, atI_nat hy, t, _, 0, _, rfl, rfl, SqT.of ht2, a30, _, rfl, _, rfl, _, _, rfl, rfl, ?_⟩
    simp only [ei]
    refine ⟨la, _, _, _, rfl, rfl, SqL.of hA2, atI_nat hy, t, _, 1, _, rfl, rfl, SqT.of ht2, a31, _, _, rfl, rfl, _, rfl, _, _, rfl, rfl, ?_⟩
    have el : (l.1 : Int) + (l.2.1 : Int) - (1 + (i : Int)) = (low : Int) := by omega
    simp only [el]
    refine ⟨_, rfl, _, rfl, p, _, _, _, rfl, rfl, SqL.of hp2, atI_nat (by rw [List.getElem?_map, hw]; rfl), ?_⟩
    refine ⟨_, rfl, _, _, rfl, rfl, _, _, rfl, rfl, ⟨by omega, by omega, by decide⟩, _, _, rfl, rfl, ?_⟩
    have eo : Builtin.bitOr (w' : Int) (1 * 2 ^ ((i : Nat) : Int).toNat) = ((w' ^^^ 2 ^ i : Nat) : Int) := by rw [shlN, orN, or_new wb]
    simp only [ei, eo]
    have e1 : (1 : Int) + (i : Int) = ((i + 1 : Nat) : Int) := by push_cast; omega
    refine ⟨_, rfl, _, rfl, p, _, _, i + 1, rfl, rfl, hp2, (by rw [e1, List.length_map, wl]; exact ixN_nat (by omega)), ?_⟩
    exact ⟨_, _, ws.set (i + 1) (w' ^^^ 2 ^ i), rfl, same_upd s2 hp0 _, by rw [upd_same, List.map_set]; rfl, wy.put hp kn hl hlow lk hw⟩
  · rintro σ H2 ⟨v3, v4, ws, rfl, s2, hp2, wy⟩
    have : ((n : Int) - 1).toNat + 1 = n := by omega
    rw [this] at wy
    exact ⟨_, rfl, kk p ws H2 s2 hp0 hp2 wy⟩
theorem sc_law_cost : FnScope ["links", "used"] ["links", "used"] (defScope s_law_cost) := ⟨rfl, rfl, rfl, by decide +kernel, rfl, by decide +kernel, by decide +kernel⟩
theorem ok_cost {f : Addr} {fd : FuncData} (F : Fun K "_law_cost" "_law_cost" s_law_cost f fd) (T : TxtL mg) : FnOk P w K mg base CX0 1 f fd ["links", "used"] spCost := by
  refine F.ok sc_law_cost (fun vs H Q E h => ?_) (fun cdv A outer s H vs Q E hr h => ?_)
  · obtain ⟨v, n, u, ls, rfl, _⟩ := h
    rfl
  obtain ⟨v, n, u, ls, rfl, ⟨la, ys, rfl, hA, hL⟩, ok, kk⟩ := h
  have l9 := ok.l9
  have yl := hL.1
  refine ⟨_, (pss_one (ps_ret (pe_callB (call_sum rfl) (by rfl) T.n_sum bt_sum (pa_cons (pe_compG rfl (fr := [("used", 1), ("links", 0)]) (xs := ["k"]) (CompG.of (by rfl) (by decide +kernel) (by rfl) (by decide +kernel) (by intro p hp; simp only [List.mem_cons, List.not_mem_nil, or_false] at hp; rcases hp with rfl | rfl <;> exact ⟨rfl, rfl⟩) (by decide +kernel) (by intro p hp; simp only [List.mem_cons, List.not_mem_nil, or_false] at hp; rcases hp with rfl | rfl <;> rfl)) (pi_range1 rfl T.n_range (pa_cons (pe_callB call_len_seq (by rfl) T.n_len bt_len (pa_cons (pv 0) pa_nil)) pa_nil)) (fun C ex s H => (pg_name (i := 0) (show (["k", "used", "links"] : List Str).Nodup from by decide +kernel) rfl (Or.inl rfl))) (fun C ex s H => (pts_one (pt_cmpR op_eq (pe_op op_and (pe_op op_shr (pv 1) (pv 0)) pe_int) pe_int (nomark _)))) (fun C ex s H => (pe_ix (ixK_tup (K := K) rfl) (pe_ix (ixK_list (K := K) rfl) (pv 2) (pv 0) (fun _ _ => rfl)) pe_int (fun _ _ => rfl)))) pa_nil)))), ?_⟩
  refine ⟨_, rfl, la, _, rfl, .inl (SqL.of hA), _, rfl, by omega, by omega, compG_range (k := ys.length) (fun i zs H4 => H4 = H ∧ ∃ is : List Int, zs = is.map V.int ∧ is.length ≤ i ∧ is.sum = cstU ls u i) (Nat.le_of_lt (small1000 (by omega))) ⟨rfl, [], rfl, Nat.le_refl _, rfl⟩ ?_ ?_ ?_⟩
  · rintro i zs H4 hi ⟨rfl, is, rfl, il, ic⟩
    have e0 : (0 : Int) + (i : Int) = (i : Int) := Int.zero_add _
    rw [e0]
    obtain ⟨l, hl⟩ : ∃ l, ls[i]? = some l := ⟨_, List.getElem?_eq_getElem (by omega)⟩
    obtain ⟨y, hy, tl, rfl, htl⟩ := hL.2 i l hl
    refine ⟨rfl, ?_⟩
    refine ⟨_, rfl, _, rfl, _, _, rfl, rfl, (show (0 : Int) ≤ (i : Int) by omega), _, _, rfl, rfl, rfl, _, rfl, ?_⟩
    refine ite2 (fun c => ?_) (fun c => ?_)
    · have c' : u.testBit i = true := (bit_is u i).mp (V.int.inj (of_decide_eq_true c))
      refine ⟨_, rfl, _, rfl, la, _, _, _, rfl, rfl, SqL.of hA, atI_nat hy, tl, _, 2, _, rfl, rfl, SqT.of htl, a32, ?_⟩
      refine ⟨rfl, is ++ [l.2.2], by rw [List.map_append]; rfl, by rw [List.length_append]; show is.length + 1 ≤ _; omega, ?_⟩
      rw [List.sum_append, ic, (take_is hl c').2]
      show _ + (l.2.2 + 0) = _
      omega
    · have c' : u.testBit i = false := by
        cases b : u.testBit i with
        | false => rfl
        | true => exact absurd (decide_eq_true (congrArg V.int ((bit_is u i).mpr b))) c
      exact ⟨rfl, is, rfl, by omega, by rw [(leave_is ls c').2]; exact ic⟩
  · rintro zs H4 ⟨rfl, is, rfl, il, ic⟩ p hp
    rw [yl] at ic
    have s5 := same_new hp (.lst (is.map V.int))
    refine ⟨p, is, rfl, SqL.of upd_same, ?_⟩
    rw [ic]
    exact kk _ s5
  · rintro i zs H4 ⟨_, is, rfl, il, _⟩
    rw [List.length_map]
    exact il
end

end KF


namespace KF
open PySem L2
local macro_rules | `(tactic| walk_at "cc") => `(tactic| first | exact ⟨by decide, by decide⟩ | (show (0 : Int) < _; decide) | (show (0 : Int) < _; omega) | (show (0 : Int) ≤ _; omega) | exact ⟨by decide, by decide, by decide⟩ | exact ⟨by omega, by omega, by decide⟩ | exact Or.inl ⟨by decide, by decide⟩ | exact Or.inl ⟨by omega, by omega⟩)
local macro_rules | `(tactic| walk_at "rd") => `(tactic| repeat (first | refine ⟨_, rfl, ?_⟩ | refine ⟨_, _, rfl, rfl, ?_⟩ | refine ⟨rfl, ?_⟩ | (refine ⟨?cc, ?_⟩; (case cc => walk_at "cc"))))

structure LwA (n : Nat) (rs : List Nat) (pl : List Lk) (ws : List Nat) (u mk st : Nat) : Prop where
  n1 : 1 ≤ n
  n16 : n ≤ 16
  pk : PlOk n pl
  l40 : pl.length ≤ 40
  nl : n - 1 ≤ pl.length
  pos : 1 ≤ pl.length
  rl : rs.length = n
  nd : rs.Nodup
  rlt : ∀ x ∈ rs, x < n
  wy : WyI n pl ws n
  od : oddE (nmd rs pl) u pl.length = mk
  few : (bl mk).length ≤ 14
  sl : st ≤ pl.length
theorem LwA.ok {n : Nat} {rs : List Nat} {pl : List Lk} {ws : List Nat} {u mk st : Nat} (h : LwA n rs pl ws u mk st) : Lok n (nmd rs pl) := by
  have d := dr_of h.pk h.rl h.rlt pl.length (Nat.le_refl _)
  rw [List.take_of_length_le (by rw [nmd_len]; exact Nat.le_refl _)] at d
  have := h.n16
  have := h.l40
  exact ⟨by omega, by rw [nmd_len]; omega, d.sm, d.w0⟩
theorem rot_mem {α : Type} (es : List α) (st : Nat) (x : α) : x ∈ es.drop st ++ es.take st ↔ x ∈ es := by
  rw [List.mem_append]
  constructor
  · rintro (h | h)
    · exact List.mem_of_mem_drop h
    · exact List.mem_of_mem_take h
  · intro h
    rw [← List.take_append_drop st es] at h
    rcases List.mem_append.mp h with h | h
    · exact .inr h
    · exact .inl h
theorem rot_len {α : Type} (es : List α) {st : Nat} (h : st ≤ es.length) : (es.drop st ++ es.take st).length = es.length := by rw [List.length_append, List.length_drop, List.length_take]; omega
theorem LwA.conn {n : Nat} {rs : List Nat} {pl : List Lk} {ws : List Nat} {u mk st : Nat} (h : LwA n rs pl ws u mk st) {ls : List Lk} (hm : ∀ l ∈ nmd rs pl, l ∈ ls) : Conn n ls := by
  have d := dr_of h.pk h.rl h.rlt pl.length (Nat.le_refl _)
  rw [List.take_of_length_le (by rw [nmd_len]; exact Nat.le_refl _)] at d
  exact d.conn h.rl h.nd h.rlt h.n1 h.nl hm
theorem LwA.even {n : Nat} {rs : List Nat} {pl : List Lk} {ws : List Nat} {u mk st : Nat} (h : LwA n rs pl ws u mk st) : (bl mk).length % 2 = 0 := by
  have := odd_even h.ok (h.conn fun _ z => z) u
  rw [nmd_len, h.od] at this
  exact this
theorem LwA.mb {n : Nat} {rs : List Nat} {pl : List Lk} {ws : List Nat} {u mk st : Nat} (h : LwA n rs pl ws u mk st) : mk < 2 ^ n := by
  rw [← h.od, ← nmd_len rs pl]
  exact oddE_lt h.ok.sm u _ (Nat.le_refl _)
theorem LwA.swap {n : Nat} {rs : List Nat} {pl : List Lk} {ws : List Nat} {u mk st : Nat} (h : LwA n rs pl ws u mk st) {k wa wb : Nat} {l : Lk} (hl : pl[k]? = some l) (ha : ws[l.1]? = some wa) (hb : ws[l.2.1]? = some wb) : oddE (nmd rs pl) (u ^^^ 2 ^ k ^^^ wa ^^^ wb) (nmd rs pl).length = mk := by
  obtain ⟨g1, g2, _, _⟩ := h.pk k l hl
  have kl : k < pl.length := (List.getElem?_eq_some_iff.mp hl).1
  rw [nmd_len, oddE_xor, oddE_xor, oddE_xor, h.od, oddE_pow, if_pos kl, lkA_is (nmd_at hl), h.wy.od rs _ _ g1 ha, h.wy.od rs _ _ g2 hb]
  show mk ^^^ (2 ^ rs.getD l.1 0 ^^^ 2 ^ rs.getD l.2.1 0) ^^^ (2 ^ rs.getD 0 0 ^^^ 2 ^ rs.getD l.1 0) ^^^ (2 ^ rs.getD 0 0 ^^^ 2 ^ rs.getD l.2.1 0) = mk
  generalize 2 ^ rs.getD l.1 0 = A
  generalize 2 ^ rs.getD l.2.1 0 = B
  generalize 2 ^ rs.getD 0 0 = C
  refine Nat.eq_of_testBit_eq fun j => ?_
  simp only [Nat.testBit_xor]
  cases mk.testBit j <;> cases A.testBit j <;> cases B.testBit j <;> cases C.testBit j <;> rfl
theorem mo_at (b : Bool) : atI [V.int 8, V.int 14] (if b = true then 1 else 0) = some (V.int ((if b = true then 14 else 8 : Nat) : Int)) := by cases b <;> rfl
def rLaw (a TT : Addr) : TS := fun D σ H => ∃ (n : Nat) (ld cn : Int) (rs : List Nat) (pl : List Lk) (ws : List Nat) (u mk st : Nat) (pa wa na la ta : Addr) (ps ys : List V), σ = [some (.ref a), some (.int ld), some (.int (n : Int)), some (.int cn), some (.ref pa), some (.ref wa), some (.ref na), some (.ref la), some (.int (u : Int)), some (.int (mk : Int)), some (.int (st : Int)), some (.ref ta), none, none, none, none, none] ∧ LwA n rs pl ws u mk st ∧ H pa = some (.lst ps) ∧ LsAt LkAt H ps pl ∧ H wa = some (.lst (ws.map iV)) ∧ H la = some (.lst ys) ∧ LsAt LkAt H ys (nmd rs pl) ∧ H ta = some (.lst (ys.drop st ++ ys.take st)) ∧ Tb lqF lpF TT H ∧ ∀ H', D.rt (.bl true) H'
def spLaw (K : PySem.W.Frag) (TT : Addr) : Sp := fun vs H Q _ => ∃ (a : Addr) (ns : List Int), vs = [.ref a] ∧ SqL K H a (ns.map V.int) ∧ ns.length ≤ 63 ∧ Tb lqF lpF TT H ∧ ∀ H', Q (.bl true) H'
section
variable {P : Program} {w : World} {K : PySem.W.Frag} {mg : Str → Option Value} {base : Heap}
theorem sc_law : FnScope ["script", "lead", "many", "count", "plain", "ways", "names", "links", "used", "marks", "start", "turned", "handed", "found", "k", "link", "other"] ["script"] (defScope s_law) := ⟨rfl, rfl, rfl, by decide +kernel, rfl, by decide +kernel, by decide +kernel⟩
theorem ok_law {f f1 f2 f3 f4 f5 f6 f7 f8 f9 TT : Addr} {fd fd1 fd2 fd3 fd4 fd5 fd6 fd7 fd8 fd9 : FuncData} (F : Fun K "law" "law" s_law f fd) (T : TxtL mg) (G_law_cell_at : Cal P w K mg base 1 "_law_cell_at" ["script", "k"] (spCell K) f1 fd1) (G_law_link_by : Cal P w K mg base 2 "_law_link_by" ["script", "k", "many"] (spLink K) f2 fd2) (G_paired : Cal P w K mg base 11 "paired" ["many", "links", "marks"] (spPaired TT) f3 fd3)
    (G_law_whole : Cal P w K mg base 1 "_law_whole" ["found"] spWhole f4 fd4) (G_law_odd_ends : Cal P w K mg base 1 "_law_odd_ends" ["links", "used"] spOddE f5 fd5) (G_law_cost : Cal P w K mg base 1 "_law_cost" ["links", "used"] spCost f6 fd6)
    (G_law_ways : Cal P w K mg base 1 "_law_ways" ["links", "many"] spWays f7 fd7) (G_law_names : Cal P w K mg base 1 "_law_names" ["cell", "many"] spNames f8 fd8) (G_law_drawn : Cal P w K mg base 2 "_law_drawn" ["script", "links", "most"] (spDrawn K) f9 fd9) : FnOk P w K mg base CX0 12 f fd ["script"] (spLaw K TT) := by
  refine F.ok sc_law (fun vs H Q E h => ?_) (fun cdv A outer s H vs Q E hr h => ?_)
  · obtain ⟨a, ns, rfl, _⟩ := h
    rfl
  obtain ⟨a, ns, rfl, hS, h63, tb0, kl⟩ := h
  have hu64 := hr.units
  have hu := hu_of hr
  have nl : (ns.map V.int).length = ns.length := List.length_map ..
  obtain ⟨n, en, n2, n16⟩ : ∃ n : Nat, 2 + cellD ns 0 % 15 = (n : Int) ∧ 2 ≤ n ∧ n ≤ 16 := ⟨(2 + cellD ns 0 % 15).toNat, by omega, by omega, by omega⟩
  refine ⟨_, (pss_cons (ps_set (i := 1) sc_law.nd rfl (Or.inl rfl) (pe_call G_law_cell_at.ok (hr.mono (by decide)) rfl G_law_cell_at.mg G_law_cell_at.kp G_law_cell_at.bn .nil pass0 (pa_cons (pv 0) (pa_cons pe_int pa_nil))))
      (pss_cons (ps_set (i := 2) sc_law.nd rfl (Or.inr rfl) (pe_op op_add pe_int (pe_op op_mod (pv 1) pe_int)))
      (pss_cons (ps_set (i := 3) sc_law.nd rfl (Or.inl rfl) (pe_callB (call_min2 rfl) (by rfl) T.n_min bt_min (pa_cons pe_int (pa_cons (pe_callB (call_max2 rfl) (by rfl) T.n_max bt_max (pa_cons (pe_op op_sub (pv 2) pe_int) (pa_cons (pe_op op_fdiv (pe_op op_sub (pe_callB call_len_seq (by rfl) T.n_len bt_len (pa_cons (pv 0) pa_nil)) pe_int) pe_int) pa_nil))) pa_nil))))
      (pss_cons (ps_setCompG (i := 4) rfl sc_law.nd rfl rfl (fr := [("script", 0), ("many", 2)]) (xs := ["k"]) (CompG.of (by rfl) (by decide +kernel) (by rfl) (by decide +kernel) (by intro p hp; simp only [List.mem_cons, List.not_mem_nil, or_false] at hp; rcases hp with rfl | rfl <;> exact ⟨rfl, rfl⟩) (by decide +kernel) (by intro p hp; simp only [List.mem_cons, List.not_mem_nil, or_false] at hp; rcases hp with rfl | rfl <;> rfl)) (pi_range1 rfl T.n_range (pa_cons (pv 3) pa_nil)) (fun C ex s H => (pg_name (i := 0) (show (["k", "script", "many"] : List Str).Nodup from by decide +kernel) rfl (Or.inl rfl))) (fun C ex s H => pts_nil) (fun C ex s H => (pe_call G_law_link_by.ok (hr.mono (by decide)) rfl G_law_link_by.mg G_law_link_by.kp G_law_link_by.bn .nil pass0 (pa_cons (pv 1) (pa_cons (pv 0) (pa_cons (pv 2) pa_nil))))))
      (pss_cons (ps_set (i := 5) sc_law.nd rfl (Or.inl rfl) (pe_call G_law_ways.ok (hr.mono (by decide)) rfl G_law_ways.mg G_law_ways.kp G_law_ways.bn .nil pass0 (pa_cons (pv 4) (pa_cons (pv 2) pa_nil))))
      (pss_cons (ps_set (i := 6) sc_law.nd rfl (Or.inr rfl) (pe_call G_law_names.ok (hr.mono (by decide)) rfl G_law_names.mg G_law_names.kp G_law_names.bn .nil pass0 (pa_cons (pe_call G_law_cell_at.ok (hr.mono (by decide)) rfl G_law_cell_at.mg G_law_cell_at.kp G_law_cell_at.bn .nil pass0 (pa_cons (pv 0) (pa_cons pe_int pa_nil))) (pa_cons (pv 2) pa_nil))))
      (pss_cons (ps_setComp (i := 7) rfl sc_law.nd rfl rfl (fr := [("names", 6)]) (by exact CompOk.one (by rfl) (by decide +kernel) (by rfl) (by decide +kernel) (by rfl) (by decide +kernel) (by rfl) (by rfl) (by decide +kernel) (by rfl)) (pi_list (pv 4)) (fun C ex s H => (pe_tup (pa_cons (pe_ix (ixK_list (K := K) rfl) (pv 1) (pe_ix (ixK_tup (K := K) rfl) (pv 0) pe_int (fun _ _ => rfl)) (fun _ _ => rfl)) (pa_cons (pe_ix (ixK_list (K := K) rfl) (pv 1) (pe_ix (ixK_tup (K := K) rfl) (pv 0) pe_int (fun _ _ => rfl)) (fun _ _ => rfl)) (pa_cons (pe_ix (ixK_tup (K := K) rfl) (pv 0) pe_int (fun _ _ => rfl)) pa_nil))))))
      (pss_cons (ps_set (i := 8) sc_law.nd rfl (Or.inl rfl) (pe_call G_law_drawn.ok (hr.mono (by decide)) rfl G_law_drawn.mg G_law_drawn.kp G_law_drawn.bn .nil pass0 (pa_cons (pv 0) (pa_cons (pv 7) (pa_cons (pe_ix ix_list (pe_lst (pa_cons pe_int (pa_cons pe_int pa_nil))) (pe_callTy call_int1 (by rfl) T.n_int bt_int (pa_cons (pe_cmpR op_eq (pe_op op_mod (pe_op op_fdiv (pv 1) pe_int) pe_int) pe_int (nomark _)) pa_nil)) (fun _ _ => rfl)) pa_nil)))))
      (pss_cons (ps_set (i := 9) sc_law.nd rfl (Or.inl rfl) (pe_call G_law_odd_ends.ok (hr.mono (by decide)) rfl G_law_odd_ends.mg G_law_odd_ends.kp G_law_odd_ends.bn .nil pass0 (pa_cons (pv 7) (pa_cons (pv 8) pa_nil))))
      (pss_cons (ps_set (i := 10) sc_law.nd rfl (Or.inl rfl) (pe_op op_mod (pe_op op_fdiv (pe_call G_law_cell_at.ok (hr.mono (by decide)) rfl G_law_cell_at.mg G_law_cell_at.kp G_law_cell_at.bn .nil pass0 (pa_cons (pv 0) (pa_cons pe_int pa_nil))) pe_int) (pe_callB call_len_seq (by rfl) T.n_len bt_len (pa_cons (pv 7) pa_nil))))
      (pss_cons (ps_set (i := 11) sc_law.nd rfl (Or.inl rfl) (pe_op op_catS (pe_slice sl_list (pv 7) (po_some (pv 10)) po_none) (pe_slice sl_list (pv 7) po_none (po_some (pv 10)))))
      (pss_imp (t2 := rLaw a TT) (pss_cons (ps_set (i := 12) sc_law.nd rfl (Or.inl rfl) (pe_callTy call_list_of (by rfl) T.n_list bt_list (pa_cons (pv 11) pa_nil)))
      (pss_cons (ps_set (i := 13) sc_law.nd rfl (Or.inl rfl) (pe_call G_paired.ok (hr.mono (by decide)) rfl G_paired.mg G_paired.kp G_paired.bn .nil pass0 (pa_cons (pv 2) (pa_cons (pv 12) (pa_cons (pv 9) pa_nil)))))
      (pss_cons (ps_if (pt_cmpR (op_neD hu64) (pv 12) (pv 11) (nomark _)) (pss_one (ps_ret pe_bl)) pss_nil)
      (pss_cons (ps_if (PW.pt (pw_or (pt_not (pt_val (pe_callB call_isi (by rfl) T.n_isinstance bt_isinstance (pa_cons (pv 13) (pa_cons (pe_bltn (v := .ty "tuple") rfl T.n_tuple bt_tuple rfl) pa_nil))))) (pw_or1 (pt_cmpR op_ne (pe_callB call_len_seq (by rfl) T.n_len bt_len (pa_cons (pv 13) pa_nil)) pe_int (nomark _))))) (pss_one (ps_ret pe_bl)) pss_nil)
      (pss_cons (ps_if (PW.pt (pw_or (pt_not (pt_val (pe_call G_law_whole.ok (hr.mono (by decide)) rfl G_law_whole.mg G_law_whole.kp G_law_whole.bn .nil pass0 (pa_cons (pe_ix ix_tup (pv 13) pe_int (fun _ _ => rfl)) pa_nil)))) (pw_or1 (pt_not (pt_val (pe_call G_law_whole.ok (hr.mono (by decide)) rfl G_law_whole.mg G_law_whole.kp G_law_whole.bn .nil pass0 (pa_cons (pe_ix ix_tup (pv 13) pe_int (fun _ _ => rfl)) pa_nil))))))) (pss_one (ps_ret pe_bl)) pss_nil)
      (pss_cons (ps_if (PW.pt (pw_or (pt_cmpR op_lt (pe_ix ix_tup (pv 13) pe_int (fun _ _ => rfl)) pe_int (nomark _)) (pw_or (pt_cmpR op_ne (pe_op op_shr (pe_ix ix_tup (pv 13) pe_int (fun _ _ => rfl)) (pe_callB call_len_seq (by rfl) T.n_len bt_len (pa_cons (pv 7) pa_nil))) pe_int (nomark _)) (pw_or1 (pt_cmpR op_ne (pe_call G_law_odd_ends.ok (hr.mono (by decide)) rfl G_law_odd_ends.mg G_law_odd_ends.kp G_law_odd_ends.bn .nil pass0 (pa_cons (pv 11) (pa_cons (pe_ix ix_tup (pv 13) pe_int (fun _ _ => rfl)) pa_nil))) (pv 9) (nomark _)))))) (pss_one (ps_ret pe_bl)) pss_nil)
      (pss_cons (ps_if (pt_cmpR op_ne (pe_call G_law_cost.ok (hr.mono (by decide)) rfl G_law_cost.mg G_law_cost.kp G_law_cost.bn .nil pass0 (pa_cons (pv 11) (pa_cons (pe_ix ix_tup (pv 13) pe_int (fun _ _ => rfl)) pa_nil))) (pe_ix ix_tup (pv 13) pe_int (fun _ _ => rfl)) (nomark _)) (pss_one (ps_ret pe_bl)) pss_nil)
      (pss_cons (ps_if (pt_cmpR op_lt (pe_call G_law_cost.ok (hr.mono (by decide)) rfl G_law_cost.mg G_law_cost.kp G_law_cost.bn .nil pass0 (pa_cons (pv 7) (pa_cons (pv 8) pa_nil))) (pe_ix ix_tup (pv 13) pe_int (fun _ _ => rfl)) (nomark _)) (pss_one (ps_ret pe_bl)) pss_nil)
      (pss_cons (ps_for PassesOwn.never rfl (pi_range2 rfl T.n_range (pa_cons (pe_op op_sub (pv 2) pe_int) (pa_cons (pe_callB call_len_seq (by rfl) T.n_len bt_len (pa_cons (pv 7) pa_nil)) pa_nil))) (pg_name (i := 14) sc_law.nd rfl (Or.inl rfl)) (pss_cons (ps_set (i := 15) sc_law.nd rfl (Or.inl rfl) (pe_ix ix_list (pv 4) (pv 14) (fun _ _ => rfl)))
      (pss_cons (ps_set (i := 16) sc_law.nd rfl (Or.inl rfl) (pe_op op_xor (pe_op op_xor (pe_op op_xor (pv 8) (pe_op op_shl pe_int (pv 14))) (pe_ix ix_list (pv 5) (pe_ix ix_tup (pv 15) pe_int (fun _ _ => rfl)) (fun _ _ => rfl))) (pe_ix ix_list (pv 5) (pe_ix ix_tup (pv 15) pe_int (fun _ _ => rfl)) (fun _ _ => rfl))))
      (pss_one (ps_if (pt_cmpR op_lt (pe_call G_law_cost.ok (hr.mono (by decide)) rfl G_law_cost.mg G_law_cost.kp G_law_cost.bn .nil pass0 (pa_cons (pv 7) (pa_cons (pv 16) pa_nil))) (pe_ix ix_tup (pv 13) pe_int (fun _ _ => rfl)) (nomark _)) (pss_one (ps_ret pe_bl)) pss_nil)))))
      (pss_one (ps_ret pe_bl))))))))))) (fun D0 S0 H0 h0 => ?rest1))))))))))))), ?_⟩
  case rest1 =>
    obtain ⟨n, ld, cn, rs, pl, ws, u, mk, st, pa, wa, na, la, ta, ps, ys, rfl, A, hpa, hP, hwa, hla, hL, hta, tb1, kl⟩ := h0
    have ok := A.ok
    have n1 := A.n1
    have n16 := A.n16
    have l40 := A.l40
    have nl1 := A.nl
    have nml := nmd_len rs pl
    have yl := hL.1
    have mem := rot_mem (nmd rs pl) st
    have rl := rot_len (nmd rs pl) (st := st) (by rw [nml]; exact A.sl)
    have okT : Lok n ((nmd rs pl).drop st ++ (nmd rs pl).take st) := ⟨ok.n1, by rw [rl]; exact ok.l9, fun x hx => ok.sm x ((mem x).mp hx), fun x hx => ok.w0 x ((mem x).mp hx)⟩
    have hcT : Conn n ((nmd rs pl).drop st ++ (nmd rs pl).take st) := A.conn fun x hx => (mem x).mpr hx
    have hc : Conn n (nmd rs pl) := A.conn fun x hx => hx
    have fe := far_mem mem
    have hT := ls_rot hL st
    obtain ⟨ts, ets⟩ : ∃ ts, ys.drop st ++ ys.take st = ts := ⟨_, rfl⟩
    obtain ⟨tl, etl⟩ : ∃ tl, (nmd rs pl).drop st ++ (nmd rs pl).take st = tl := ⟨_, rfl⟩
    rw [ets] at hta hT
    rw [etl] at hT okT hcT rl fe
    have tsl := hT.1
    refine ⟨_, rfl, ta, ts, rfl, .inl (SqL.of hta), fun lb hlb => ?_⟩
    have s2 := same_new hlb (.lst ts)
    have tb2 := tb_same tb1 s2
    have hT2 : LsAt LkAt (upd H0 lb (.lst ts)) ts tl := hT.imp fun _ _ y => y.mono s2
    refine ⟨_, rfl, _, rfl, _, rfl, .ref lb, n, mk, tl, rfl, ⟨lb, ts, rfl, upd_same, hT2⟩, okT, n1, hcT, A.mb, A.even, A.few, tb2, fun t cost v H3 sm tb3 ht vlt ov op cv => ?_⟩
    have hta3 : H3 ta = some (.lst ts) := sm.lst (s2 _ _ hta)
    have hlb3 : H3 lb = some (.lst ts) := sm.lst upd_same
    have hT3 : LsAt LkAt H3 ts tl := hT2.imp fun _ _ ⟨t, e, z⟩ => ⟨t, e, sm.tup z⟩
    have hla3 : H3 la = some (.lst ys) := sm.lst (s2 _ _ hla)
    have hL3 : LsAt LkAt H3 ys (nmd rs pl) := hL.imp fun _ _ ⟨t, e, z⟩ => ⟨t, e, sm.tup (s2 _ _ z)⟩
    have hpa3 : H3 pa = some (.lst ps) := sm.lst (s2 _ _ hpa)
    have hP3 : LsAt LkAt H3 ps pl := hP.imp fun _ _ ⟨t, e, z⟩ => ⟨t, e, sm.tup (s2 _ _ z)⟩
    have hwa3 : H3 wa = some (.lst (ws.map iV)) := sm.lst (s2 _ _ hwa)
    have lnT : LnAt H3 (.ref ta) tl := ⟨ta, ts, rfl, hta3, hT3⟩
    have lnL : LnAt H3 (.ref la) (nmd rs pl) := ⟨la, ys, rfl, hla3, hL3⟩
    have opL : Opt (farD (nmd rs pl)) (bl mk) cost := by rw [← fe]; exact op
    have pl' := hP.1
    refine ⟨_, rfl, _, rfl, _, lks_rd (SqL.of hlb3) hT3, lks_rd (SqL.of hta3) hT3, lks_shaped _, _, rfl, iteF ?_⟩
    refine ⟨_, rfl, _, _, _, _, _, rfl, TyOf.tup ht, Or.inl ⟨_, rfl, rfl⟩, kit_tt K, _, rfl, iteF ?_⟩
    refine ⟨_, rfl, t, _, rfl, .inr (SqT.of ht), rfl, _, rfl, iteF ?_⟩
    refine ⟨_, rfl, t, _, 0, _, rfl, rfl, SqT.of ht, at0, _, rfl, _, rfl, iteF ?_⟩
    refine ⟨_, rfl, t, _, 1, _, rfl, rfl, SqT.of ht, at1, _, rfl, _, rfl, iteF ?_⟩
    refine ⟨_, rfl, t, _, 1, _, rfl, rfl, SqT.of ht, at1, _, _, rfl, rfl, _, rfl, ite2 (fun z => absurd (of_decide_eq_true z) (by omega)) (fun _ => ?_)⟩
    have e0 : (v : Int) / 2 ^ ((ys.length : Nat) : Int).toNat = 0 := by
      have e1 : (v : Int) / 2 ^ ((ys.length : Nat) : Int).toNat = ((v / 2 ^ ys.length : Nat) : Int) := by
        rw [Int.toNat_natCast]
        push_cast
        rfl
      rw [e1, yl, ← rl, Nat.div_eq_of_lt vlt]
      rfl
    refine ⟨_, rfl, t, _, 1, _, rfl, rfl, SqT.of ht, at1, _, rfl, la, _, rfl, .inl (SqL.of hla3), _, _, rfl, rfl, (by omega), rfl, _, rfl, iteNS (congrArg V.int e0) ?_⟩
    refine ⟨_, rfl, _, rfl, t, _, 1, _, rfl, rfl, SqT.of ht, at1, .ref ta, n, v, tl, rfl, lnT, okT, _, rfl, rfl, _, rfl, iteNS (by rw [ov]) ?_⟩
    have eq : cstU tl v tl.length = cost := by have := low_cost okT hcT op ov; omega
    refine ⟨_, rfl, _, rfl, t, _, 1, _, rfl, rfl, SqT.of ht, at1, .ref ta, n, v, tl, rfl, lnT, okT, fun H4 s4 => ?_⟩
    refine ⟨_, rfl, t, _, 0, _, rfl, rfl, SqT.of (s4 _ _ ht), at0, rfl, _, rfl, iteNS (by rw [eq]) ?_⟩
    have lc : ∀ q, oddE (nmd rs pl) q (nmd rs pl).length = mk → ¬ cstU (nmd rs pl) q (nmd rs pl).length < cost := fun q e z => by
      have := low_cost ok hc opL e
      omega
    refine ⟨_, rfl, _, rfl, .ref la, n, u, nmd rs pl, rfl, lnL.mono s4, ok, fun H5 s5 => ?_⟩
    have s45 := s4.trans s5
    refine ⟨_, rfl, t, _, 0, _, rfl, rfl, SqT.of (s45 _ _ ht), at0, _, _, rfl, rfl, _, rfl, ite2 (fun z => absurd (of_decide_eq_true z) (lc u (by rw [nml]; exact A.od))) (fun _ => ?_)⟩
    refine ⟨_, rfl, _, _, rfl, rfl, _, rfl, la, _, rfl, .inl (SqL.of (s45 _ _ hla3)), _, _, rfl, ⟨by omega, by omega, by omega, by omega⟩, ?_⟩
    refine for_range (lo := (n : Int) - 1) (n := ((ys.length : Int) - ((n : Int) - 1)).toNat) (fun i σ H6 => ∃ v14 v15 v16 : Option V, σ = [some (.ref a), some (.int ld), some (.int (n : Int)), some (.int cn), some (.ref pa), some (.ref wa), some (.ref na), some (.ref la), some (.int (u : Int)), some (.int (mk : Int)), some (.int (st : Int)), some (.ref ta), some (.ref lb), some (.ref t), v14, v15, v16] ∧ Same H3 H6) ⟨_, _, _, rfl, s45⟩ ?_ ?_
    · rintro i σ H6 hi ⟨v14, v15, v16, rfl, s6⟩
      obtain ⟨k, ek, kb⟩ : ∃ k : Nat, (n : Int) - 1 + (i : Int) = (k : Int) ∧ k < pl.length := ⟨((n : Int) - 1 + (i : Int)).toNat, by omega, by omega⟩
      rw [ek]
      obtain ⟨l, hl⟩ : ∃ l, pl[k]? = some l := ⟨_, List.getElem?_eq_getElem kb⟩
      obtain ⟨y, hy, tt, rfl, htt⟩ := hP3.2 k l hl
      have htt6 := s6 _ _ htt
      obtain ⟨g1, g2, _, _⟩ := A.pk k l hl
      have wl := A.wy.len
      obtain ⟨x1, hx1⟩ : ∃ x, ws[l.1]? = some x := ⟨_, List.getElem?_eq_getElem (by omega)⟩
      obtain ⟨x2, hx2⟩ : ∃ x, ws[l.2.1]? = some x := ⟨_, List.getElem?_eq_getElem (by omega)⟩
      have hwa6 := s6 _ _ hwa3
      have i1 : atI (ws.map iV) ((l.1 : Nat) : Int) = some (.int (x1 : Int)) := atI_nat (by rw [List.getElem?_map, hx1]; rfl)
      have i2 : atI (ws.map iV) ((l.2.1 : Nat) : Int) = some (.int (x2 : Int)) := atI_nat (by rw [List.getElem?_map, hx2]; rfl)
      have ex : Builtin.bitXor (Builtin.bitXor (Builtin.bitXor (u : Int) (1 * 2 ^ ((k : Nat) : Int).toNat)) (x1 : Int)) (x2 : Int) = ((u ^^^ 2 ^ k ^^^ x1 ^^^ x2 : Nat) : Int) := by rw [shlN, xorN, xorN, xorN]
      refine ⟨_, rfl, _, rfl, pa, _, _, _, rfl, rfl, SqL.of (s6 _ _ hpa3), atI_nat hy, ?_⟩
      refine ⟨_, rfl, _, rfl, _, _, rfl, rfl, ⟨by omega, by omega, by decide⟩, _, _, rfl, rfl, _, rfl, _, rfl, tt, _, 0, _, rfl, rfl, SqT.of htt6, a30, wa, _, _, _, rfl, rfl, SqL.of hwa6, i1, _, _, rfl, rfl, _, rfl, _, rfl, tt, _, 1, _, rfl, rfl, SqT.of htt6, a31, wa, _, _, _, rfl, rfl, SqL.of hwa6, i2, _, _, rfl, rfl, ?_⟩
      simp only [ex]
      refine ⟨_, rfl, _, rfl, .ref la, n, u ^^^ 2 ^ k ^^^ x1 ^^^ x2, nmd rs pl, rfl, lnL.mono s6, ok, fun H7 s7 => ?_⟩
      have s67 := s6.trans s7
      exact ⟨_, rfl, t, _, 0, _, rfl, rfl, SqT.of (s67 _ _ ht), at0, _, _, rfl, rfl, _, rfl, ite2 (fun z => absurd (of_decide_eq_true z) (lc _ (A.swap hl hx1 hx2))) (fun _ => ⟨_, _, _, rfl, s67⟩)⟩
    · rintro σ H6 ⟨v14, v15, v16, rfl, s6⟩
      exact kl _
  refine ⟨_, rfl, a, 0, ns, rfl, hS, ?_⟩
  refine ⟨_, rfl, _, _, rfl, rfl, (by show (0 : Int) < 15; decide), _, _, rfl, rfl, ?_⟩
  simp only [en]
  refine ⟨_, rfl, _, _, rfl, rfl, _, rfl, a, _, rfl, .inl hS, _, _, rfl, rfl, _, _, rfl, rfl, ⟨by decide, by decide⟩, _, _, rfl, _, _, rfl, ?_⟩
  have hM : (if (if (((ns.map V.int).length : Int) - 1) / 2 > (n : Int) - 1 then (((ns.map V.int).length : Int) - 1) / 2 else (n : Int) - 1) < 80 then (if (((ns.map V.int).length : Int) - 1) / 2 > (n : Int) - 1 then (((ns.map V.int).length : Int) - 1) / 2 else (n : Int) - 1) else 80) ≤ 40 ∧ (n : Int) - 1 ≤ (if (if (((ns.map V.int).length : Int) - 1) / 2 > (n : Int) - 1 then (((ns.map V.int).length : Int) - 1) / 2 else (n : Int) - 1) < 80 then (if (((ns.map V.int).length : Int) - 1) / 2 > (n : Int) - 1 then (((ns.map V.int).length : Int) - 1) / 2 else (n : Int) - 1) else 80) := by
    obtain ⟨q, eq, q40⟩ : ∃ q, (((ns.map V.int).length : Int) - 1) / 2 = q ∧ q ≤ 40 := ⟨_, rfl, by omega⟩
    rw [eq]
    by_cases c1 : q > (n : Int) - 1
    · rw [if_pos c1, if_pos (by omega)]; omega
    · rw [if_neg c1, if_pos (by omega)]; omega
  generalize (if (if (((ns.map V.int).length : Int) - 1) / 2 > (n : Int) - 1 then (((ns.map V.int).length : Int) - 1) / 2 else (n : Int) - 1) < 80 then (if (((ns.map V.int).length : Int) - 1) / 2 > (n : Int) - 1 then (((ns.map V.int).length : Int) - 1) / 2 else (n : Int) - 1) else 80) = Z at hM
  obtain ⟨M, rfl⟩ : ∃ M : Nat, Z = (M : Int) := ⟨Z.toNat, by omega⟩
  have M2 : n - 1 ≤ M := by omega
  have M1 : M ≤ 40 := by omega
  refine ⟨_, rfl, _, rfl, by omega, by omega, compG_range (k := M) (fun i zs H2 => Same H H2 ∧ ∃ pl, LsAt LkAt H2 zs pl ∧ PlOk n pl ∧ pl.length = i) (Nat.le_of_lt (small1000 (by omega))) ⟨(fun _ _ e => e), [], LsAt.nil, (fun k l e => by cases e), rfl⟩ ?_ ?_ ?_⟩
  · rintro i zs H2 hi ⟨s2, pl, hZ, pk, pln⟩
    have e0 : (0 : Int) + (i : Int) = (i : Int) := Int.zero_add _
    rw [e0]
    refine ⟨rfl, yesT ⟨_, rfl, _, rfl, _, rfl, a, i, n, ns, rfl, s2.seq hS, by omega, by omega, by omega, fun t l ht lk => ?_⟩⟩
    have s3 := same_new ht (.tup [.int (l.1 : Int), .int (l.2.1 : Int), .int l.2.2])
    refine ⟨s2.trans s3, pl ++ [l], (hZ.imp fun _ _ y => y.mono s3).snoc ⟨t, rfl, upd_same⟩, fun k l' e => ?_, by rw [List.length_append, pln]; rfl⟩
    rw [List.getElem?_append] at e
    by_cases c : k < pl.length
    · rw [if_pos c] at e
      exact pk k l' e
    · rw [if_neg c] at e
      have : k - pl.length = 0 := by
        rcases Nat.eq_zero_or_pos (k - pl.length) with z | z
        · exact z
        · rw [List.getElem?_eq_none (by show 1 ≤ _; omega)] at e; cases e
      rw [this] at e
      cases e
      have : k = i := by omega
      rw [this]
      exact lk
  rotate_left
  · rintro i zs H2 ⟨_, pl, hZ, _, pln⟩
    rw [hZ.1, pln]
    exact Nat.le_refl _
  rintro ps H2 ⟨s2, pl, hP, pk, pln⟩ pa hpa0
  have s3 := s2.trans (same_new hpa0 (.lst ps))
  have hP3 : LsAt LkAt (upd H2 pa (.lst ps)) ps pl := hP.imp fun _ _ y => y.mono (same_new hpa0 _)
  have psl := hP.1
  refine ⟨_, rfl, _, rfl, .ref pa, n, pl, rfl, ⟨pa, ps, rfl, upd_same, hP3⟩, pk, by omega, by omega, by omega, fun wa ws H4 s4 hwa0 hwa wy => ?_⟩
  have s34 := s3.trans s4
  refine ⟨_, rfl, a, 1, ns, rfl, s34.seq hS, _, rfl, cellD ns 1, n, rfl, by omega, fun na rs H5 s5 hna0 hna rl nd rlt => ?_⟩
  have s45 := s4.trans s5
  have hpa3 : upd H2 pa (.lst ps) pa = some (.lst ps) := upd_same
  have hpa5 := s45 _ _ hpa3
  have hP5 : LsAt LkAt H5 ps pl := hP3.imp fun _ _ y => y.mono s45
  have at' : ∀ k, k < n → (rs.map iV)[k]? = some (iV (rs.getD k 0)) := fun k hk => by rw [List.getElem?_map, List.getD_eq_getElem?_getD, List.getElem?_eq_getElem (by omega)]; rfl
  refine ⟨_, rfl, pa, rfl, ⟨_, SqL.of hpa5⟩, comp_list (K := K) (xs := ps) (fun i zs H6 => Same H5 H6 ∧ LsAt LkAt H6 zs ((nmd rs pl).take i)) (Nat.le_of_lt (small1000 (by omega))) ⟨(fun _ _ e => e), LsAt.nil⟩ (fun i zs H6 _ z => SqL.of (z.1 _ _ hpa5)) ?_ ?_⟩
  · rintro i x zs H6 hx ⟨s6, hZ⟩
    obtain ⟨l, hl, p, rfl, hp⟩ := hP5.get hx
    have hp6 := s6 _ _ hp
    have hna6 := s6 _ _ hna
    obtain ⟨g1, g2, _, _⟩ := pk i l hl
    refine ⟨_, rfl, _, rfl, p, _, 0, _, rfl, rfl, SqT.of hp6, a30, na, _, _, _, rfl, rfl, SqL.of hna6, atI_nat (at' _ g1), _, rfl, _, rfl, p, _, 1, _, rfl, rfl, SqT.of hp6, a31, na, _, _, _, rfl, rfl, SqL.of hna6, atI_nat (at' _ g2), _, rfl, p, _, 2, _, rfl, rfl, SqT.of hp6, a32, (by show 3 ≤ sizeLine; decide), fun t ht => ?_⟩
    have s7 := same_new ht (.tup [iV (rs.getD l.1 0), iV (rs.getD l.2.1 0), .int l.2.2])
    refine ⟨s6.trans s7, ?_⟩
    rw [List.take_add_one, nmd_at hl]
    exact (hZ.imp fun _ _ y => y.mono s7).snoc (x := (rs.getD l.1 0, rs.getD l.2.1 0, l.2.2)) ⟨t, rfl, upd_same⟩
  rintro ys H6 _ ⟨s6, hZ⟩ la hla0
  have nml := nmd_len rs pl
  rw [psl, ← nml, List.take_length] at hZ
  have t6 := same_new hla0 (.lst ys)
  have s7 := s6.trans t6
  have hL7 : LsAt LkAt (upd H6 la (.lst ys)) ys (nmd rs pl) := hZ.imp fun _ _ y => y.mono t6
  have yl := hL7.1
  have s07 := s34.trans (s5.trans s7)
  have A0 : LwA n rs pl ws 0 0 0 := ⟨by omega, n16, pk, by omega, by omega, by omega, rl, nd, rlt, wy, oddE_zero _ _, by rw [bl_zero]; exact Nat.zero_le _, Nat.zero_le _⟩
  have ok := A0.ok
  refine ⟨_, rfl, _, rfl, (by show 2 ≤ sizeLine; decide), fun q hq => ?_⟩
  have t8 := same_new hq (.lst [.int 8, .int 14])
  refine ⟨_, rfl, _, _, rfl, rfl, ⟨by decide, by decide⟩, _, _, rfl, rfl, (by show (0 : Int) < 8; decide), rfl, .inr ⟨_, rfl, ?_⟩⟩
  refine ⟨q, _, _, _, rfl, rfl, SqL.of upd_same, mo_at _, a, .ref la, n, _, ns, nmd rs pl, rfl, (s07.trans t8).seq hS, ⟨la, ys, rfl, t8 _ _ upd_same, hL7.imp fun _ _ y => y.mono t8⟩, ok, fun u ub few => ?_⟩
  have few14 : (bl (oddE (nmd rs pl) u (nmd rs pl).length)).length ≤ 14 := Nat.le_trans few (by split <;> omega)
  have s08 := s07.trans t8
  have hla7 : upd H6 la (.lst ys) la = some (.lst ys) := upd_same
  have hla8 := t8 _ _ hla7
  have hL8 : LsAt LkAt (upd (upd H6 la (.lst ys)) q (.lst [.int 8, .int 14])) ys (nmd rs pl) := hL7.imp fun _ _ y => y.mono t8
  refine ⟨_, rfl, _, rfl, .ref la, n, u, nmd rs pl, rfl, ⟨la, ys, rfl, hla8, hL8⟩, ok, ?_⟩
  have mp : (0 : Int) < ((ys.length : Nat) : Int) := by omega
  refine ⟨_, rfl, a, 1, ns, rfl, s08.seq hS, _, _, rfl, rfl, ⟨by decide, by decide⟩, _, rfl, la, _, rfl, .inl (SqL.of hla8), _, _, rfl, rfl, mp, ?_⟩
  obtain ⟨st, est, sb⟩ : ∃ t : Nat, cellD ns 1 / 7 % ((ys.length : Nat) : Int) = (t : Int) ∧ t < ys.length := ⟨(cellD ns 1 / 7 % ((ys.length : Nat) : Int)).toNat, by have := Int.emod_nonneg (cellD ns 1 / 7) (show ((ys.length : Nat) : Int) ≠ 0 by omega); omega, by have := Int.emod_lt_of_pos (cellD ns 1 / 7) mp; have := Int.emod_nonneg (cellD ns 1 / 7) (show ((ys.length : Nat) : Int) ≠ 0 by omega); omega⟩
  simp only [est]
  have sl : st ≤ ys.length := by omega
  refine ⟨_, rfl, _, rfl, _, rfl, la, _, rfl, SqL.of hla8, fun p1 hp1 => ?_⟩
  rw [cut_hi sl]
  have t1 := same_new hp1 (.lst (ys.drop st))
  refine ⟨_, rfl, _, rfl, _, rfl, la, _, rfl, SqL.of (t1 _ _ hla8), fun p2 hp2 => ?_⟩
  rw [cut_lo sl]
  have t2 := same_new hp2 (.lst (ys.take st))
  refine ⟨p1, p2, _, _, rfl, rfl, SqL.of (t2 _ _ upd_same), SqL.of upd_same, Nat.le_of_lt (small1000 (by rw [List.length_drop, List.length_take]; omega)), fun p3 hp3 => ?_⟩
  have t3 := same_new hp3 (.lst (ys.drop st ++ ys.take st))
  have t123 := t1.trans (t2.trans t3)
  have t78 := t8.trans t123
  have t58 := s7.trans t78
  exact ⟨n, _, _, rs, pl, ws, u, _, st, pa, wa, na, la, p3, ps, ys, rfl, ⟨by omega, n16, pk, by omega, by omega, by omega, rl, nd, rlt, wy, by rw [nml], few14, by omega⟩, t58 _ _ hpa5, hP5.imp fun _ _ y => y.mono t58, (s5.trans t58) _ _ hwa, t78 _ _ hla7, hL7.imp fun _ _ y => y.mono t78, upd_same, tb_same tb0 (s07.trans t78), kl⟩
end

end KF

namespace KF
open PySem L2
theorem tabIn_mk {K : PySem.W.Frag} {x : Str} {f c T : Addr} {o1 o3 : Value} {o2 o4 : Option Addr} {o5 o6 : Array (Option Value)} {fd : FuncData} {vs : Array Value} (a : PySem.W.nsIn K mainGlobals x = some (some (.ref f))) (l : K.lookup f = some ⟨o1, o2, .func fd, o5⟩) (e : fd.code = .ref c) (lc : K.lookup c = some ⟨o3, o4, .fields vs, o6⟩) (v : vs[11]? = some (.ref T)) : PySem.W.tabIn K x = some (c, T) := by
  unfold PySem.W.tabIn
  rw [a]
  simp only [l, e, lc, v]
theorem all_mk {l : PySem.W.OpenLaw} {w : World} {K : PySem.W.Frag} {h : Heap} {mg : Str → Option Value} {fa f_reached f_beyond f_links_at f_fares f_row_to f_whole f_bits f_ones f_odd f_mask_of f_refuse_marks f_chosen_of f_laid_in_pairs f_new_table f_paired f_law_cell_at f_law_names f_law_link_by f_law_count f_law_drawn f_law_ways f_law_cost f_law_odd_ends f_law_whole f_law : Addr} {cT TT : Addr} {oT : Value} {dT : Option Addr} {vT : Array Value} {sT : Array (Option Value)} (X : K.In h) (G : h.Ns mainGlobals mg) (hfa : mg "law" = some (.ref fa))
    {od_reached an_reached od_beyond an_beyond od_links_at an_links_at od_fares an_fares od_row_to an_row_to od_whole an_whole od_bits an_bits od_ones an_ones od_odd an_odd od_mask_of an_mask_of od_refuse_marks an_refuse_marks od_chosen_of an_chosen_of od_laid_in_pairs an_laid_in_pairs od_new_table an_new_table od_paired an_paired od_law_cell_at an_law_cell_at od_law_names an_law_names od_law_link_by an_law_link_by od_law_count an_law_count od_law_drawn an_law_drawn od_law_ways an_law_ways od_law_cost an_law_cost od_law_odd_ends an_law_odd_ends od_law_whole an_law_whole od_law an_law : Option Addr} {sl_reached sl_beyond sl_links_at sl_fares sl_row_to sl_whole sl_bits sl_ones sl_odd sl_mask_of sl_refuse_marks sl_chosen_of sl_laid_in_pairs sl_new_table sl_paired sl_law_cell_at sl_law_names sl_law_link_by sl_law_count sl_law_drawn sl_law_ways sl_law_cost sl_law_odd_ends sl_law_whole sl_law : Array (Option Value)} {oc_reached kV_reached dc_reached pm_reached cd_reached ct_reached oc_beyond kV_beyond dc_beyond pm_beyond cd_beyond ct_beyond oc_links_at kV_links_at dc_links_at pm_links_at cd_links_at ct_links_at oc_fares kV_fares dc_fares pm_fares cd_fares ct_fares oc_row_to kV_row_to dc_row_to pm_row_to cd_row_to ct_row_to oc_whole kV_whole dc_whole pm_whole cd_whole ct_whole oc_bits kV_bits dc_bits pm_bits cd_bits ct_bits oc_ones kV_ones dc_ones pm_ones cd_ones ct_ones oc_odd kV_odd dc_odd pm_odd cd_odd ct_odd oc_mask_of kV_mask_of dc_mask_of pm_mask_of cd_mask_of ct_mask_of oc_refuse_marks kV_refuse_marks dc_refuse_marks pm_refuse_marks cd_refuse_marks ct_refuse_marks oc_chosen_of kV_chosen_of dc_chosen_of pm_chosen_of cd_chosen_of ct_chosen_of oc_laid_in_pairs kV_laid_in_pairs dc_laid_in_pairs pm_laid_in_pairs cd_laid_in_pairs ct_laid_in_pairs oc_new_table kV_new_table dc_new_table pm_new_table cd_new_table ct_new_table oc_paired kV_paired dc_paired pm_paired cd_paired ct_paired oc_law_cell_at kV_law_cell_at dc_law_cell_at pm_law_cell_at cd_law_cell_at ct_law_cell_at oc_law_names kV_law_names dc_law_names pm_law_names cd_law_names ct_law_names oc_law_link_by kV_law_link_by dc_law_link_by pm_law_link_by cd_law_link_by ct_law_link_by oc_law_count kV_law_count dc_law_count pm_law_count cd_law_count ct_law_count oc_law_drawn kV_law_drawn dc_law_drawn pm_law_drawn cd_law_drawn ct_law_drawn oc_law_ways kV_law_ways dc_law_ways pm_law_ways cd_law_ways ct_law_ways oc_law_cost kV_law_cost dc_law_cost pm_law_cost cd_law_cost ct_law_cost oc_law_odd_ends kV_law_odd_ends dc_law_odd_ends pm_law_odd_ends cd_law_odd_ends ct_law_odd_ends oc_law_whole kV_law_whole dc_law_whole pm_law_whole cd_law_whole ct_law_whole oc_law kV_law dc_law pm_law cd_law ct_law : Value}
    {ti_most : Tok}
    (a_reached : PySem.W.nsIn K mainGlobals "reached" = some (some (.ref f_reached)))
    (l_reached : K.lookup f_reached = some ⟨oc_reached, od_reached, .func (PySem.W.fnOf "reached" "reached" (defArgs s_reached) (defBody s_reached) (defScope s_reached) .none kV_reached dc_reached pm_reached an_reached cd_reached ct_reached), sl_reached⟩)
    (c_reached : PySem.W.codeIn K cd_reached "reached" = true)
    (k_reached : PySem.W.keepIn K (.ref f_reached) = true)
    (a_beyond : PySem.W.nsIn K mainGlobals "beyond" = some (some (.ref f_beyond)))
    (l_beyond : K.lookup f_beyond = some ⟨oc_beyond, od_beyond, .func (PySem.W.fnOf "beyond" "beyond" (defArgs s_beyond) (defBody s_beyond) (defScope s_beyond) .none kV_beyond dc_beyond pm_beyond an_beyond cd_beyond ct_beyond), sl_beyond⟩)
    (c_beyond : PySem.W.codeIn K cd_beyond "beyond" = true)
    (k_beyond : PySem.W.keepIn K (.ref f_beyond) = true)
    (a_links_at : PySem.W.nsIn K mainGlobals "links_at" = some (some (.ref f_links_at)))
    (l_links_at : K.lookup f_links_at = some ⟨oc_links_at, od_links_at, .func (PySem.W.fnOf "links_at" "links_at" (defArgs s_links_at) (defBody s_links_at) (defScope s_links_at) .none kV_links_at dc_links_at pm_links_at an_links_at cd_links_at ct_links_at), sl_links_at⟩)
    (c_links_at : PySem.W.codeIn K cd_links_at "links_at" = true)
    (k_links_at : PySem.W.keepIn K (.ref f_links_at) = true)
    (a_fares : PySem.W.nsIn K mainGlobals "fares" = some (some (.ref f_fares)))
    (l_fares : K.lookup f_fares = some ⟨oc_fares, od_fares, .func (PySem.W.fnOf "fares" "fares" (defArgs s_fares) (defBody s_fares) (defScope s_fares) .none kV_fares dc_fares pm_fares an_fares cd_fares ct_fares), sl_fares⟩)
    (c_fares : PySem.W.codeIn K cd_fares "fares" = true)
    (k_fares : PySem.W.keepIn K (.ref f_fares) = true)
    (a_row_to : PySem.W.nsIn K mainGlobals "row_to" = some (some (.ref f_row_to)))
    (l_row_to : K.lookup f_row_to = some ⟨oc_row_to, od_row_to, .func (PySem.W.fnOf "row_to" "row_to" (defArgs s_row_to) (defBody s_row_to) (defScope s_row_to) .none kV_row_to dc_row_to pm_row_to an_row_to cd_row_to ct_row_to), sl_row_to⟩)
    (c_row_to : PySem.W.codeIn K cd_row_to "row_to" = true)
    (k_row_to : PySem.W.keepIn K (.ref f_row_to) = true)
    (a_whole : PySem.W.nsIn K mainGlobals "whole" = some (some (.ref f_whole)))
    (l_whole : K.lookup f_whole = some ⟨oc_whole, od_whole, .func (PySem.W.fnOf "whole" "whole" (defArgs s_whole) (defBody s_whole) (defScope s_whole) .none kV_whole dc_whole pm_whole an_whole cd_whole ct_whole), sl_whole⟩)
    (c_whole : PySem.W.codeIn K cd_whole "whole" = true)
    (k_whole : PySem.W.keepIn K (.ref f_whole) = true)
    (a_bits : PySem.W.nsIn K mainGlobals "bits" = some (some (.ref f_bits)))
    (l_bits : K.lookup f_bits = some ⟨oc_bits, od_bits, .func (PySem.W.fnOf "bits" "bits" (defArgs s_bits) (defBody s_bits) (defScope s_bits) .none kV_bits dc_bits pm_bits an_bits cd_bits ct_bits), sl_bits⟩)
    (c_bits : PySem.W.codeIn K cd_bits "bits" = true)
    (k_bits : PySem.W.keepIn K (.ref f_bits) = true)
    (a_ones : PySem.W.nsIn K mainGlobals "ones" = some (some (.ref f_ones)))
    (l_ones : K.lookup f_ones = some ⟨oc_ones, od_ones, .func (PySem.W.fnOf "ones" "ones" (defArgs s_ones) (defBody s_ones) (defScope s_ones) .none kV_ones dc_ones pm_ones an_ones cd_ones ct_ones), sl_ones⟩)
    (c_ones : PySem.W.codeIn K cd_ones "ones" = true)
    (k_ones : PySem.W.keepIn K (.ref f_ones) = true)
    (a_odd : PySem.W.nsIn K mainGlobals "odd" = some (some (.ref f_odd)))
    (l_odd : K.lookup f_odd = some ⟨oc_odd, od_odd, .func (PySem.W.fnOf "odd" "odd" (defArgs s_odd) (defBody s_odd) (defScope s_odd) .none kV_odd dc_odd pm_odd an_odd cd_odd ct_odd), sl_odd⟩)
    (c_odd : PySem.W.codeIn K cd_odd "odd" = true)
    (k_odd : PySem.W.keepIn K (.ref f_odd) = true)
    (a_mask_of : PySem.W.nsIn K mainGlobals "mask_of" = some (some (.ref f_mask_of)))
    (l_mask_of : K.lookup f_mask_of = some ⟨oc_mask_of, od_mask_of, .func (PySem.W.fnOf "mask_of" "mask_of" (defArgs s_mask_of) (defBody s_mask_of) (defScope s_mask_of) .none kV_mask_of dc_mask_of pm_mask_of an_mask_of cd_mask_of ct_mask_of), sl_mask_of⟩)
    (c_mask_of : PySem.W.codeIn K cd_mask_of "mask_of" = true)
    (k_mask_of : PySem.W.keepIn K (.ref f_mask_of) = true)
    (a_refuse_marks : PySem.W.nsIn K mainGlobals "refuse_marks" = some (some (.ref f_refuse_marks)))
    (l_refuse_marks : K.lookup f_refuse_marks = some ⟨oc_refuse_marks, od_refuse_marks, .func (PySem.W.fnOf "refuse_marks" "refuse_marks" (defArgs s_refuse_marks) (defBody s_refuse_marks) (defScope s_refuse_marks) .none kV_refuse_marks dc_refuse_marks pm_refuse_marks an_refuse_marks cd_refuse_marks ct_refuse_marks), sl_refuse_marks⟩)
    (c_refuse_marks : PySem.W.codeIn K cd_refuse_marks "refuse_marks" = true)
    (k_refuse_marks : PySem.W.keepIn K (.ref f_refuse_marks) = true)
    (a_chosen_of : PySem.W.nsIn K mainGlobals "chosen_of" = some (some (.ref f_chosen_of)))
    (l_chosen_of : K.lookup f_chosen_of = some ⟨oc_chosen_of, od_chosen_of, .func (PySem.W.fnOf "chosen_of" "chosen_of" (defArgs s_chosen_of) (defBody s_chosen_of) (defScope s_chosen_of) .none kV_chosen_of dc_chosen_of pm_chosen_of an_chosen_of cd_chosen_of ct_chosen_of), sl_chosen_of⟩)
    (c_chosen_of : PySem.W.codeIn K cd_chosen_of "chosen_of" = true)
    (k_chosen_of : PySem.W.keepIn K (.ref f_chosen_of) = true)
    (a_laid_in_pairs : PySem.W.nsIn K mainGlobals "laid_in_pairs" = some (some (.ref f_laid_in_pairs)))
    (l_laid_in_pairs : K.lookup f_laid_in_pairs = some ⟨oc_laid_in_pairs, od_laid_in_pairs, .func (PySem.W.fnOf "laid_in_pairs" "laid_in_pairs" (defArgs s_laid_in_pairs) (defBody s_laid_in_pairs) (defScope s_laid_in_pairs) .none kV_laid_in_pairs dc_laid_in_pairs pm_laid_in_pairs an_laid_in_pairs cd_laid_in_pairs ct_laid_in_pairs), sl_laid_in_pairs⟩)
    (c_laid_in_pairs : PySem.W.codeIn K cd_laid_in_pairs "laid_in_pairs" = true)
    (k_laid_in_pairs : PySem.W.keepIn K (.ref f_laid_in_pairs) = true)
    (a_new_table : PySem.W.nsIn K mainGlobals "new_table" = some (some (.ref f_new_table)))
    (l_new_table : K.lookup f_new_table = some ⟨oc_new_table, od_new_table, .func (PySem.W.fnOf "new_table" "new_table" (defArgs s_new_table) (defBody s_new_table) (defScope s_new_table) .none kV_new_table dc_new_table pm_new_table an_new_table cd_new_table ct_new_table), sl_new_table⟩)
    (c_new_table : PySem.W.codeIn K cd_new_table "new_table" = true)
    (k_new_table : PySem.W.keepIn K (.ref f_new_table) = true)
    (a_paired : PySem.W.nsIn K mainGlobals "paired" = some (some (.ref f_paired)))
    (l_paired : K.lookup f_paired = some ⟨oc_paired, od_paired, .func (PySem.W.fnOf "paired" "paired" (defArgs s_paired) (defBody s_paired) (defScope s_paired) .none kV_paired dc_paired pm_paired an_paired cd_paired ct_paired), sl_paired⟩)
    (c_paired : PySem.W.codeIn K cd_paired "paired" = true)
    (k_paired : PySem.W.keepIn K (.ref f_paired) = true)
    (a_law_cell_at : PySem.W.nsIn K mainGlobals "_law_cell_at" = some (some (.ref f_law_cell_at)))
    (l_law_cell_at : K.lookup f_law_cell_at = some ⟨oc_law_cell_at, od_law_cell_at, .func (PySem.W.fnOf "_law_cell_at" "_law_cell_at" (defArgs s_law_cell_at) (defBody s_law_cell_at) (defScope s_law_cell_at) .none kV_law_cell_at dc_law_cell_at pm_law_cell_at an_law_cell_at cd_law_cell_at ct_law_cell_at), sl_law_cell_at⟩)
    (c_law_cell_at : PySem.W.codeIn K cd_law_cell_at "_law_cell_at" = true)
    (k_law_cell_at : PySem.W.keepIn K (.ref f_law_cell_at) = true)
    (a_law_names : PySem.W.nsIn K mainGlobals "_law_names" = some (some (.ref f_law_names)))
    (l_law_names : K.lookup f_law_names = some ⟨oc_law_names, od_law_names, .func (PySem.W.fnOf "_law_names" "_law_names" (defArgs s_law_names) (defBody s_law_names) (defScope s_law_names) .none kV_law_names dc_law_names pm_law_names an_law_names cd_law_names ct_law_names), sl_law_names⟩)
    (c_law_names : PySem.W.codeIn K cd_law_names "_law_names" = true)
    (k_law_names : PySem.W.keepIn K (.ref f_law_names) = true)
    (a_law_link_by : PySem.W.nsIn K mainGlobals "_law_link_by" = some (some (.ref f_law_link_by)))
    (l_law_link_by : K.lookup f_law_link_by = some ⟨oc_law_link_by, od_law_link_by, .func (PySem.W.fnOf "_law_link_by" "_law_link_by" (defArgs s_law_link_by) (defBody s_law_link_by) (defScope s_law_link_by) .none kV_law_link_by dc_law_link_by pm_law_link_by an_law_link_by cd_law_link_by ct_law_link_by), sl_law_link_by⟩)
    (c_law_link_by : PySem.W.codeIn K cd_law_link_by "_law_link_by" = true)
    (k_law_link_by : PySem.W.keepIn K (.ref f_law_link_by) = true)
    (a_law_count : PySem.W.nsIn K mainGlobals "_law_count" = some (some (.ref f_law_count)))
    (l_law_count : K.lookup f_law_count = some ⟨oc_law_count, od_law_count, .func (PySem.W.fnOf "_law_count" "_law_count" (defArgs s_law_count) (defBody s_law_count) (defScope s_law_count) .none kV_law_count dc_law_count pm_law_count an_law_count cd_law_count ct_law_count), sl_law_count⟩)
    (c_law_count : PySem.W.codeIn K cd_law_count "_law_count" = true)
    (k_law_count : PySem.W.keepIn K (.ref f_law_count) = true)
    (a_law_drawn : PySem.W.nsIn K mainGlobals "_law_drawn" = some (some (.ref f_law_drawn)))
    (l_law_drawn : K.lookup f_law_drawn = some ⟨oc_law_drawn, od_law_drawn, .func (PySem.W.fnOf "_law_drawn" "_law_drawn" (defArgs s_law_drawn) (defBody s_law_drawn) (defScope s_law_drawn) .none kV_law_drawn dc_law_drawn pm_law_drawn an_law_drawn cd_law_drawn ct_law_drawn), sl_law_drawn⟩)
    (c_law_drawn : PySem.W.codeIn K cd_law_drawn "_law_drawn" = true)
    (k_law_drawn : PySem.W.keepIn K (.ref f_law_drawn) = true)
    (a_law_ways : PySem.W.nsIn K mainGlobals "_law_ways" = some (some (.ref f_law_ways)))
    (l_law_ways : K.lookup f_law_ways = some ⟨oc_law_ways, od_law_ways, .func (PySem.W.fnOf "_law_ways" "_law_ways" (defArgs s_law_ways) (defBody s_law_ways) (defScope s_law_ways) .none kV_law_ways dc_law_ways pm_law_ways an_law_ways cd_law_ways ct_law_ways), sl_law_ways⟩)
    (c_law_ways : PySem.W.codeIn K cd_law_ways "_law_ways" = true)
    (k_law_ways : PySem.W.keepIn K (.ref f_law_ways) = true)
    (a_law_cost : PySem.W.nsIn K mainGlobals "_law_cost" = some (some (.ref f_law_cost)))
    (l_law_cost : K.lookup f_law_cost = some ⟨oc_law_cost, od_law_cost, .func (PySem.W.fnOf "_law_cost" "_law_cost" (defArgs s_law_cost) (defBody s_law_cost) (defScope s_law_cost) .none kV_law_cost dc_law_cost pm_law_cost an_law_cost cd_law_cost ct_law_cost), sl_law_cost⟩)
    (c_law_cost : PySem.W.codeIn K cd_law_cost "_law_cost" = true)
    (k_law_cost : PySem.W.keepIn K (.ref f_law_cost) = true)
    (a_law_odd_ends : PySem.W.nsIn K mainGlobals "_law_odd_ends" = some (some (.ref f_law_odd_ends)))
    (l_law_odd_ends : K.lookup f_law_odd_ends = some ⟨oc_law_odd_ends, od_law_odd_ends, .func (PySem.W.fnOf "_law_odd_ends" "_law_odd_ends" (defArgs s_law_odd_ends) (defBody s_law_odd_ends) (defScope s_law_odd_ends) .none kV_law_odd_ends dc_law_odd_ends pm_law_odd_ends an_law_odd_ends cd_law_odd_ends ct_law_odd_ends), sl_law_odd_ends⟩)
    (c_law_odd_ends : PySem.W.codeIn K cd_law_odd_ends "_law_odd_ends" = true)
    (k_law_odd_ends : PySem.W.keepIn K (.ref f_law_odd_ends) = true)
    (a_law_whole : PySem.W.nsIn K mainGlobals "_law_whole" = some (some (.ref f_law_whole)))
    (l_law_whole : K.lookup f_law_whole = some ⟨oc_law_whole, od_law_whole, .func (PySem.W.fnOf "_law_whole" "_law_whole" (defArgs s_law_whole) (defBody s_law_whole) (defScope s_law_whole) .none kV_law_whole dc_law_whole pm_law_whole an_law_whole cd_law_whole ct_law_whole), sl_law_whole⟩)
    (c_law_whole : PySem.W.codeIn K cd_law_whole "_law_whole" = true)
    (k_law_whole : PySem.W.keepIn K (.ref f_law_whole) = true)
    (a_law : PySem.W.nsIn K mainGlobals "law" = some (some (.ref f_law)))
    (l_law : K.lookup f_law = some ⟨oc_law, od_law, .func (PySem.W.fnOf "law" "law" (defArgs s_law) (defBody s_law) (defScope s_law) .none kV_law dc_law pm_law an_law cd_law ct_law), sl_law⟩)
    (c_law : PySem.W.codeIn K cd_law "law" = true)
    (k_law : PySem.W.keepIn K (.ref f_law) = true)
    (gi_most : PySem.W.nsIn K mainGlobals "MOST_MARKS" = some (some (.int 14 ti_most)))
    (z_len : PySem.W.nsIn K mainGlobals "len" = some none)
    (z_int : PySem.W.nsIn K mainGlobals "int" = some none)
    (z_bool : PySem.W.nsIn K mainGlobals "bool" = some none)
    (z_list : PySem.W.nsIn K mainGlobals "list" = some none)
    (z_tuple : PySem.W.nsIn K mainGlobals "tuple" = some none)
    (z_range : PySem.W.nsIn K mainGlobals "range" = some none)
    (z_min : PySem.W.nsIn K mainGlobals "min" = some none)
    (z_abs : PySem.W.nsIn K mainGlobals "abs" = some none)
    (z_enumerate : PySem.W.nsIn K mainGlobals "enumerate" = some none)
    (z_isinstance : PySem.W.nsIn K mainGlobals "isinstance" = some none)
    (z_reversed : PySem.W.nsIn K mainGlobals "reversed" = some none)
    (z_max : PySem.W.nsIn K mainGlobals "max" = some none)
    (z_sum : PySem.W.nsIn K mainGlobals "sum" = some none)
    (z_dict : PySem.W.nsIn K mainGlobals "dict" = some none)
    (tbc : cd_fares = .ref cT) (tbl : K.lookup cT = some ⟨oT, dT, .fields vT, sT⟩) (tbv : vT[11]? = some (.ref TT)) (tbn : K.lookup TT = none)
    : ∃ fd : FuncData, (∀ (s : Shared) (v : Value), BindsTo s fd ⟨[v], []⟩ [("script", v)]) ∧ ∃ c T, PySem.W.tabIn K "fares" = some (c, T) ∧ K.lookup T = none ∧ ∀ base : Heap, K.In base → base.Ns mainGlobals mg → PySem.W.CodeHd base c T → Bm mg base → FnOk l.prog w K mg base CX0 12 fa fd ["script"] (spLaw K T) := by
  have tbi := tabIn_mk a_fares l_fares tbc tbl tbv
  have e := hfa.symm.trans (PySem.W.mg_of X G a_law)
  cases e
  have F_reached := fun_mk (st := s_reached) l_reached c_reached k_reached
  have b_reached := F_reached.binds (ps := ["start", "pairs"]) fun _ _ _ _ _ _ us hl => match us, hl with | [_, _], _ => rfl
  have F_beyond := fun_mk (st := s_beyond) l_beyond c_beyond k_beyond
  have b_beyond := F_beyond.binds (ps := ["link", "room"]) fun _ _ _ _ _ _ us hl => match us, hl with | [_, _], _ => rfl
  have F_links_at := fun_mk (st := s_links_at) l_links_at c_links_at k_links_at
  have b_links_at := F_links_at.binds (ps := ["many", "links"]) fun _ _ _ _ _ _ us hl => match us, hl with | [_, _], _ => rfl
  have F_fares := fun_mk (st := s_fares) l_fares c_fares k_fares
  have b_fares := F_fares.binds (ps := ["many", "links", "start"]) fun _ _ _ _ _ _ us hl => match us, hl with | [_, _, _], _ => rfl
  have F_row_to := fun_mk (st := s_row_to) l_row_to c_row_to k_row_to
  have b_row_to := F_row_to.binds (ps := ["links", "via", "room"]) fun _ _ _ _ _ _ us hl => match us, hl with | [_, _, _], _ => rfl
  have F_whole := fun_mk (st := s_whole) l_whole c_whole k_whole
  have b_whole := F_whole.binds (ps := ["many", "links"]) fun _ _ _ _ _ _ us hl => match us, hl with | [_, _], _ => rfl
  have F_bits := fun_mk (st := s_bits) l_bits c_bits k_bits
  have b_bits := F_bits.binds (ps := ["mask"]) fun _ _ _ _ _ _ us hl => match us, hl with | [_], _ => rfl
  have F_ones := fun_mk (st := s_ones) l_ones c_ones k_ones
  have b_ones := F_ones.binds (ps := ["mask"]) fun _ _ _ _ _ _ us hl => match us, hl with | [_], _ => rfl
  have F_odd := fun_mk (st := s_odd) l_odd c_odd k_odd
  have b_odd := F_odd.binds (ps := ["mask"]) fun _ _ _ _ _ _ us hl => match us, hl with | [_], _ => rfl
  have F_mask_of := fun_mk (st := s_mask_of) l_mask_of c_mask_of k_mask_of
  have b_mask_of := F_mask_of.binds (ps := ["places"]) fun _ _ _ _ _ _ us hl => match us, hl with | [_], _ => rfl
  have F_refuse_marks := fun_mk (st := s_refuse_marks) l_refuse_marks c_refuse_marks k_refuse_marks
  have b_refuse_marks := F_refuse_marks.binds (ps := ["many", "links", "marks"]) fun _ _ _ _ _ _ us hl => match us, hl with | [_, _, _], _ => rfl
  have F_chosen_of := fun_mk (st := s_chosen_of) l_chosen_of c_chosen_of k_chosen_of
  have b_chosen_of := F_chosen_of.binds (ps := ["entries", "numbers"]) fun _ _ _ _ _ _ us hl => match us, hl with | [_, _], _ => rfl
  have F_laid_in_pairs := fun_mk (st := s_laid_in_pairs) l_laid_in_pairs c_laid_in_pairs k_laid_in_pairs
  have b_laid_in_pairs := F_laid_in_pairs.binds (ps := ["between", "chosen", "table"]) fun _ _ _ _ _ _ us hl => match us, hl with | [_, _, _], _ => rfl
  have F_new_table := fun_mk (st := s_new_table) l_new_table c_new_table k_new_table
  have b_new_table := F_new_table.binds (ps := []) fun _ _ _ _ _ _ us hl => match us, hl with | [], _ => rfl
  have F_paired := fun_mk (st := s_paired) l_paired c_paired k_paired
  have b_paired := F_paired.binds (ps := ["many", "links", "marks"]) fun _ _ _ _ _ _ us hl => match us, hl with | [_, _, _], _ => rfl
  have F_law_cell_at := fun_mk (st := s_law_cell_at) l_law_cell_at c_law_cell_at k_law_cell_at
  have b_law_cell_at := F_law_cell_at.binds (ps := ["script", "k"]) fun _ _ _ _ _ _ us hl => match us, hl with | [_, _], _ => rfl
  have F_law_names := fun_mk (st := s_law_names) l_law_names c_law_names k_law_names
  have b_law_names := F_law_names.binds (ps := ["cell", "many"]) fun _ _ _ _ _ _ us hl => match us, hl with | [_, _], _ => rfl
  have F_law_link_by := fun_mk (st := s_law_link_by) l_law_link_by c_law_link_by k_law_link_by
  have b_law_link_by := F_law_link_by.binds (ps := ["script", "k", "many"]) fun _ _ _ _ _ _ us hl => match us, hl with | [_, _, _], _ => rfl
  have F_law_count := fun_mk (st := s_law_count) l_law_count c_law_count k_law_count
  have b_law_count := F_law_count.binds (ps := ["mask"]) fun _ _ _ _ _ _ us hl => match us, hl with | [_], _ => rfl
  have F_law_drawn := fun_mk (st := s_law_drawn) l_law_drawn c_law_drawn k_law_drawn
  have b_law_drawn := F_law_drawn.binds (ps := ["script", "links", "most"]) fun _ _ _ _ _ _ us hl => match us, hl with | [_, _, _], _ => rfl
  have F_law_ways := fun_mk (st := s_law_ways) l_law_ways c_law_ways k_law_ways
  have b_law_ways := F_law_ways.binds (ps := ["links", "many"]) fun _ _ _ _ _ _ us hl => match us, hl with | [_, _], _ => rfl
  have F_law_cost := fun_mk (st := s_law_cost) l_law_cost c_law_cost k_law_cost
  have b_law_cost := F_law_cost.binds (ps := ["links", "used"]) fun _ _ _ _ _ _ us hl => match us, hl with | [_, _], _ => rfl
  have F_law_odd_ends := fun_mk (st := s_law_odd_ends) l_law_odd_ends c_law_odd_ends k_law_odd_ends
  have b_law_odd_ends := F_law_odd_ends.binds (ps := ["links", "used"]) fun _ _ _ _ _ _ us hl => match us, hl with | [_, _], _ => rfl
  have F_law_whole := fun_mk (st := s_law_whole) l_law_whole c_law_whole k_law_whole
  have b_law_whole := F_law_whole.binds (ps := ["found"]) fun _ _ _ _ _ _ us hl => match us, hl with | [_], _ => rfl
  have F_law := fun_mk (st := s_law) l_law c_law k_law
  refine ⟨PySem.W.fnOf "law" "law" (defArgs s_law) (defBody s_law) (defScope s_law) .none kV_law dc_law pm_law an_law cd_law ct_law, fun s v => .of_eq rfl, cT, TT, tbi, tbn, fun base _ _ hcd hbm => ?_⟩
  have m_reached := PySem.W.mg_of X G a_reached
  have m_beyond := PySem.W.mg_of X G a_beyond
  have m_links_at := PySem.W.mg_of X G a_links_at
  have m_fares := PySem.W.mg_of X G a_fares
  have m_row_to := PySem.W.mg_of X G a_row_to
  have m_whole := PySem.W.mg_of X G a_whole
  have m_bits := PySem.W.mg_of X G a_bits
  have m_ones := PySem.W.mg_of X G a_ones
  have m_odd := PySem.W.mg_of X G a_odd
  have m_mask_of := PySem.W.mg_of X G a_mask_of
  have m_refuse_marks := PySem.W.mg_of X G a_refuse_marks
  have m_chosen_of := PySem.W.mg_of X G a_chosen_of
  have m_laid_in_pairs := PySem.W.mg_of X G a_laid_in_pairs
  have m_new_table := PySem.W.mg_of X G a_new_table
  have m_paired := PySem.W.mg_of X G a_paired
  have m_law_cell_at := PySem.W.mg_of X G a_law_cell_at
  have m_law_names := PySem.W.mg_of X G a_law_names
  have m_law_link_by := PySem.W.mg_of X G a_law_link_by
  have m_law_count := PySem.W.mg_of X G a_law_count
  have m_law_drawn := PySem.W.mg_of X G a_law_drawn
  have m_law_ways := PySem.W.mg_of X G a_law_ways
  have m_law_cost := PySem.W.mg_of X G a_law_cost
  have m_law_odd_ends := PySem.W.mg_of X G a_law_odd_ends
  have m_law_whole := PySem.W.mg_of X G a_law_whole
  have m_law := PySem.W.mg_of X G a_law
  have most := PySem.W.mg_of X G gi_most
  have n_len := PySem.W.mg_none_of X G z_len
  have n_int := PySem.W.mg_none_of X G z_int
  have n_bool := PySem.W.mg_none_of X G z_bool
  have n_list := PySem.W.mg_none_of X G z_list
  have n_tuple := PySem.W.mg_none_of X G z_tuple
  have n_range := PySem.W.mg_none_of X G z_range
  have n_min := PySem.W.mg_none_of X G z_min
  have n_abs := PySem.W.mg_none_of X G z_abs
  have n_enumerate := PySem.W.mg_none_of X G z_enumerate
  have n_isinstance := PySem.W.mg_none_of X G z_isinstance
  have n_reversed := PySem.W.mg_none_of X G z_reversed
  have n_max := PySem.W.mg_none_of X G z_max
  have n_sum := PySem.W.mg_none_of X G z_sum
  have n_dict := PySem.W.mg_none_of X G z_dict
  have T : Txt mg := ⟨n_len, n_int, n_bool, n_list, n_tuple, n_range, n_min, n_abs, n_enumerate, n_isinstance⟩
  have TL : TxtL mg := ⟨T, n_max, n_sum, n_dict⟩
  have A1 : Cal l.prog w K mg base 1 "beyond" _ spBey f_beyond _ := ⟨ok_bey F_beyond, b_beyond, m_beyond, k_beyond⟩
  have A2 : Cal l.prog w K mg base 1 "links_at" _ spAt f_links_at _ := ⟨ok_at F_links_at T, b_links_at, m_links_at, k_links_at⟩
  have A3 : Cal l.prog w K mg base 2 "fares" _ (spFares TT) f_fares _ := ⟨ok_fares F_fares T tbi a_fares hcd hbm A2 A1, b_fares, m_fares, k_fares⟩
  have A4 : Cal l.prog w K mg base 1 "reached" _ spReach f_reached _ := ⟨ok_reached F_reached, b_reached, m_reached, k_reached⟩
  have A5 : Cal l.prog w K mg base 2 "whole" _ spWhl f_whole _ := ⟨ok_whl F_whole A4, b_whole, m_whole, k_whole⟩
  have A6 : Cal l.prog w K mg base 2 "row_to" _ spRow f_row_to _ := ⟨ok_row F_row_to ⟨n_list, n_reversed⟩ A1, b_row_to, m_row_to, k_row_to⟩
  have A7 : Cal l.prog w K mg base 1 "bits" _ spBits f_bits _ := ⟨ok_bits F_bits, b_bits, m_bits, k_bits⟩
  have A8 : Cal l.prog w K mg base 2 "ones" _ spOnes f_ones _ := ⟨ok_ones F_ones T A7, b_ones, m_ones, k_ones⟩
  have A9 : Cal l.prog w K mg base 3 "odd" _ spOdd f_odd _ := ⟨ok_odd F_odd A8, b_odd, m_odd, k_odd⟩
  have C1 : Cal l.prog w K mg base 1 "mask_of" _ (spMask K) f_mask_of _ := ⟨ok_mask F_mask_of, b_mask_of, m_mask_of, k_mask_of⟩
  have C2 : Cal l.prog w K mg base 4 "refuse_marks" _ spRef f_refuse_marks _ := ⟨ok_ref F_refuse_marks ⟨⟨_, most⟩⟩ A9 A5 A8, b_refuse_marks, m_refuse_marks, k_refuse_marks⟩
  have C3 : Cal l.prog w K mg base 1 "chosen_of" _ spChosen f_chosen_of _ := ⟨ok_chosen F_chosen_of, b_chosen_of, m_chosen_of, k_chosen_of⟩
  have C4 : Cal l.prog w K mg base 1 "new_table" _ spTable f_new_table _ := ⟨ok_table F_new_table, b_new_table, m_new_table, k_new_table⟩
  have C5 : ∀ (D : Nat → Nat → Int) (m : Nat), (∀ a b, D a b = D b a) → Cal l.prog w K mg base 10 "laid_in_pairs" _ (spLaid D m 8) f_laid_in_pairs _ := fun D m sy => ⟨ok_laid sy F_laid_in_pairs T A7 b_laid_in_pairs m_laid_in_pairs k_laid_in_pairs 8, b_laid_in_pairs, m_laid_in_pairs, k_laid_in_pairs⟩
  have C6 : Cal l.prog w K mg base 11 "paired" _ (spPaired TT) f_paired _ := ⟨ok_paired F_paired T C2 A7 A3 C3 C4 C5 C1 A6, b_paired, m_paired, k_paired⟩
  have B1 : Cal l.prog w K mg base 1 "_law_cell_at" _ (spCell K) f_law_cell_at _ := ⟨ok_cell F_law_cell_at T, b_law_cell_at, m_law_cell_at, k_law_cell_at⟩
  have B2 : Cal l.prog w K mg base 1 "_law_whole" _ spWhole f_law_whole _ := ⟨ok_whole F_law_whole T, b_law_whole, m_law_whole, k_law_whole⟩
  have B3 : Cal l.prog w K mg base 1 "_law_names" _ spNames f_law_names _ := ⟨ok_names F_law_names T, b_law_names, m_law_names, k_law_names⟩
  have B4 : Cal l.prog w K mg base 2 "_law_link_by" _ (spLink K) f_law_link_by _ := ⟨ok_link F_law_link_by B1, b_law_link_by, m_law_link_by, k_law_link_by⟩
  have B5 : Cal l.prog w K mg base 1 "_law_cost" _ spCost f_law_cost _ := ⟨ok_cost F_law_cost TL, b_law_cost, m_law_cost, k_law_cost⟩
  have B7 : Cal l.prog w K mg base 1 "_law_ways" _ spWays f_law_ways _ := ⟨ok_ways F_law_ways T, b_law_ways, m_law_ways, k_law_ways⟩
  have B8 : Cal l.prog w K mg base 1 "_law_count" _ spCount f_law_count _ := ⟨ok_count F_law_count, b_law_count, m_law_count, k_law_count⟩
  have B9 : Cal l.prog w K mg base 2 "_law_drawn" _ (spDrawn K) f_law_drawn _ := ⟨ok_drawn F_law_drawn T B1 B8, b_law_drawn, m_law_drawn, k_law_drawn⟩
  have B6 : Cal l.prog w K mg base 1 "_law_odd_ends" _ spOddE f_law_odd_ends _ := ⟨ok_oddE F_law_odd_ends T, b_law_odd_ends, m_law_odd_ends, k_law_odd_ends⟩
  exact ok_law F_law TL B1 B4 C6 B2 B6 B5 B7 B3 B9
theorem walk {l : PySem.W.OpenLaw} {q : Program} {loose : List Str} {XP : (Str → Option Value) → Heap → Prop} {YP : World → Heap → Prop} {d : DefRec} {K : Params → PySem.W.Frag} (hn : l.most = some 63) (hdf : d.params.defaults = [])
    (hY : ∀ (w : World) (h : Heap), YP w h → (K w.params).In h) (hrec : ((PyProof.Rows.recsOf q).find? (fun e => e.name == ("fares" : Str))).isSome = true)
    (F : ∀ (w : World) (mg : Str → Option Value) (fa : Addr) (h : Heap), (K w.params).In h → h.Ns mainGlobals mg → mg d.name = some (.ref fa) →
      ∃ fd : FuncData, (∀ (s : Shared) (u : Value), BindsTo s fd ⟨[u], []⟩ [("script", u)]) ∧ ∃ c T, PySem.W.tabIn (K w.params) "fares" = some (c, T) ∧ (K w.params).lookup T = none ∧ ∀ base : Heap, (K w.params).In base → base.Ns mainGlobals mg → PySem.W.CodeHd base c T → Bm mg base → FnOk l.prog w (K w.params) mg base CX0 12 fa fd ["script"] (spLaw (K w.params) T)) :
    PySem.W.WalkO q loose XP YP l.row.toRowW d [] (fun f vs => PySem.call f vs) :=
  L2.walk_ofT (n := 63) (k := 12) (x := "script") (CX := CX0) (sp := fun K T => spLaw K T) hn (by decide) hdf ⟨rfl, by decide, by decide⟩ hY (Option.some_get hrec).symm F (fun _ _ _ a ns hl hT hS => ⟨a, ns, rfl, hS, hl, .inl hT, fun _ => rfl⟩) fun _ _ _ _ z => z
end KF


open PySem PySem.W PyProof.Rows
set_option maxRecDepth 100000 in
set_option maxHeartbeats 0 in
theorem PySem.Challenge.cw_spinfloor_k26_whole_no_joining_is_cheape_holds : PySem.Challenge.rw_spinfloor_k26_whole_no_joining_is_cheape.Holds := by
  w_on; o_law; k_head; (case hw => w_witness2)
  k_fill
  refine KF.walk (l := PySem.Challenge.rw_spinfloor_k26_whole_no_joining_is_cheape) rfl rfl (fun w h Y => PySem.W.km_in_of Y) ?R ?F
  (case R => kernel_rfl)
  case F =>
    intro w mg fa h KX G hmg
    refine' KF.all_mk KX G hmg ?a_reached ?l_reached ?c_reached ?k_reached ?a_beyond ?l_beyond ?c_beyond ?k_beyond ?a_links_at ?l_links_at ?c_links_at ?k_links_at ?a_fares ?l_fares ?c_fares ?k_fares ?a_row_to ?l_row_to ?c_row_to ?k_row_to ?a_whole ?l_whole ?c_whole ?k_whole ?a_bits ?l_bits ?c_bits ?k_bits ?a_ones ?l_ones ?c_ones ?k_ones ?a_odd ?l_odd ?c_odd ?k_odd ?a_mask_of ?l_mask_of ?c_mask_of ?k_mask_of ?a_refuse_marks ?l_refuse_marks ?c_refuse_marks ?k_refuse_marks ?a_chosen_of ?l_chosen_of ?c_chosen_of ?k_chosen_of ?a_laid_in_pairs ?l_laid_in_pairs ?c_laid_in_pairs ?k_laid_in_pairs ?a_new_table ?l_new_table ?c_new_table ?k_new_table ?a_paired ?l_paired ?c_paired ?k_paired ?a_law_cell_at ?l_law_cell_at ?c_law_cell_at ?k_law_cell_at ?a_law_names ?l_law_names ?c_law_names ?k_law_names ?a_law_link_by ?l_law_link_by ?c_law_link_by ?k_law_link_by ?a_law_count ?l_law_count ?c_law_count ?k_law_count ?a_law_drawn ?l_law_drawn ?c_law_drawn ?k_law_drawn ?a_law_ways ?l_law_ways ?c_law_ways ?k_law_ways ?a_law_cost ?l_law_cost ?c_law_cost ?k_law_cost ?a_law_odd_ends ?l_law_odd_ends ?c_law_odd_ends ?k_law_odd_ends ?a_law_whole ?l_law_whole ?c_law_whole ?k_law_whole ?a_law ?l_law ?c_law ?k_law ?gi_most ?z_len ?z_int ?z_bool ?z_list ?z_tuple ?z_range ?z_min ?z_abs ?z_enumerate ?z_isinstance ?z_reversed ?z_max ?z_sum ?z_dict ?tbc ?tbl ?tbv ?tbn
    (case a_reached => k_is)
    (case l_reached => k_is)
    (case c_reached => k_is)
    (case k_reached => k_is)
    (case a_beyond => k_is)
    (case l_beyond => k_is)
    (case c_beyond => k_is)
    (case k_beyond => k_is)
    (case a_links_at => k_is)
    (case l_links_at => k_is)
    (case c_links_at => k_is)
    (case k_links_at => k_is)
    (case a_fares => k_is)
    (case l_fares => k_is)
    (case c_fares => k_is)
    (case k_fares => k_is)
    (case a_row_to => k_is)
    (case l_row_to => k_is)
    (case c_row_to => k_is)
    (case k_row_to => k_is)
    (case a_whole => k_is)
    (case l_whole => k_is)
    (case c_whole => k_is)
    (case k_whole => k_is)
    (case a_bits => k_is)
    (case l_bits => k_is)
    (case c_bits => k_is)
    (case k_bits => k_is)
    (case a_ones => k_is)
    (case l_ones => k_is)
    (case c_ones => k_is)
    (case k_ones => k_is)
    (case a_odd => k_is)
    (case l_odd => k_is)
    (case c_odd => k_is)
    (case k_odd => k_is)
    (case a_mask_of => k_is)
    (case l_mask_of => k_is)
    (case c_mask_of => k_is)
    (case k_mask_of => k_is)
    (case a_refuse_marks => k_is)
    (case l_refuse_marks => k_is)
    (case c_refuse_marks => k_is)
    (case k_refuse_marks => k_is)
    (case a_chosen_of => k_is)
    (case l_chosen_of => k_is)
    (case c_chosen_of => k_is)
    (case k_chosen_of => k_is)
    (case a_laid_in_pairs => k_is)
    (case l_laid_in_pairs => k_is)
    (case c_laid_in_pairs => k_is)
    (case k_laid_in_pairs => k_is)
    (case a_new_table => k_is)
    (case l_new_table => k_is)
    (case c_new_table => k_is)
    (case k_new_table => k_is)
    (case a_paired => k_is)
    (case l_paired => k_is)
    (case c_paired => k_is)
    (case k_paired => k_is)
    (case a_law_cell_at => k_is)
    (case l_law_cell_at => k_is)
    (case c_law_cell_at => k_is)
    (case k_law_cell_at => k_is)
    (case a_law_names => k_is)
    (case l_law_names => k_is)
    (case c_law_names => k_is)
    (case k_law_names => k_is)
    (case a_law_link_by => k_is)
    (case l_law_link_by => k_is)
    (case c_law_link_by => k_is)
    (case k_law_link_by => k_is)
    (case a_law_count => k_is)
    (case l_law_count => k_is)
    (case c_law_count => k_is)
    (case k_law_count => k_is)
    (case a_law_drawn => k_is)
    (case l_law_drawn => k_is)
    (case c_law_drawn => k_is)
    (case k_law_drawn => k_is)
    (case a_law_ways => k_is)
    (case l_law_ways => k_is)
    (case c_law_ways => k_is)
    (case k_law_ways => k_is)
    (case a_law_cost => k_is)
    (case l_law_cost => k_is)
    (case c_law_cost => k_is)
    (case k_law_cost => k_is)
    (case a_law_odd_ends => k_is)
    (case l_law_odd_ends => k_is)
    (case c_law_odd_ends => k_is)
    (case k_law_odd_ends => k_is)
    (case a_law_whole => k_is)
    (case l_law_whole => k_is)
    (case c_law_whole => k_is)
    (case k_law_whole => k_is)
    (case a_law => k_is)
    (case l_law => k_is)
    (case c_law => k_is)
    (case k_law => k_is)
    (case gi_most => k_is)
    (case z_len => k_is)
    (case z_int => k_is)
    (case z_bool => k_is)
    (case z_list => k_is)
    (case z_tuple => k_is)
    (case z_range => k_is)
    (case z_min => k_is)
    (case z_abs => k_is)
    (case z_enumerate => k_is)
    (case z_isinstance => k_is)
    (case z_reversed => k_is)
    (case z_max => k_is)
    (case z_sum => k_is)
    (case z_dict => k_is)
    (case tbc => rfl)
    (case tbl => k_is)
    (case tbv => rfl)
    (case tbn => kernel_rfl)

