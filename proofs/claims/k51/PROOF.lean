import PyProof.Rows.All
import Wide.All
import OpenK.AllK
import Wide.FinOn
import Lean
import PyProof.EqAt
import PyProof.EqKinds
import PyProof.TupleCall
import PySem.Challenge.RW_spinfloor_k51_long_run_papers
set_option Elab.async false
set_option linter.all false
set_option maxRecDepth 100000
/-! THE HAND LAYER, for ints, bools, texts, own classes, LISTS and tuples (index, slices, in, append, pop ..), calls, loops. Paste it whole ahead of your own text; what your proof does not reach may be deleted. -/
namespace L2
open PySem PySem.Spec PyProof.Rows

/-- a key: an int or a str -/
abbrev Key := Sum Int Str
def keyIs : Key → Value → Bool
  | .inl k, v => Value.isInt k v
  | .inr x, v => Value.isStrOf x v
def keyH (w : World) : Key → Int
  | .inl k => hashInt k
  | .inr x => hashStr w x
theorem keyIs_shape : ∀ {k : Key} {v : Value}, keyIs k v = true → (∃ i t, k = Sum.inl i ∧ v = Value.int i t) ∨ (∃ x t, k = Sum.inr x ∧ v = Value.str x t)
  | .inl i, v, h => by
    obtain ⟨t, e⟩ := Value.isInt_shape (k := i) (v := v) h
    exact .inl ⟨i, t, rfl, e⟩
  | .inr x, v, h => by
    obtain ⟨t, e⟩ := Value.isStrOf_shape (x := x) (v := v) h
    exact .inr ⟨x, t, rfl, e⟩
theorem keyIs_int (i : Int) (t : Tok) : keyIs (.inl i) (.int i t) = true := by simp [keyIs, Value.isInt]
theorem keyIs_str (x : Str) (t : Tok) : keyIs (.inr x) (.str x t) = true := by simp [keyIs, Value.isStrOf]
theorem key_ll (a b : Int) : decide ((Sum.inl a : Key) = Sum.inl b) = (a == b) := by
  by_cases e : a = b
  · subst e; simp
  · have h : ¬ (Sum.inl a : Key) = Sum.inl b := fun q => e (Sum.inl.inj q)
    rw [decide_eq_false h]
    exact (beq_eq_false_iff_ne.mpr e).symm
theorem key_rr (a b : Str) : decide ((Sum.inr a : Key) = Sum.inr b) = decide (a = b) := by
  by_cases e : a = b
  · subst e; simp
  · have h : ¬ (Sum.inr a : Key) = Sum.inr b := fun q => e (Sum.inr.inj q)
    rw [decide_eq_false h, decide_eq_false e]
theorem key_lr (a : Int) (b : Str) : decide ((Sum.inl a : Key) = Sum.inr b) = false := decide_eq_false (fun q => nomatch q)
theorem key_rl (a : Str) (b : Int) : decide ((Sum.inr a : Key) = Sum.inl b) = false := decide_eq_false (fun q => nomatch q)

def mixKind (prog : Program) (w : World) : PySem.KeyKind prog w Key where
  is := keyIs
  hash := keyH w
  inj := fun v a b ha hb => by
    rcases keyIs_shape ha with ⟨i, t, rfl, rfl⟩ | ⟨x, t, rfl, rfl⟩
    · rcases keyIs_shape hb with ⟨j, u, rfl, e⟩ | ⟨y, u, rfl, e⟩
      · injection e with e1 _; rw [e1]
      · exact nomatch e
    · rcases keyIs_shape hb with ⟨j, u, rfl, e⟩ | ⟨y, u, rfl, e⟩
      · exact nomatch e
      · injection e with e1 _; rw [e1]
  byValue := fun k v h => by
    rcases keyIs_shape h with ⟨i, t, rfl, rfl⟩ | ⟨x, t, rfl, rfl⟩ <;> rfl
  pyHash := fun hv h => by
    rcases keyIs_shape hv with ⟨i, t, rfl, rfl⟩ | ⟨x, t, rfl, rfl⟩
    · exact wpAny_pyHash_int h
    · exact wpAny_pyHash_str h
  eqBool := fun hu hv h => by
    rcases keyIs_shape hu with ⟨i, t, rfl, rfl⟩ | ⟨x, t, rfl, rfl⟩
    · rcases keyIs_shape hv with ⟨j, u, rfl, rfl⟩ | ⟨y, u, rfl, rfl⟩
      · rw [key_ll] at h; exact wpAny_eqBool_int h
      · rw [key_lr] at h; exact SeqAt.EqAt.int_str i t y u _ _ _ _ h
    · rcases keyIs_shape hv with ⟨j, u, rfl, rfl⟩ | ⟨y, u, rfl, rfl⟩
      · rw [key_rl] at h; exact SeqAt.EqAt.str_int x t j u _ _ _ _ h
      · rw [key_rr] at h; exact wpAny_eqBool_str h
  «strs» := fun k x t v h => by
    rcases keyIs_shape h with ⟨i, u, rfl, e⟩ | ⟨y, u, rfl, e⟩
    · exact nomatch e
    · injection e with e1 _
      subst e1
      cases v <;> rfl

theorem mixKind_int (prog : Program) (w : World) (i : Int) (t : Tok) : (mixKind prog w).is (.inl i) (.int i t) = true := keyIs_int i t
theorem mixKind_str (prog : Program) (w : World) (x : Str) (t : Tok) : (mixKind prog w).is (.inr x) (.str x t) = true := keyIs_str x t
end L2

namespace L2
open PySem PySem.Spec PyProof.Rows

/-- a value, without the heap -/
inductive V where
  | non | bl (b : Bool) | int (i : Int) | str (x : Str) | byt (b : Array UInt8) | flt (b : UInt64) | ref (a : Addr) | ty (n : String)
  deriving DecidableEq

def RelV : V → Value → Prop
  | .non, u => u = Value.none
  | .bl b, u => u = Value.bool b
  | .int i, u => ∃ t, u = Value.int i t
  | .str x, u => ∃ t, u = Value.str x t
  | .byt b, u => ∃ t, u = Value.bytes b t
  | .flt b, u => ∃ t, u = Value.float b t
  | .ref a, u => u = Value.ref a
  | .ty n, u => u = Value.type n

abbrev Vals : List V → List Value → Prop := Paired RelV
theorem Vals.length {xs : List V} {us : List Value} (r : Vals xs us) : xs.length = us.length := Paired.length r
theorem Vals.get : ∀ {xs : List V} {us : List Value} {i : Nat} {x : V}, Vals xs us → xs[i]? = some x → ∃ u, us[i]? = some u ∧ RelV x u
  | _, _, _, _, .nil, e => by simp at e
  | _, _, 0, _, .cons r _, e => by simp at e; subst e; exact ⟨_, rfl, r⟩
  | _, _, i + 1, x, .cons _ t, e => by
    obtain ⟨u, h1, h2⟩ := Vals.get (i := i) (x := x) t (by simpa using e)
    exact ⟨u, by simpa using h1, h2⟩
theorem Vals.append : ∀ {xs ys : List V} {us ws : List Value}, Vals xs us → Vals ys ws → Vals (xs ++ ys) (us ++ ws)
  | _, _, _, _, .nil, s => s
  | _, _, _, _, .cons r t, s => .cons r (Vals.append t s)
theorem Vals.take : ∀ {xs : List V} {us : List Value} (n : Nat), Vals xs us → Vals (xs.take n) (us.take n)
  | _, _, 0, _ => .nil
  | _, _, _ + 1, .nil => .nil
  | _, _, n + 1, .cons r t => .cons r (Vals.take n t)
theorem Vals.drop : ∀ {xs : List V} {us : List Value} (n : Nat), Vals xs us → Vals (xs.drop n) (us.drop n)
  | _, _, 0, r => r
  | _, _, _ + 1, .nil => .nil
  | _, _, n + 1, .cons _ t => Vals.drop n t

def RelO : Option V → Option Value → Prop
  | some v, some u => RelV v u
  | none, none => True
  | _, _ => False
def KV {κ : Type} : List (κ × V) → List (κ × Value) → Prop := Paired fun (p : κ × V) (q : κ × Value) => p.1 = q.1 ∧ RelV p.2 q.2

/-- a key of a dict (00_mix): an int or a text -/
def kV : Key → V
  | .inl i => .int i
  | .inr x => .str x

/-- what stands at a tracked address -/
inductive HO where
  /-- a list -/
  | lst (xs : List V)
  /-- a tuple (never changes) -/
  | tup (xs : List V)
  /-- a dict whose keys are ints and texts; one whose keys are tuples of ints and texts (the empty one is both) -/
  | dK (kvs : List (Key × V)) | dT (kvs : List (List Key × V))
  /-- a set of ints: its members, its size -/
  | set (S : Int → Bool) (n : Nat)
  /-- an instance of the class at C, its dict at dx, its attributes -/
  | ins (C dx : Addr) (fs : List (Str × V))
  /-- the dict of the instance at x -/
  | own (x : Addr)
  /-- the dict of an exception -/
  | xd (fs : List (Str × V))
  /-- a bound method, f of x -/
  | met (f x : Addr)
  /-- a range object lo, lo + 1, .. below hi -/
  | rng (lo hi : Int)
  /-- a thing that is known to the object (the script; a dict while a loop walks it): read, never written while it is so -/
  | frz (o : Obj) (u : HO)
  /-- a code object's table -/
  | tbl (ps : Array Value)
  /-- any other thing, by what is true of its one object (a def of one's own: SetO a S n := HO.ext fun h => ..) -/
  | ext (φ : Heap → Prop)

abbrev Hp := Addr → Option HO
def upd (H : Hp) (a : Addr) (o : HO) : Hp := fun b => if b = a then some o else H b
theorem upd_same {H : Hp} {a : Addr} {o : HO} : upd H a o a = some o := by unfold upd; rw [if_pos rfl]
theorem upd_ne {H : Hp} {a b : Addr} {o : HO} (h : b ≠ a) : upd H a o b = H b := by unfold upd; rw [if_neg h]
/-- two objects of different content stand apart -/
theorem ne_of {H : Hp} {a b : Addr} {o u : HO} (h : H a = some o) (h' : H b = some u) (d : o ≠ u) : a ≠ b := by
  intro e; subst e; rw [h] at h'; exact d (Option.some.inj h')
theorem ne_of_none {H : Hp} {a b : Addr} {o : HO} (h : H a = some o) (h' : H b = none) : a ≠ b := by
  intro e; subst e; rw [h] at h'; cases h'

section
variable (P : Program) (w : World)
def ObjOk (H : Hp) (h : Heap) (a : Addr) : HO → Prop
  | .lst xs => xs.length ≤ sizeLine ∧ ∃ (its : List Value) (n : Nat), Vals xs its ∧ h.get? a = some { cls := .type "list", data := .seq its.toArray n }
  | .tup xs => xs.length ≤ sizeLine ∧ ∃ its : List Value, Vals xs its ∧ IsTup h a its.toArray
  | .dK kvs => kvs.length ≤ sizeLine ∧ (a == sysModules) = false ∧ ∃ vs, KV kvs vs ∧ h.DictOf (mixKind P w) a vs
  | .dT kvs => kvs.length ≤ sizeLine ∧ (a == sysModules) = false ∧ ∃ xs : List (List Key × Addr × Value),
      Paired (fun (p : List Key × V) (q : List Key × Addr × Value) => p.1 = q.1 ∧ H q.2.1 = some (.tup (p.1.map kV)) ∧ RelV p.2 q.2.2) kvs xs ∧
      ∃ o es ep, h.get? a = some o ∧ o.ExactDict ∧ o.data = .dict es ep ∧ es.toList = xs.map (entryOfKey (tupleKind (mixKind P w))) ∧ (xs.map (·.1)).Nodup
  | .set S n => h.SetOf (intKind P w) a S n
  | .ins C dx fs => H dx = some (.own a) ∧ fs.length ≤ 1000 ∧ dx ≠ a ∧ h.get? a = some (PySem.W.instObj C dx) ∧
      ∃ mA, h.Ns1 dx mA ∧ (∀ f, RelO (fs.lookup f) (mA f)) ∧ PySem.Within mA (fs.map (·.1))
  | .own _ => ∃ o, h.get? a = some o
  | .xd fs => ∃ mA, h.Ns1 a mA ∧ ∀ f, RelO (fs.lookup f) (mA f)
  | .rng lo hi => ∃ t u v, h.get? a = some { cls := .type "range", data := .fields #[.int lo t, .int hi u, .int 1 v] }
  | .frz o u => h.get? a = some o ∧ ObjOk H h a u
  | .tbl ps => h.get? a = some { cls := .none, data := .fields ps }
  | .met f x => h.get? a = some (PySem.W.methodObj (.ref f) (.ref x))
  | .ext φ => φ h ∧ (∃ o, h.get? a = some o) ∧ ∀ h1 h2 : Heap, φ h1 → (∀ o, h1.get? a = some o → h2.get? a = some o) → φ h2
/-- the abstract heap is held -/
def HOk (H : Hp) (h : Heap) : Prop := ∀ a o, H a = some o → ObjOk P w H h a o
end

section
variable {P : Program} {w : World} {H H' : Hp} {h h' : Heap} {a : Addr} {o : HO}
theorem ObjOk.lt (x : ObjOk P w H h a o) : a < h.objs.size := by
  cases o with
  | lst xs => obtain ⟨_, _, _, _, e⟩ := x; exact Heap.lt_size e
  | tup xs => obtain ⟨_, _, _, p⟩ := x; exact p.lt
  | dK kvs => obtain ⟨_, _, _, _, o, _, _, e, _⟩ := x; exact Heap.lt_size e
  | dT kvs => obtain ⟨_, _, _, _, o, _, _, e, _⟩ := x; exact Heap.lt_size e
  | set S n => obtain ⟨o, _, _, _, e, _⟩ := x; exact Heap.lt_size e
  | ins C dx fs => obtain ⟨_, _, _, e, _⟩ := x; exact Heap.lt_size e
  | own y => obtain ⟨_, e⟩ := x; exact Heap.lt_size e
  | xd fs => obtain ⟨_, ⟨_, _, _, e, _⟩, _⟩ := x; exact Heap.lt_size e
  | rng lo hi => obtain ⟨_, _, _, e⟩ := x; exact Heap.lt_size e
  | frz ob u => obtain ⟨e, _⟩ := x; exact Heap.lt_size e
  | tbl ps => exact Heap.lt_size (show h.get? a = some _ from x)
  | met f y => exact Heap.lt_size (show h.get? a = some _ from x)
  | ext φ => obtain ⟨_, ⟨_, e⟩, _⟩ := x; exact Heap.lt_size e
theorem Paired.mapP {α β : Type} {F G : α → β → Prop} : ∀ {l₁ : List α} {l₂ : List β}, Paired F l₁ l₂ → (∀ a b, F a b → G a b) → Paired G l₁ l₂
  | _, _, .nil, _ => .nil
  | _, _, .cons r t, f => .cons (f _ _ r) (Paired.mapP t f)
/-- what an object's description leans on: its own object, its own dict, the tuples -/
theorem ObjOk.stay (x : ObjOk P w H h a o) (k : ∀ b u, (b = a ∨ H b = some (.own a)) → h.get? b = some u → h'.get? b = some u)
    (ho : ∀ b, H b = some (.own a) → H' b = some (.own a)) (ht : ∀ b xs, H b = some (.tup xs) → H' b = some (.tup xs)) : ObjOk P w H' h' a o := by
  induction o with
  | lst xs => obtain ⟨z, its, n, r, e⟩ := x; exact ⟨z, its, n, r, k _ _ (.inl rfl) e⟩
  | tup xs => obtain ⟨z, its, r, ob, e, c⟩ := x; exact ⟨z, its, r, ob, k _ _ (.inl rfl) e, c⟩
  | dK kvs => obtain ⟨z, y, vs, r, ob, es, ep, e, c⟩ := x; exact ⟨z, y, vs, r, ob, es, ep, k _ _ (.inl rfl) e, c⟩
  | dT kvs =>
    obtain ⟨z, y, xs, r, ob, es, ep, e, c⟩ := x
    exact ⟨z, y, xs, Paired.mapP r fun p q z => ⟨z.1, ht _ _ z.2.1, z.2.2⟩, ob, es, ep, k _ _ (.inl rfl) e, c⟩
  | set S n => obtain ⟨ob, es, ep, t, e, c⟩ := x; exact ⟨ob, es, ep, t, k _ _ (.inl rfl) e, c⟩
  | ins C dx fs =>
    obtain ⟨d, z, ne, e, mA, ⟨od, es, ep, e2, c⟩, r⟩ := x
    exact ⟨ho _ d, z, ne, k _ _ (.inl rfl) e, mA, ⟨od, es, ep, k _ _ (.inr d) e2, c⟩, r⟩
  | own y => obtain ⟨ob, e⟩ := x; exact ⟨ob, k _ _ (.inl rfl) e⟩
  | xd fs => obtain ⟨mA, ⟨od, es, ep, e, c⟩, r⟩ := x; exact ⟨mA, ⟨od, es, ep, k _ _ (.inl rfl) e, c⟩, r⟩
  | rng lo hi => obtain ⟨t, u, v, e⟩ := x; exact ⟨t, u, v, k _ _ (.inl rfl) e⟩
  | frz ob u ih => obtain ⟨e, q⟩ := x; exact ⟨k _ _ (.inl rfl) e, ih q⟩
  | tbl ps =>
    have e : h.get? a = some { cls := .none, data := .fields ps } := x
    show h'.get? a = some { cls := .none, data := .fields ps }
    exact k a _ (.inl rfl) e
  | met f y =>
    have e : h.get? a = some (PySem.W.methodObj (.ref f) (.ref y)) := x
    show h'.get? a = some (PySem.W.methodObj (.ref f) (.ref y))
    exact k a _ (.inl rfl) e
  | ext φ => obtain ⟨p, ⟨o, e⟩, st⟩ := x; exact ⟨st _ _ p fun o q => k _ _ (.inl rfl) q, ⟨o, k _ _ (.inl rfl) e⟩, st⟩
theorem HOk.lt (x : HOk P w H h) (e : H a = some o) : a < h.objs.size := (x a o e).lt
theorem HOk.fresh (x : HOk P w H h) (e : h.objs.size ≤ a) : H a = none := by
  cases q : H a with
  | none => rfl
  | some u => exact absurd (Nat.lt_of_lt_of_le (x.lt q) e) (Nat.lt_irrefl _)
/-- every object of the heap is kept -/
theorem HOk.kept (x : HOk P w H h) (k : ∀ b u, h.get? b = some u → h'.get? b = some u) : HOk P w H h' := fun a o e =>
  (x a o e).stay (fun b u _ q => k b u q) (fun _ q => q) fun _ _ q => q
/-- a new object is laid and tracked -/
theorem HOk.laid (x : HOk P w H h) (k : ∀ b u, h.get? b = some u → h'.get? b = some u) (hp : h.objs.size ≤ a) (new : ObjOk P w (upd H a o) h' a o) : HOk P w (upd H a o) h' := fun b u e => by
  have hn := x.fresh hp
  by_cases hb : b = a
  · subst hb; rw [upd_same] at e; cases e; exact new
  · rw [upd_ne hb] at e
    exact (x b u e).stay (fun c v _ q => k c v q) (fun c q => by rw [upd_ne (ne_of_none q hn)]; exact q) fun c xs q => by rw [upd_ne (ne_of_none q hn)]; exact q
end

/-- what may be read as u: it is u, or a known u -/
def Rd (H : Hp) (a : Addr) (u : HO) : Prop := H a = some u ∨ ∃ o, H a = some (.frz o u)
theorem Rd.ok {P : Program} {w : World} {H : Hp} {h : Heap} {a : Addr} {u : HO} (r : Rd H a u) (x : HOk P w H h) : ObjOk P w H h a u := by
  rcases r with r | ⟨o, r⟩
  · exact x a u r
  · obtain ⟨_, q⟩ := x a _ r
    exact q
/-- what may be written -/
def Mut : Option HO → Prop
  | some (.lst _) => True
  | some (.dK _) => True
  | some (.dT _) => True
  | some (.set _ _) => True
  | some (.ins _ _ _) => True
  | some (.ext _) => True
  | _ => False
section
variable {P : Program} {w : World} {H : Hp} {h h' : Heap} {x e : Addr} {o' : HO}
/-- the object at e is changed: x itself, or the dict of the instance x -/
theorem HOk.write (ok : HOk P w H h) (mu : Mut (H x)) (he : e = x ∨ H e = some (.own x)) (k : ∀ b u, b ≠ e → h.get? b = some u → h'.get? b = some u) (heo : ∃ u, h'.get? e = some u)
    (new : ObjOk P w (upd H x o') h' x o') : HOk P w (upd H x o') h' := fun b u q => by
  have nown : ∀ c y, H c = some (.own y) → c ≠ x := fun c y r z => by subst z; rw [r] at mu; exact mu
  have ntup : ∀ c xs, H c = some (.tup xs) → c ≠ x := fun c xs r z => by subst z; rw [r] at mu; exact mu
  by_cases hb : b = x
  · subst hb; rw [upd_same] at q; cases q; exact new
  · rw [upd_ne hb] at q
    by_cases hbe : b = e
    · have q' : H b = some (.own x) := by
        rcases he with z | z
        · exact absurd (hbe.trans z) hb
        · rw [hbe]; exact z
      rw [q] at q'; cases q'
      obtain ⟨v, hv⟩ := heo
      exact ⟨v, by rw [hbe]; exact hv⟩
    · refine (ok b u q).stay (fun c v hc r => k c v ?_ r) (fun c r => by rw [upd_ne (nown c b r)]; exact r) fun c xs r => by rw [upd_ne (ntup c xs r)]; exact r
      rcases hc with rfl | hc
      · exact hbe
      · rintro rfl
        rcases he with z | z
        · exact nown c b hc z
        · rw [hc] at z; cases z; exact hb rfl
end

/-! ### kept unless tracked; of the frames at fs (the callers') the slots may change (an exception that passes writes there); of the records at ex (iterators) nothing is said -/
structure Un (fs ex : List Addr) (H H' : Hp) (h h' : Heap) : Prop where
  keep : ∀ b o, h.get? b = some o → H b = none → b ∉ fs → b ∉ ex → h'.get? b = some o
  slot : ∀ b o, h.get? b = some o → H b = none → b ∈ fs → b ∉ ex → ∃ sl, h'.get? b = some { o with slots := sl }
  free : ∀ b o, h.get? b = some o → H b = none → b ∉ ex → H' b = none
  there : ∀ b o, h.get? b = some o → b ∉ ex → ∃ o', h'.get? b = some o'
  tups : ∀ b xs, H b = some (.tup xs) → H' b = some (.tup xs)
  frzs : ∀ b o u, H b = some (.frz o u) → H' b = some (.frz o u)
  tbls : ∀ b ps, H b = some (.tbl ps) → ∃ more, H' b = some (.tbl (ps ++ more))
section
variable {fs fs' ex ex' : List Addr} {H H1 H2 : Hp} {h h1 h2 h' : Heap} {a x e : Addr} {o : HO}
theorem Un.any (u : Un fs ex H H1 h h1) {b : Addr} {ob : Obj} (q : h.get? b = some ob) (n : H b = none) (hx : b ∉ ex) : ∃ sl, h1.get? b = some { ob with slots := sl } := by
  by_cases hb : b ∈ fs
  · exact u.slot b ob q n hb hx
  · exact ⟨ob.slots, u.keep b ob q n hb hx⟩
theorem Un.kept (k : ∀ b u, h.get? b = some u → h'.get? b = some u) : Un fs ex H H h h' :=
  ⟨fun b ob q _ _ _ => k b ob q, fun b ob q _ _ _ => ⟨ob.slots, k b ob q⟩, fun _ _ _ n _ => n, fun b ob q _ => ⟨ob, k b ob q⟩, fun _ _ q => q, fun _ _ _ q => q, fun _ ps q => ⟨#[], by rw [q]; simp⟩⟩
theorem Un.refl : Un fs ex H H h h := Un.kept fun _ _ q => q
theorem Un.laid (k : ∀ b u, h.get? b = some u → h'.get? b = some u) (hp : h.objs.size ≤ a) (hn : H a = none) : Un fs ex H (upd H a o) h h' where
  keep := fun b u q _ _ _ => k b u q
  slot := fun b u q _ _ _ => ⟨u.slots, k b u q⟩
  free := fun b u q n _ => by rw [upd_ne (Nat.ne_of_lt (Nat.lt_of_lt_of_le (Heap.lt_size q) hp))]; exact n
  there := fun b u q _ => ⟨u, k b u q⟩
  tups := fun b xs q => by rw [upd_ne (ne_of_none q hn)]; exact q
  frzs := fun b u xs q => by rw [upd_ne (ne_of_none q hn)]; exact q
  tbls := fun b ps q => ⟨#[], by rw [upd_ne (ne_of_none q hn), q]; simp⟩
theorem Un.write (mu : Mut (H x)) (he : e = x ∨ H e = some (.own x)) (k : ∀ b u, b ≠ e → h.get? b = some u → h'.get? b = some u) (heo : ∃ u, h'.get? e = some u) : Un fs ex H (upd H x o) h h' := by
  have hx : ∀ b, H b = none → b ≠ x := fun b n z => by subst z; rw [n] at mu; exact mu
  have hb : ∀ b, H b = none → b ≠ e := fun b n z => by
    subst z
    rcases he with r | r
    · exact hx b n r
    · rw [n] at r; cases r
  have hm : ∀ b u, H b = some u → ¬ Mut (some u) → b ≠ x := fun b u q nm z => by subst z; rw [q] at mu; exact nm mu
  refine ⟨fun b u q n _ _ => k b u (hb b n) q, fun b u q n _ _ => ⟨u.slots, k b u (hb b n) q⟩, fun b u q n _ => by rw [upd_ne (hx b n)]; exact n, fun b u q _ => ?_,
    fun b xs q => by rw [upd_ne (hm b _ q fun z => z)]; exact q, fun b u xs q => by rw [upd_ne (hm b _ q fun z => z)]; exact q, fun b ps q => ⟨#[], by rw [upd_ne (hm b _ q fun z => z), q]; simp⟩⟩
  by_cases hbe : b = e
  · subst hbe; exact heo
  · exact ⟨u, k b u hbe q⟩
end

/-! ### the heap without what is tracked -/
def trk (h : Heap) (H : Hp) : List Addr := (List.range h.objs.size).filter fun a => (H a).isSome
def hidT (h : Heap) (H : Hp) : Heap := PySem.W.hideAll h (trk h H)
theorem hidT_size (h : Heap) (H : Hp) : (hidT h H).objs.size = h.objs.size := PySem.W.hideAll_size _ _
theorem hidT_get {h : Heap} {H : Hp} {b : Addr} {o : Obj} (e : h.get? b = some o) (n : H b = none) : (hidT h H).get? b = some o :=
  PySem.W.hideAll_get _ e fun hm => by
    have q : (H b).isSome = true := (List.mem_filter.mp hm).2
    rw [n] at q; simp at q
theorem of_hidT {h : Heap} {H : Hp} {b : Addr} {o : Obj} (e : (hidT h H).get? b = some o) : h.get? b = some o ∧ H b = none := by
  have e' : h.get? b = some o := PySem.W.of_hideAll (trk h H) e
  refine ⟨e', ?_⟩
  cases q : H b with
  | none => rfl
  | some x =>
    have hm : b ∈ trk h H := List.mem_filter.mpr ⟨List.mem_range.mpr (Heap.lt_size e'), by simp [q]⟩
    have z : (hidT h H).get? b = none := PySem.W.hideAll_none (trk h H) hm
    rw [z] at e; cases e

/-! ### OpenK's ledger, filled with every new object but one -/
end L2

namespace L2
open PySem PySem.Spec PyProof.Rows

/-- the module's facts, over the base: the heap at the law's entry without what is tracked there -/
structure Mod (K : PySem.W.Frag) (mg : Str → Option Value) (base : Heap) : Prop where
  kin : K.In base
  glob : base.Ns mainGlobals mg
  blt : ∃ mb, base.Ns builtinsNs mb ∧ ∀ x : Str, x ≠ "__name__" → mb x = bootBuiltins x
  nolimit : base.NoLimit

/-- the context: a def's body (or a comprehension's block) running. base: fixed through the whole law; s₀, H₀: the entry; outer: the frames whose slots others may change (a def's callers); stack: all frames that run;
   ex: iterators that were made ahead of the entry and are walked here (a comprehension's); fn: the names whose cells were made at the entry (a def: all; a comprehension's block: its own); calm: not within an except suite; pn: pins that every state bears; xe: what is wanted of an exception that leaves the code -/
structure Cx where
  prog : Program
  w : World
  K : PySem.W.Frag
  mg : Str → Option Value
  base : Heap
  A : Around
  N : List Str
  s₀ : Shared
  H₀ : Hp
  env : Env
  outer : List Env
  stack : List Env
  ex : List Addr
  fn : Str → Bool
  calm : Bool
  pn : List (Addr × Obj)
  xe : Value → Shared → Prop
/-- the callers' frames -/
def frs (l : List Env) : List Addr := l.filterMap (·.frame)
abbrev Cx.fs (X : Cx) : List Addr := frs X.outer

def Vis (sc : Scope) (x : Str) : Prop := sc.names.lookup x = some .local ∨ sc.names.lookup x = some .cell ∨ sc.names.lookup x = some .free
def Loc (sc : Scope) (x : Str) : Prop := sc.names.lookup x = some .local ∨ sc.names.lookup x = some .cell
def Look (env : Env) (h : Heap) (m : Str → Option Value) (x : Str) (u : Value) : Prop :=
  (env.kindOf x = some .local ∧ m x = some u) ∨ ((env.kindOf x = some .cell ∨ env.kindOf x = some .free) ∧ ∃ c, env.cells.lookup x = some c ∧ h.IsCell c (some u))

structure Cx.Ok (X : Cx) : Prop where
  mod : Mod X.K X.mg X.base
  kind : X.env.scope.kind = .function
  glob : X.env.globals = mainGlobals
  blt : X.env.builtins = builtinsNs
  above : X.s₀.heap.objs.size ≤ X.env.locals
  inj : ∀ x y c, X.env.cells.lookup x = some c → X.env.cells.lookup y = some c → x = y
  has : ∀ x, (X.env.kindOf x = some .cell ∨ X.env.kindOf x = some .free) → ∃ c, X.env.cells.lookup x = some c
  cab : ∀ x c, X.fn x = true → X.env.cells.lookup x = some c → X.s₀.heap.objs.size ≤ c
  hd : X.calm = true → X.A.handled = none
  frames : X.A.frames = some X.stack
  stk : X.stack = X.outer ∨ (X.stack = X.env :: X.outer ∧ X.env.frame = some X.env.locals)
  exf : ∀ b ∈ X.ex, b ≠ X.env.locals ∧ ∀ x c, X.env.cells.lookup x = some c → c ≠ b
  bs : ∀ b o, X.base.get? b = some o → X.s₀.heap.get? b = some o ∧ X.H₀ b = none
  bsz : X.base.objs.size ≤ X.s₀.heap.objs.size
  noex : ∀ b o, X.base.get? b = some o → b ∉ X.ex
  exfs : ∀ b ∈ X.ex, b ∉ X.fs
  funs : X.s₀.heap.FunFrames X.base X.outer
  frf : ∀ b ∈ X.fs, X.H₀ b = none

structure Inv (X : Cx) (pins : List (Addr × Obj)) (σ : List (Option V)) (H : Hp) (s : Shared) : Prop where
  ok : X.Ok
  os : s.os = X.s₀.os
  bare : AllBare s.gens
  base : Un X.fs X.ex X.H₀ H X.s₀.heap s.heap
  loc : ∃ m, s.heap.Ns X.env.locals m ∧ ∀ (i : Nat) (x : Str) (v : V), X.N[i]? = some x → σ[i]? = some (some v) → Vis X.env.scope x → ∃ u, RelV v u ∧ Look X.env s.heap m x u
  cell : ∀ x c, X.env.cells.lookup x = some c → ∃ v, s.heap.IsCell c v
  free : H X.env.locals = none
  freeC : ∀ x c, X.env.cells.lookup x = some c → H c = none
  pin : ∀ p ∈ X.pn ++ pins, s.heap.get? p.1 = some p.2 ∧ H p.1 = none ∧ p.1 ≠ X.env.locals ∧ p.1 ∉ X.fs ∧ ∀ v, p.2.data ≠ .cell v
  hok : HOk X.prog X.w H s.heap
  len : σ.length = X.N.length

section
variable {X : Cx} {pins : List (Addr × Obj)} {σ : List (Option V)} {H H' : Hp} {s : Shared} {h' : Heap}

theorem Cx.Ok.nofr (ok : X.Ok) {b : Addr} {o : Obj} (e : X.base.get? b = some o) : b ∉ X.fs := fun hb => by
  have := (ok.funs.mem hb).1
  rw [e] at this; cases this
theorem Inv.bs (I : Inv X pins σ H s) : ∀ b o, X.base.get? b = some o → s.heap.get? b = some o ∧ H b = none := fun b o e =>
  ⟨I.base.keep b o (I.ok.bs b o e).1 (I.ok.bs b o e).2 (I.ok.nofr e) (I.ok.noex b o e), I.base.free b o (I.ok.bs b o e).1 (I.ok.bs b o e).2 (I.ok.noex b o e)⟩
theorem Inv.bk (I : Inv X pins σ H s) : ∀ b o, X.base.get? b = some o → s.heap.get? b = some o := fun b o e => (I.bs b o e).1
theorem Inv.mod (I : Inv X pins σ H s) : Mod X.K X.mg X.base := I.ok.mod
theorem Inv.kIn (I : Inv X pins σ H s) : X.K.In s.heap := I.ok.mod.kin.keeps I.bk
theorem Inv.lt (I : Inv X pins σ H s) : X.env.locals < s.heap.objs.size := let ⟨_, hn, _⟩ := I.loc; hn.lt
theorem Inv.sz (I : Inv X pins σ H s) : X.s₀.heap.objs.size ≤ s.heap.objs.size := Nat.le_trans I.ok.above (Nat.le_of_lt I.lt)
theorem Inv.nofs (I : Inv X pins σ H s) {a : Addr} (h : s.heap.objs.size ≤ a) : a ∉ X.fs := fun hb => by
  obtain ⟨_, o, ho, _⟩ := I.ok.funs.mem hb
  exact absurd (Nat.lt_of_lt_of_le (Heap.lt_size ho) (Nat.le_trans I.sz h)) (Nat.lt_irrefl _)
theorem Inv.cne (I : Inv X pins σ H s) : ∀ x c, X.env.cells.lookup x = some c → c ≠ X.env.locals := fun x c e z => by
  obtain ⟨v, o, ho, hd⟩ := I.cell x c e
  obtain ⟨m, ⟨o', es, ep, ho', hd', _⟩, _⟩ := I.loc
  rw [z, ho'] at ho; cases ho; rw [hd'] at hd; cases hd
theorem Inv.funs (I : Inv X pins σ H s) : s.heap.FunFrames X.base X.outer := by
  have all : ∀ (l : List Env), (∀ b ∈ frs l, b ∈ X.fs) → X.s₀.heap.FunFrames X.base l → s.heap.FunFrames X.base l := by
    intro l
    induction l with
    | nil => intro _ _; trivial
    | cons env r ih =>
      intro hs hl
      obtain ⟨hk, ⟨L, o, hf, hn, ho, hd⟩, hr⟩ := hl
      have hL : L ∈ X.fs := hs L (by unfold frs; rw [List.filterMap_cons, hf]; exact List.mem_cons_self)
      obtain ⟨sl, e⟩ := I.base.slot L o ho (I.ok.frf L hL) hL fun z => I.ok.exfs L z hL
      exact ⟨hk, ⟨L, _, hf, hn, e, hd⟩, ih (fun b hb => hs b (by unfold frs; rw [List.filterMap_cons, hf]; exact List.mem_cons_of_mem _ hb)) hr⟩
  exact all X.outer (fun _ hb => hb) I.ok.funs

/-- the frames that run, for a call -/
theorem Inv.stack (I : Inv X pins σ H s) : s.heap.FunFrames X.base X.stack := by
  rcases I.ok.stk with e | ⟨e, hf⟩
  · rw [e]; exact I.funs
  · rw [e]
    obtain ⟨m, hn, _⟩ := I.loc
    refine .cons (by rw [I.ok.kind]; decide) hf hn ?_ I.funs
    exact Heap.get?_none_of_le (Nat.le_trans I.ok.bsz I.ok.above)
theorem Inv.stkSub (I : Inv X pins σ H s) : ∀ b ∈ frs X.stack, b ∈ X.env.locals :: X.fs := fun b hb => by
  rcases I.ok.stk with e | ⟨e, hf⟩
  · rw [e] at hb; exact List.mem_cons_of_mem _ hb
  · rw [e] at hb
    unfold frs at hb
    rw [List.filterMap_cons, hf] at hb
    exact hb
theorem Inv.stkFree (I : Inv X pins σ H s) : ∀ b ∈ frs X.stack, H b = none := fun b hb => by
  rcases List.mem_cons.mp (I.stkSub b hb) with e | hb
  · rw [e]; exact I.free
  · obtain ⟨_, o, ho, _⟩ := I.ok.funs.mem hb
    exact I.base.free b o ho (I.ok.frf b hb) fun z => I.ok.exfs b z hb

/-- THE STEP: the untracked objects but the frame and the records at ch are kept (the callers' frames up to slots), the frame's map is kept, the new abstract heap is held -/
theorem Inv.step {g' : Array GenState} {t' : Nat} {d' : Drawn} {ch : List Addr} (I : Inv X pins σ H s)
    (hch : ∀ b ∈ ch, (b ∈ X.ex ∨ X.s₀.heap.objs.size ≤ b) ∧ b ≠ X.env.locals ∧ (∀ x c, X.env.cells.lookup x = some c → c ≠ b) ∧ ∀ p ∈ X.pn ++ pins, p.1 ≠ b)
    (keep : ∀ b o, b ≠ X.env.locals → b ∉ X.fs → b ∉ ch → s.heap.get? b = some o → H b = none → h'.get? b = some o)
    (slot : ∀ b o, b ≠ X.env.locals → b ∈ X.fs → b ∉ ch → s.heap.get? b = some o → H b = none → ∃ sl, h'.get? b = some { o with slots := sl }) (free : ∀ b o, b ∉ ch → s.heap.get? b = some o → H b = none → H' b = none)
    (there : ∀ b o, b ∉ ch → s.heap.get? b = some o → ∃ o', h'.get? b = some o')
    (tups : ∀ b xs, H b = some (.tup xs) → H' b = some (.tup xs)) (frzs : ∀ b o u, H b = some (.frz o u) → H' b = some (.frz o u)) (tbls : ∀ b ps, H b = some (.tbl ps) → ∃ more, H' b = some (.tbl (ps ++ more)))
    (ns : ∀ m, s.heap.Ns X.env.locals m → h'.Ns X.env.locals m) (hok : HOk X.prog X.w H' h') (hg : AllBare g') :
    Inv X pins σ H' { s with heap := h', gens := g', drawn := d', toks := t' } := by
  have neL : ∀ b o, X.s₀.heap.get? b = some o → b ≠ X.env.locals := fun b o e => Nat.ne_of_lt (Nat.lt_of_lt_of_le (Heap.lt_size e) I.ok.above)
  have neC : ∀ b o, X.s₀.heap.get? b = some o → b ∉ X.ex → b ∉ ch := fun b o e hx hb => by
    rcases (hch b hb).1 with z | z
    · exact hx z
    · exact absurd (Nat.lt_of_lt_of_le (Heap.lt_size e) z) (Nat.lt_irrefl _)
  have cellK : ∀ x c, X.env.cells.lookup x = some c → ∀ v, s.heap.IsCell c v → h'.IsCell c v := fun x c e v ⟨o, ho, hd⟩ => by
    have nch : c ∉ ch := fun z => (hch c z).2.2.1 x c e rfl
    by_cases hc : c ∈ X.fs
    · obtain ⟨sl, q⟩ := slot c o (I.cne x c e) hc nch ho (I.freeC x c e)
      exact ⟨_, q, hd⟩
    · exact ⟨o, keep c o (I.cne x c e) hc nch ho (I.freeC x c e), hd⟩
  refine ⟨I.ok, I.os, hg, ⟨fun b o e n hb hx => ?_, fun b o e n hb hx => ?_, fun b o e n hx => ?_, fun b o e hx => ?_, fun b xs e => tups b xs (I.base.tups b xs e), fun b o xs e => frzs b o xs (I.base.frzs b o xs e), fun b ps e => ?_⟩, ?_, fun x c e => ?_, ?_, fun x c e => ?_, fun p hp => ?_, hok, I.len⟩
  · exact keep b o (neL b o e) hb (neC b o e hx) (I.base.keep b o e n hb hx) (I.base.free b o e n hx)
  · obtain ⟨sl, e1⟩ := I.base.slot b o e n hb hx
    obtain ⟨sl', e2⟩ := slot b _ (neL b o e) hb (neC b o e hx) e1 (I.base.free b o e n hx)
    exact ⟨sl', e2⟩
  · obtain ⟨o', e1⟩ := I.base.there b o e hx
    exact free b o' (neC b o e hx) e1 (I.base.free b o e n hx)
  · obtain ⟨o', e1⟩ := I.base.there b o e hx
    exact there b o' (neC b o e hx) e1
  · obtain ⟨m1, e1⟩ := I.base.tbls b ps e
    obtain ⟨m2, e2⟩ := tbls b _ e1
    exact ⟨m1 ++ m2, by rw [e2, Array.append_assoc]⟩
  · obtain ⟨m, hn, hl⟩ := I.loc
    refine ⟨m, ns m hn, fun i x v e1 e2 e3 => ?_⟩
    obtain ⟨u, r, l⟩ := hl i x v e1 e2 e3
    refine ⟨u, r, ?_⟩
    rcases l with l | ⟨k, c, e, z⟩
    · exact .inl l
    · exact .inr ⟨k, c, e, cellK x c e _ z⟩
  · obtain ⟨v, z⟩ := I.cell x c e
    exact ⟨v, cellK x c e v z⟩
  · obtain ⟨m, ⟨o, _, _, ho, _⟩, _⟩ := I.loc
    exact free _ o (fun z => (hch _ z).2.1 rfl) ho I.free
  · obtain ⟨v, o, ho, hd⟩ := I.cell x c e
    exact free c o (fun z => (hch c z).2.2.1 x c e rfl) ho (I.freeC x c e)
  · obtain ⟨e, n, ne, nf, d⟩ := I.pin p hp
    have nch : p.1 ∉ ch := fun z => (hch p.1 z).2.2.2 p hp rfl
    exact ⟨keep p.1 p.2 ne nf nch e n, free p.1 p.2 nch e n, ne, nf, d⟩
/-- .. where the frame's own object is kept too -/
theorem Inv.un {t' : Nat} (I : Inv X pins σ H s) (u : Un X.fs [] H H' s.heap h') (hok : HOk X.prog X.w H' h') : Inv X pins σ H' { s with heap := h', toks := t' } := by
  obtain ⟨m, ⟨o, es, ep, ho, r⟩, _⟩ := id I.loc
  obtain ⟨sl, hL⟩ := u.any ho I.free (by simp)
  exact I.step (g' := s.gens) (d' := s.drawn) (ch := []) (fun _ z => nomatch z) (fun b o _ hb _ e n => u.keep b o e n hb (by simp)) (fun b o _ hb _ e n => u.slot b o e n hb (by simp)) (fun b o _ e n => u.free b o e n (by simp)) (fun b o _ e => u.there b o e (by simp)) u.tups u.frzs u.tbls (fun m' hm => by
    obtain ⟨o', es', ep', ho', r'⟩ := hm
    rw [ho] at ho'; cases ho'
    exact ⟨_, es', ep', hL, r'⟩) hok I.bare
/-- behind a call (or a comprehension's block): the slots of this frame may have changed too, the records at ch may have turned -/
theorem Inv.call {g' : Array GenState} {t' : Nat} {d' : Drawn} {ch : List Addr} (I : Inv X pins σ H s) (u : Un (frs X.stack) ch H H' s.heap h') (hok : HOk X.prog X.w H' h') (hg : AllBare g')
    (hch : ∀ b ∈ ch, (b ∈ X.ex ∨ X.s₀.heap.objs.size ≤ b) ∧ b ≠ X.env.locals ∧ (∀ x c, X.env.cells.lookup x = some c → c ≠ b) ∧ ∀ p ∈ X.pn ++ pins, p.1 ≠ b) :
    Inv X pins σ H' { s with heap := h', gens := g', drawn := d', toks := t' } := by
  obtain ⟨m, ⟨o, es, ep, ho, r⟩, _⟩ := id I.loc
  obtain ⟨sl, hL⟩ := u.any ho I.free fun z => (hch _ z).2.1 rfl
  exact I.step (ch := ch) hch (fun b o hL hb hc e n => u.keep b o e n (fun z => (List.mem_cons.mp (I.stkSub b z)).elim hL hb) hc) (fun b o _ _ hc e n => u.any e n hc) (fun b o hc e n => u.free b o e n hc) (fun b o hc e => u.there b o e hc) u.tups u.frzs u.tbls (fun m' hm => by
    obtain ⟨o', es', ep', ho', r'⟩ := hm
    rw [ho] at ho'; cases ho'
    exact ⟨_, es', ep', hL, r'⟩) hok hg
/-- an untracked record of ours (an iterator) has turned -/
theorem Inv.turned {t' : Nat} {it : Addr} (I : Inv X pins σ H s) (k : ∀ b o, b ≠ it → s.heap.get? b = some o → h'.get? b = some o) (hn : H it = none) (hL : it ≠ X.env.locals)
    (h1 : it ∈ X.ex ∨ X.s₀.heap.objs.size ≤ it) (h2 : ∀ x c, X.env.cells.lookup x = some c → c ≠ it) (h3 : ∀ p ∈ X.pn ++ pins, p.1 ≠ it) : Inv X pins σ H { s with heap := h', toks := t' } := by
  have nit : ∀ b u, H b = some u → b ≠ it := fun b u e z => by rw [z, hn] at e; cases e
  refine I.step (g' := s.gens) (d' := s.drawn) (ch := [it]) (fun b hb => ?_) (fun b o _ _ hc e _ => k b o (fun z => hc (by simp [z])) e) (fun b o _ _ hc e _ => ⟨o.slots, k b o (fun z => hc (by simp [z])) e⟩) (fun _ _ _ _ n => n)
    (fun b o hc e => ⟨o, k b o (fun z => hc (by simp [z])) e⟩) (fun _ _ e => e) (fun _ _ _ e => e) (fun b ps e => ⟨#[], by rw [e]; simp⟩) (fun m hm => ?_) (fun b u e => ?_) I.bare
  · have e : b = it := by simpa using hb
    subst e
    exact ⟨h1, hL, h2, h3⟩
  · obtain ⟨o, es, ep, ho, r⟩ := hm
    exact ⟨o, es, ep, k _ o (Ne.symm hL) ho, r⟩
  · refine (I.hok b u e).stay (fun c v hc q => k c v ?_ q) (fun _ q => q) fun _ _ q => q
    rcases hc with z | z
    · rw [z]; exact nit b u e
    · exact nit c _ z
theorem Inv.tok (I : Inv X pins σ H s) (t : Nat) : Inv X pins σ H { s with toks := t } := I.un (h' := s.heap) (t' := t) Un.refl I.hok
/-- all objects kept -/
theorem Inv.kept {t' : Nat} (I : Inv X pins σ H s) (k : ∀ b u, s.heap.get? b = some u → h'.get? b = some u) : Inv X pins σ H { s with heap := h', toks := t' } := I.un (Un.kept k) (I.hok.kept k)
/-- a new object laid and tracked -/
theorem Inv.laid {a : Addr} {o : HO} {t' : Nat} (I : Inv X pins σ H s) (k : ∀ b u, s.heap.get? b = some u → h'.get? b = some u) (hp : s.heap.objs.size ≤ a) (new : ObjOk X.prog X.w (upd H a o) h' a o) :
    Inv X pins σ (upd H a o) { s with heap := h', toks := t' } := I.un (Un.laid k hp (I.hok.fresh hp)) (I.hok.laid k hp new)
/-- an object written -/
theorem Inv.write {x e : Addr} {o : HO} {t' : Nat} (I : Inv X pins σ H s) (mu : Mut (H x)) (he : e = x ∨ H e = some (.own x)) (k : ∀ b u, b ≠ e → s.heap.get? b = some u → h'.get? b = some u) (heo : ∃ u, h'.get? e = some u)
    (new : ObjOk X.prog X.w (upd H x o) h' x o) : Inv X pins σ (upd H x o) { s with heap := h', toks := t' } := I.un (Un.write mu he k heo) (I.hok.write mu he k heo new)
/-- forgetting slots, pins -/
theorem Inv.weak {σ' : List (Option V)} (I : Inv X pins σ H s) (hl : σ'.length = σ.length) (w : ∀ (i : Nat) v, σ'[i]? = some (some v) → σ[i]? = some (some v)) : Inv X pins σ' H s :=
  ⟨I.ok, I.os, I.bare, I.base, let ⟨m, hn, hl'⟩ := I.loc; ⟨m, hn, fun i x v e1 e2 e3 => hl' i x v e1 (w i v e2) e3⟩, I.cell, I.free, I.freeC, I.pin, I.hok, hl.trans I.len⟩
theorem Inv.pins_of {pins' : List (Addr × Obj)} (I : Inv X pins σ H s) (h : ∀ p ∈ pins', s.heap.get? p.1 = some p.2 ∧ H p.1 = none ∧ p.1 ≠ X.env.locals ∧ p.1 ∉ X.fs ∧ ∀ v, p.2.data ≠ .cell v) : Inv X pins' σ H s :=
  ⟨I.ok, I.os, I.bare, I.base, I.loc, I.cell, I.free, I.freeC, fun p hp => (List.mem_append.mp hp).elim (fun z => I.pin p (List.mem_append_left _ z)) (h p), I.hok, I.len⟩

theorem nodup_ix {N : List Str} (hN : N.Nodup) {i j : Nat} {x : Str} (a : N[i]? = some x) (b : N[j]? = some x) : i = j := by
  obtain ⟨h1, e1⟩ := List.getElem?_eq_some_iff.mp a
  obtain ⟨h2, e2⟩ := List.getElem?_eq_some_iff.mp b
  exact (List.getElem_inj hN).mp (e1.trans e2.symm)

/-- a name is stored; what changed -/
theorem store_ok2 {M : Model} {A : Around} {E : Value → Shared → Prop} {i : Nat} {x : Str} {v : V} {u : Value} {Q : Unit → Shared → Prop} (I : Inv X pins σ H s) (hN : X.N.Nodup) (hi : X.N[i]? = some x) (hx : Loc X.env.scope x) (r : RelV v u)
    (h : ∀ s', Inv X pins (σ.set i (some v)) H s' → (∃ a, Heap.SameBut a s.heap s'.heap ∧ (a = X.env.locals ∨ X.env.cells.lookup x = some a)) → Q () s') (hf : X.fn x = true ∨ X.env.scope.names.lookup x = some .local := by first | exact .inl rfl | exact .inr rfl | assumption) : wpAny M A (storeName X.env x u) Q E s := by
  obtain ⟨m, hn, hl⟩ := id I.loc
  have hcls : (X.env.scope.kind == .class || (X.env.scope.kind == .module && X.env.locals != X.env.globals)) = false := by rw [I.ok.kind]; rfl
  have hiσ : i < σ.length := by rw [I.len]; exact (List.getElem?_eq_some_iff.mp hi).1
  have cne := I.cne
  have tracked : ∀ {a : Addr} {h' : Heap}, (∃ o, s.heap.get? a = some o ∧ H a = none) → Heap.SameBut a s.heap h' → HOk X.prog X.w H h' := fun {a h'} ha hs b ob e => by
    obtain ⟨_, _, hfree⟩ := ha
    refine (I.hok b ob e).stay (fun c w' hc q => (hs.2 c ?_).trans q) (fun _ q => q) fun _ _ q => q
    rintro rfl
    rcases hc with rfl | hc
    · rw [hfree] at e; cases e
    · rw [hfree] at hc; cases hc
  rcases hx with hk | hk
  · refine wpAny_storeName_local hk hn (fun h' hn' hs => ?_) hcls
    obtain ⟨oL, _, _, hoL, _⟩ := id hn
    refine h _ ⟨I.ok, I.os, I.bare, ⟨fun b o e n hb hx => ?_, fun b o e n hb hx => ?_, I.base.free, fun b o e hx => ?_, I.base.tups, I.base.frzs, I.base.tbls⟩, ⟨_, hn', fun j y v' e1 e2 e3 => ?_⟩, fun y c e => ?_, I.free, I.freeC, fun p hp => ?_, tracked ⟨oL, hoL, I.free⟩ hs, by simpa using I.len⟩ ⟨_, hs, .inl rfl⟩
    · exact (hs.2 b (Nat.ne_of_lt (Nat.lt_of_lt_of_le (Heap.lt_size e) I.ok.above))).trans (I.base.keep b o e n hb hx)
    · obtain ⟨sl, e1⟩ := I.base.slot b o e n hb hx
      exact ⟨sl, (hs.2 b (Nat.ne_of_lt (Nat.lt_of_lt_of_le (Heap.lt_size e) I.ok.above))).trans e1⟩
    · obtain ⟨o', e1⟩ := I.base.there b o e hx
      exact ⟨o', (hs.2 b (Nat.ne_of_lt (Nat.lt_of_lt_of_le (Heap.lt_size e) I.ok.above))).trans e1⟩
    · by_cases hj : j = i
      · subst hj
        rw [hi] at e1; cases e1
        rw [List.getElem?_set_self hiσ] at e2
        cases e2
        exact ⟨u, r, .inl ⟨hk, by simp⟩⟩
      · rw [List.getElem?_set_ne (Ne.symm hj)] at e2
        obtain ⟨u', r', q⟩ := hl j y v' e1 e2 e3
        refine ⟨u', r', ?_⟩
        rcases q with ⟨k, e⟩ | ⟨k, c, e, z⟩
        · refine .inl ⟨k, ?_⟩
          have : y ≠ x := fun e => hj (nodup_ix hN e1 (e ▸ hi))
          simp [this, e]
        · exact .inr ⟨k, c, e, z.sameBut hs (cne y c e)⟩
    · obtain ⟨w', z⟩ := I.cell y c e
      exact ⟨w', z.sameBut hs (cne y c e)⟩
    · obtain ⟨e, n, ne, nf, d⟩ := I.pin p hp
      exact ⟨(hs.2 p.1 ne).trans e, n, ne, nf, d⟩
  · have hfn : X.fn x = true := by
      rcases hf with z | z
      · exact z
      · rw [z] at hk; cases hk
    obtain ⟨c, hc⟩ := I.ok.has x (.inl hk)
    obtain ⟨w', z⟩ := I.cell x c hc
    refine wpAny_storeName_cell I.ok.kind hk hc z (fun h' hc' hs => ?_)
    obtain ⟨oc, hoc, hocd⟩ := id z
    refine h { s with heap := h' } ⟨I.ok, I.os, I.bare, ⟨fun b o e n hb hx => ?_, fun b o e n hb hx => ?_, I.base.free, fun b o e hx => ?_, I.base.tups, I.base.frzs, I.base.tbls⟩, ⟨m, hn.sameBut hs (Ne.symm (cne x c hc)), fun j y v' e1 e2 e3 => ?_⟩, fun y c' e => ?_, I.free, I.freeC, fun p hp => ?_, tracked ⟨oc, hoc, I.freeC x c hc⟩ hs, by simpa using I.len⟩ ⟨c, hs, .inr hc⟩
    · exact (hs.2 b (Nat.ne_of_lt (Nat.lt_of_lt_of_le (Heap.lt_size e) (I.ok.cab x c hfn hc)))).trans (I.base.keep b o e n hb hx)
    · obtain ⟨sl, e1⟩ := I.base.slot b o e n hb hx
      exact ⟨sl, (hs.2 b (Nat.ne_of_lt (Nat.lt_of_lt_of_le (Heap.lt_size e) (I.ok.cab x c hfn hc)))).trans e1⟩
    · obtain ⟨o', e1⟩ := I.base.there b o e hx
      exact ⟨o', (hs.2 b (Nat.ne_of_lt (Nat.lt_of_lt_of_le (Heap.lt_size e) (I.ok.cab x c hfn hc)))).trans e1⟩
    · by_cases hj : j = i
      · subst hj
        rw [hi] at e1; cases e1
        rw [List.getElem?_set_self hiσ] at e2
        cases e2
        exact ⟨u, r, .inr ⟨.inl hk, c, hc, hc'⟩⟩
      · rw [List.getElem?_set_ne (Ne.symm hj)] at e2
        obtain ⟨u', r', q⟩ := hl j y v' e1 e2 e3
        refine ⟨u', r', ?_⟩
        rcases q with q | ⟨k, c', e, z'⟩
        · exact .inl q
        · refine .inr ⟨k, c', e, z'.sameBut hs ?_⟩
          rintro rfl
          exact hj (nodup_ix hN e1 (I.ok.inj _ _ _ e hc ▸ hi))
    · by_cases hcc : c' = c
      · subst hcc; exact ⟨_, hc'⟩
      · obtain ⟨w2, z2⟩ := I.cell y c' e
        exact ⟨w2, z2.sameBut hs hcc⟩
    · obtain ⟨e, n, ne, nf, d⟩ := I.pin p hp
      refine ⟨(hs.2 p.1 ?_).trans e, n, ne, nf, d⟩
      intro q
      rw [q, hoc] at e
      have q' : oc = p.2 := Option.some.inj e
      exact d w' (by rw [← q']; exact hocd)
theorem store_ok {M : Model} {A : Around} {E : Value → Shared → Prop} {i : Nat} {x : Str} {v : V} {u : Value} {Q : Unit → Shared → Prop} (I : Inv X pins σ H s) (hN : X.N.Nodup) (hi : X.N[i]? = some x) (hx : Loc X.env.scope x) (r : RelV v u)
    (h : ∀ s', Inv X pins (σ.set i (some v)) H s' → Q () s') (hf : X.fn x = true ∨ X.env.scope.names.lookup x = some .local := by first | exact .inl rfl | exact .inr rfl | assumption) : wpAny M A (storeName X.env x u) Q E s :=
  store_ok2 I hN hi hx r (fun s' I' _ => h s' I') hf
/-- behind a call or a block, the state as it is -/
theorem Inv.call' {s' : Shared} {ch : List Addr} (I : Inv X pins σ H s) (ho : s'.os = s.os) (u : Un (frs X.stack) ch H H' s.heap s'.heap) (hok : HOk X.prog X.w H' s'.heap) (hg : AllBare s'.gens)
    (hch : ∀ b ∈ ch, (b ∈ X.ex ∨ X.s₀.heap.objs.size ≤ b) ∧ b ≠ X.env.locals ∧ (∀ x c, X.env.cells.lookup x = some c → c ≠ b) ∧ ∀ p ∈ X.pn ++ pins, p.1 ≠ b) : Inv X pins σ H' s' := by
  obtain ⟨h', g', d', t', o'⟩ := s'
  have e : o' = s.os := ho
  subst e
  exact I.call (g' := g') (t' := t') (d' := d') u hok hg hch
end

/-! ### the judgements -/
/-- an exception: its class, its own dict's address (where it has one), the abstract heap behind it -/
abbrev XK := Value → Option Addr → Hp → Prop
abbrev St := List (Option V)
abbrev VK := V → Hp → Prop
/-- an expression's reading; a test's; an argument list's -/
abbrev TE := St → Hp → VK → Prop
abbrev TT := St → Hp → (Bool → Hp → Prop) → Prop
abbrev TA := St → Hp → (List V → Hp → Prop) → Prop
/-- what is wanted behind a statement -/
structure Ends where
  nx : St → Hp → Prop
  rt : VK
  bk : St → Hp → Prop := fun _ _ => False
  ct : St → Hp → Prop := fun _ _ => False
abbrev TS := Ends → St → Hp → Prop

def EP (X : Cx) (pins : List (Addr × Obj)) (σ : St) (Q : VK) (u : Value) (s' : Shared) : Prop := ∃ v H', Inv X pins σ H' s' ∧ RelV v u ∧ Q v H'
def TP (X : Cx) (pins : List (Addr × Obj)) (σ : St) (Q : Bool → Hp → Prop) (b : Bool) (s' : Shared) : Prop := ∃ H', Inv X pins σ H' s' ∧ Q b H'
def AP (X : Cx) (pins : List (Addr × Obj)) (σ : St) (Q : List V → Hp → Prop) (us : List Value) (s' : Shared) : Prop := ∃ vs H', Inv X pins σ H' s' ∧ Vals vs us ∧ Q vs H'
def SP (X : Cx) (pins : List (Addr × Obj)) (D : Ends) (f : Flow) (s' : Shared) : Prop :=
  match f with
  | .next => ∃ σ' H', Inv X pins σ' H' s' ∧ D.nx σ' H'
  | .brk => ∃ σ' H', Inv X pins σ' H' s' ∧ D.bk σ' H'
  | .cont => ∃ σ' H', Inv X pins σ' H' s' ∧ D.ct σ' H'
  | .ret u => ∃ v σ' H', Inv X pins σ' H' s' ∧ RelV v u ∧ D.rt v H'

def PE (X : Cx) (e : Expr) (t : TE) : Prop :=
  ∀ (pins : List (Addr × Obj)) (s : Shared) (σ : St) (H : Hp) (Q : VK), Inv X pins σ H s → t σ H Q → wpAny (model X.prog X.w) X.A (eval e X.env) (EP X pins σ Q) X.xe s
def PT (X : Cx) (e : Expr) (t : TT) : Prop :=
  ∀ (pins : List (Addr × Obj)) (s : Shared) (σ : St) (H : Hp) (Q : Bool → Hp → Prop), Inv X pins σ H s → t σ H Q → wpAny (model X.prog X.w) X.A (isTrue e X.env (eval e X.env)) (TP X pins σ Q) X.xe s
/-- a test whatever its 'whole' is (and, or) -/
def PW (X : Cx) (e : Expr) (t : TT) : Prop :=
  ∀ (whole : Sem Value) (pins : List (Addr × Obj)) (s : Shared) (σ : St) (H : Hp) (Q : Bool → Hp → Prop), Inv X pins σ H s → t σ H Q → wpAny (model X.prog X.w) X.A (isTrue e X.env whole) (TP X pins σ Q) X.xe s
theorem PW.pt {X : Cx} {e : Expr} {t : TT} (h : PW X e t) : PT X e t := h _
/-- an argument list (no star), from the left -/
def PA (X : Cx) (es : List Expr) (t : TA) : Prop :=
  ∀ (pos : Pos) (pins : List (Addr × Obj)) (s : Shared) (σ : St) (H : Hp) (Q : List V → Hp → Prop), Inv X pins σ H s → t σ H Q → wpAny (model X.prog X.w) X.A (spliced (backTo pos (starEach es X.env))) (AP X pins σ Q) X.xe s
def PS (X : Cx) (st : Stmt) (t : TS) : Prop :=
  ∀ (pins : List (Addr × Obj)) (s : Shared) (σ : St) (H : Hp) (D : Ends), Inv X pins σ H s → t D σ H → wpAny (model X.prog X.w) X.A (exec st X.env) (SP X pins D) X.xe s
def PSs (X : Cx) (st : List Stmt) (t : TS) : Prop :=
  ∀ (pins : List (Addr × Obj)) (s : Shared) (σ : St) (H : Hp) (D : Ends), Inv X pins σ H s → t D σ H → wpAny (model X.prog X.w) X.A (execs st X.env) (SP X pins D) X.xe s
/-- weaken the end -/
theorem thn {α : Type} {t : Sem α} {Q Q' : α → Shared → Prop} {M : Model} {A : Around} {E : Value → Shared → Prop} {s : Shared} (h : wpAny M A t Q E s) (hQ : ∀ a s, Q a s → Q' a s) : wpAny M A t Q' E s := wpAny_mono h hQ fun _ _ x => x
end L2

namespace L2
open PySem PySem.Spec PyProof.Rows
section
variable {X : Cx}


/-! ### names and constants -/
def tVar (i : Nat) : TE := fun σ H Q => ∃ v, σ[i]? = some (some v) ∧ Q v H
def tC (v : V) : TE := fun _ H Q => Q v H
theorem pe_var {i : Nat} {x : Str} {pos : Pos} (hN : X.N[i]? = some x) (hv : Vis X.env.scope x) (hd : (x == ("__debug__" : Str)) = false := by decide) (hcd : (x == ("__classdict__" : Str)) = false := by decide) : PE X (.Name x pos) (tVar i) := by
  intro pins s σ H Q I h
  obtain ⟨v, e, h⟩ := h
  obtain ⟨m, hn, hl⟩ := I.loc
  obtain ⟨u, r, l⟩ := hl i x v hN e hv
  have fin : EP X pins σ Q u s := ⟨v, H, I, r, h⟩
  rcases l with ⟨hk, hm⟩ | ⟨hk, c, hc, hcell⟩
  · exact wpAny_Name (wpAny_loadName_local I.ok.kind hk hn hm fin) hd
  · rcases hk with hk | hk
    · exact wpAny_Name (wpAny_loadName_cell I.ok.kind hk hc hcell fin) hd
    · exact wpAny_Name (wpAny_loadName_free I.ok.kind hk hc hcell fin hcd) hd
theorem pe_int {i j pos} : PE X (.Constant (.int i) j pos) (tC (.int i)) := fun _ _ _ H _ I h => wpAny_Constant_int ⟨.int i, H, I.tok _, ⟨_, rfl⟩, h⟩
theorem pe_bl {b j pos} : PE X (.Constant (.bool b) j pos) (tC (.bl b)) := fun _ _ _ H _ I h => Constant_bool ⟨.bl b, H, I, rfl, h⟩
theorem pe_non {j pos} : PE X (.Constant .none j pos) (tC .non) := fun _ _ _ H _ I h => Constant_none ⟨.non, H, I, rfl, h⟩

/-- a global name of the def -/
def Gl (X : Cx) (x : Str) : Prop := X.env.kindOf x = some .globalImplicit
theorem ld_glob {E : Value → Shared → Prop} {pins : List (Addr × Obj)} {s : Shared} {σ : St} {H : Hp} {x : Str} {u : Value} {pos : Pos} {Q : Value → Shared → Prop} (I : Inv X pins σ H s) (hg : Gl X x) (hm : X.mg x = some u) (h : Q u s)
    (hd : (x == ("__debug__" : Str)) = false := by decide) : wpAny (model X.prog X.w) X.A (eval (.Name x pos) X.env) Q E s :=
  Calls.Name_function_global I.ok.kind hg (Calls.loadGlobal_global (by rw [I.ok.glob]; exact I.mod.glob.keeps I.bk) hm h) hd
theorem ld_blt {E : Value → Shared → Prop} {pins : List (Addr × Obj)} {s : Shared} {σ : St} {H : Hp} {x : Str} {u : Value} {pos : Pos} {Q : Value → Shared → Prop} (I : Inv X pins σ H s) (hg : Gl X x) (hm : X.mg x = none) (hv : bootBuiltins x = some u) (h : Q u s)
    (hn : x ≠ "__name__" := by decide) (hd : (x == ("__debug__" : Str)) = false := by decide) : wpAny (model X.prog X.w) X.A (eval (.Name x pos) X.env) Q E s := by
  obtain ⟨mb, h1, h2⟩ := I.mod.blt
  exact Calls.Name_function_global I.ok.kind hg (Calls.loadGlobal_builtin (by rw [I.ok.glob]; exact I.mod.glob.keeps I.bk) hm (by rw [I.ok.blt]; exact h1.keeps I.bk) ((h2 x hn).trans hv) h) hd
/-- a module's constant, a class, a function, as a value -/
theorem pe_glob {x : Str} {v : V} {u : Value} {pos : Pos} (hg : Gl X x) (hm : X.mg x = some u) (r : RelV v u) (hd : (x == ("__debug__" : Str)) = false := by decide) : PE X (.Name x pos) (tC v) :=
  fun _ _ _ H _ I h => ld_glob I hg hm ⟨v, H, I, r, h⟩ hd
theorem pe_bltn {x : Str} {v : V} {u : Value} {pos : Pos} (hg : Gl X x) (hm : X.mg x = none) (hv : bootBuiltins x = some u) (r : RelV v u) (hn : x ≠ "__name__" := by decide) (hd : (x == ("__debug__" : Str)) = false := by decide) : PE X (.Name x pos) (tC v) :=
  fun _ _ _ H _ I h => ld_blt I hg hm hv ⟨v, H, I, r, h⟩ hn hd

/-! ### arithmetic -/
variable {a b : Expr} {ta tb : TE} {pos : Pos}

/-! ### comparisons -/
def PC (X : Cx) (op : CmpOp) (a b : Expr) (t : TE) : Prop :=
  ∀ (pins : List (Addr × Obj)) (s : Shared) (σ : St) (H : Hp) (Q : VK), Inv X pins σ H s → t σ H Q →
    wpAny (model X.prog X.w) X.A (eval a X.env) (fun v s₁ => wpAny (model X.prog X.w) X.A (eval b X.env) (fun u s₂ => wpAny (model X.prog X.w) X.A (compareOp op v u) (EP X pins σ Q) X.xe s₂) X.xe s₁) X.xe s
/-- a comparison as a value, as a test -/
def tB (t : TE) : TT := fun σ H Q => t σ H fun x H1 => ∃ c, x = .bl c ∧ Q c H1
theorem pt_cmp {op : CmpOp} {t : TE} (h : PC X op a b t) (h1 : behindInMarks op b = false := by first | exact nobehind _ (by decide) (by decide) | rfl) : PT X (.Compare a [op] [b] pos) (tB t) := by
  intro pins s σ H Q I hw
  refine wpAny_isTrue_Compare1 (thn (h pins s σ H _ I hw) fun v s1 h1 => thn h1 fun u s2 h2 => thn h2 fun c s3 ⟨x, H1, I1, r1, q1⟩ => ?_) h1
  obtain ⟨d, rfl, q⟩ := q1
  cases r1
  exact wpAny_truthy_bool ⟨H1, I1, q⟩
/-- an expression whose value is a bool, as a test -/
theorem pt_val {e : Expr} {t : TE} (h : PE X e t) (he : ∀ whole, isTrue e X.env whole = (do let v ← whole; standAt e.pos; holding [v] (truthy v)) := by intro _; rfl) : PT X e (tB t) := by
  intro pins s σ H Q I hw
  refine isTrue_plain (thn (h pins s σ H _ I hw) fun v s1 ⟨x, H1, I1, r1, q1⟩ => ?_) (he _)
  obtain ⟨d, rfl, q⟩ := q1
  cases r1
  exact wpAny_truthy_bool ⟨H1, I1, q⟩

/-! ### and, or, not -/
variable {tA tB' : TT} {rest : List Expr}
def tAnd (t u : TT) : TT := fun σ H Q => t σ H fun c H1 => if c = true then u σ H1 Q else Q false H1
def tOr (t u : TT) : TT := fun σ H Q => t σ H fun c H1 => if c = true then Q true H1 else u σ H1 Q
def tNot (t : TT) : TT := fun σ H Q => t σ H fun c H1 => Q (!c) H1
theorem pw_and1 (ha : PT X a tA) : PW X (.BoolOp .And [a] pos) tA := by
  intro wh pins s σ H Q I h
  refine isTrue_and (thn (ha pins s σ H Q I h) fun c s1 e => ?_)
  cases c with
  | true => exact isTrue_and_nil e
  | false => exact e
theorem pw_or1 (ha : PT X a tA) : PW X (.BoolOp .Or [a] pos) tA := by
  intro wh pins s σ H Q I h
  refine isTrue_or (thn (ha pins s σ H Q I h) fun c s1 e => ?_)
  cases c with
  | false => exact isTrue_or_nil e
  | true => exact e
theorem pw_and (ha : PT X a tA) (hb : PW X (.BoolOp .And (b :: rest) pos) tB') : PW X (.BoolOp .And (a :: b :: rest) pos) (tAnd tA tB') := by
  intro wh pins s σ H Q I h
  refine isTrue_and (thn (ha pins s σ H _ I h) fun c s1 ⟨H1, I1, q1⟩ => ?_)
  cases c with
  | true => exact hb wh pins s1 σ H1 Q I1 q1
  | false => exact ⟨H1, I1, q1⟩
theorem pw_or (ha : PT X a tA) (hb : PW X (.BoolOp .Or (b :: rest) pos) tB') : PW X (.BoolOp .Or (a :: b :: rest) pos) (tOr tA tB') := by
  intro wh pins s σ H Q I h
  refine isTrue_or (thn (ha pins s σ H _ I h) fun c s1 ⟨H1, I1, q1⟩ => ?_)
  cases c with
  | true => exact ⟨H1, I1, q1⟩
  | false => exact hb wh pins s1 σ H1 Q I1 q1
theorem pt_not (ha : PT X a tA) : PT X (.UnaryOp .Not a pos) (tNot tA) := by
  intro pins s σ H Q I h
  exact isTrue_not (ha pins s σ H (fun c H1 => Q (!c) H1) I h)
/-- .. as values (bools) -/
def tAndV (ta tb : TE) : TE := fun σ H Q => ta σ H fun x H1 => ∃ c, x = .bl c ∧ if c = true then tb σ H1 Q else Q (.bl false) H1
def tNotV (ta : TE) : TE := fun σ H Q => ta σ H fun x H1 => ∃ c, x = .bl c ∧ Q (.bl (!c)) H1
theorem pe_one {op} {t : TE} (h : PE X a t) : PE X (.BoolOp op [a] pos) t := fun pins s σ H Q I hw => BoolOp_one (h pins s σ H Q I hw)
theorem pe_and (ha : PE X a ta) (hb : PE X (.BoolOp .And (b :: rest) pos) tb) : PE X (.BoolOp .And (a :: b :: rest) pos) (tAndV ta tb) := by
  intro pins s σ H Q I h
  refine BoolOp_and (thn (ha pins s σ H _ I h) fun v s1 ⟨x, H1, I1, r1, q1⟩ => ?_)
  obtain ⟨c, rfl, q1⟩ := q1
  cases r1
  refine wpAny_truthy_bool ?_
  cases c with
  | true => exact hb pins s1 σ H1 Q I1 q1
  | false => exact ⟨.bl false, H1, I1, rfl, q1⟩
theorem pe_not (ha : PE X a ta) : PE X (.UnaryOp .Not a pos) (tNotV ta) := by
  intro pins s σ H Q I h
  refine UnaryOp_ (thn (ha pins s σ H _ I h) fun v s1 ⟨x, H1, I1, r1, q1⟩ => ?_)
  obtain ⟨c, rfl, q1⟩ := q1
  cases r1
  exact not_of (wpAny_truthy_bool ⟨.bl (!c), H1, I1, rfl, q1⟩)
/-- a if t else b -/
def tIf (t : TT) (ta tb : TE) : TE := fun σ H Q => t σ H fun c H1 => if c = true then ta σ H1 Q else tb σ H1 Q
theorem pe_ifExp {c : Expr} (hc : PT X c tA) (ha : PE X a ta) (hb : PE X b tb) : PE X (.IfExp c a b pos) (tIf tA ta tb) := by
  intro pins s σ H Q I h
  refine wpAny_IfExp (thn (hc pins s σ H _ I h) fun d s1 ⟨H1, I1, q1⟩ => ?_)
  cases d with
  | true => exact ha pins s1 σ H1 Q I1 q1
  | false => exact hb pins s1 σ H1 Q I1 q1
end
end L2

namespace L2
open PySem PySem.Spec PyProof.Rows

/-! ### a list, a tuple that is read: tracked, frozen, or an object of the module -/
def SqL (K : PySem.W.Frag) (H : Hp) (a : Addr) (xs : List V) : Prop :=
  Rd H a (.lst xs) ∨
    ∃ (o : Obj) (its : Array Value) (n : Nat), K.lookup a = some o ∧ o.cls = .type "list" ∧ o.dict = none ∧ o.data = .seq its n ∧ its.size ≤ sizeLine ∧ Vals xs its.toList
def SqT (K : PySem.W.Frag) (H : Hp) (a : Addr) (xs : List V) : Prop :=
  Rd H a (.tup xs) ∨
    ∃ (o : Obj) (its : Array Value) (n : Nat), K.lookup a = some o ∧ o.cls = .type "tuple" ∧ o.data = .seq its n ∧ its.size ≤ sizeLine ∧ Vals xs its.toList
def absV : Value → Option V
  | .none => some .non
  | .bool b => some (.bl b)
  | .int i _ => some (.int i)
  | .str x _ => some (.str x)
  | .bytes b _ => some (.byt b)
  | .float b _ => some (.flt b)
  | .ref a => some (.ref a)
  | .type n => some (.ty n)
  | _ => none
theorem RelV.abs {x : V} {u : Value} (r : RelV x u) : absV u = some x := by
  cases x with
  | non => cases r; rfl
  | bl _ => cases r; rfl
  | int _ => obtain ⟨t, rfl⟩ := r; rfl
  | str _ => obtain ⟨t, rfl⟩ := r; rfl
  | byt _ => obtain ⟨t, rfl⟩ := r; rfl
  | flt _ => obtain ⟨t, rfl⟩ := r; rfl
  | ref _ => cases r; rfl
  | ty _ => cases r; rfl
theorem RelV.inj {x y : V} {u : Value} (r : RelV x u) (q : RelV y u) : x = y := Option.some.inj (r.abs.symm.trans q.abs)
theorem Vals.inj : ∀ {xs ys : List V} {us : List Value}, Vals xs us → Vals ys us → xs = ys
  | _, _, _, .nil, .nil => rfl
  | _, _, _, .cons r t, .cons r' t' => by rw [r.inj r', Vals.inj t t']
section
variable {X : Cx} {pins : List (Addr × Obj)} {σ : St} {H : Hp} {s : Shared} {a : Addr} {xs ys : List V}
theorem SqL.of {K : PySem.W.Frag} (h : H a = some (.lst xs)) : SqL K H a xs := .inl (.inl h)
theorem SqT.of {K : PySem.W.Frag} (h : H a = some (.tup xs)) : SqT K H a xs := .inl (.inl h)
theorem Inv.list (I : Inv X pins σ H s) (h : SqL X.K H a xs) : ∃ its : List Value, Vals xs its ∧ PlainL s.heap a its.toArray ∧ xs.length ≤ sizeLine := by
  rcases h with h | ⟨o, its, n, hk, hc, hd, hs, hz, r⟩
  · obtain ⟨z, its, n, r, e⟩ := h.ok I.hok
    exact ⟨its, r, ⟨_, n, e, rfl, rfl, rfl⟩, z⟩
  · refine ⟨its.toList, r, ⟨o, n, I.kIn a o hk, hc, hd, by simpa using hs⟩, ?_⟩
    have e := r.length
    simp only [Array.length_toList] at e
    omega
theorem Inv.tuple (I : Inv X pins σ H s) (h : SqT X.K H a xs) : ∃ its : List Value, Vals xs its ∧ IsTup s.heap a its.toArray ∧ xs.length ≤ sizeLine := by
  rcases h with h | ⟨o, its, n, hk, hc, hs, hz, r⟩
  · obtain ⟨z, its, r, p⟩ := h.ok I.hok
    exact ⟨its, r, p, z⟩
  · refine ⟨its.toList, r, ⟨o, I.kIn a o hk, hc, n, by simpa using hs⟩, ?_⟩
    have e := r.length
    simp only [Array.length_toList] at e
    omega
theorem Inv.list_inj (I : Inv X pins σ H s) (h : SqL X.K H a xs) (h' : SqL X.K H a ys) : xs = ys := by
  obtain ⟨its, r, ⟨o, n, e, _, _, d⟩, _⟩ := I.list h
  obtain ⟨its', r', ⟨o', n', e', _, _, d'⟩, _⟩ := I.list h'
  rw [e] at e'; cases e'
  rw [d] at d'
  injection d' with d1 _
  have : its = its' := by simpa using congrArg Array.toList d1
  subst this
  exact r.inj r'
end

/-! ### another wish about exceptions -/
abbrev Cx.wish (X : Cx) (E : Value → Shared → Prop) : Cx := { X with xe := E }
/-- no exception leaves -/
abbrev Cx.nox (X : Cx) : Cx := X.wish fun _ _ => False
theorem Cx.Ok.wish {X : Cx} (ok : X.Ok) (E : Value → Shared → Prop) : (X.wish E).Ok :=
  ⟨ok.mod, ok.kind, ok.glob, ok.blt, ok.above, ok.inj, ok.has, ok.cab, ok.hd, ok.frames, ok.stk, ok.exf, ok.bs, ok.bsz, ok.noex, ok.exfs, ok.funs, ok.frf⟩
theorem Cx.Ok.unwish {X : Cx} {E : Value → Shared → Prop} (ok : (X.wish E).Ok) : X.Ok :=
  ⟨ok.mod, ok.kind, ok.glob, ok.blt, ok.above, ok.inj, ok.has, ok.cab, ok.hd, ok.frames, ok.stk, ok.exf, ok.bs, ok.bsz, ok.noex, ok.exfs, ok.funs, ok.frf⟩
section
variable {X : Cx} {pins : List (Addr × Obj)} {σ : St} {H : Hp} {s : Shared} {E : Value → Shared → Prop}
theorem Inv.wish (I : Inv X pins σ H s) (E : Value → Shared → Prop) : Inv (X.wish E) pins σ H s := ⟨I.ok.wish E, I.os, I.bare, I.base, I.loc, I.cell, I.free, I.freeC, I.pin, I.hok, I.len⟩
theorem Inv.unwish (I : Inv (X.wish E) pins σ H s) : Inv X pins σ H s := ⟨I.ok.unwish, I.os, I.bare, I.base, I.loc, I.cell, I.free, I.freeC, I.pin, I.hok, I.len⟩
theorem SP.unwish {D : Ends} {f : Flow} {s' : Shared} (h : SP (X.wish E) pins D f s') : SP X pins D f s' := by
  cases f with
  | next => obtain ⟨σ', H', I, q⟩ := h; exact ⟨σ', H', I.unwish, q⟩
  | brk => obtain ⟨σ', H', I, q⟩ := h; exact ⟨σ', H', I.unwish, q⟩
  | cont => obtain ⟨σ', H', I, q⟩ := h; exact ⟨σ', H', I.unwish, q⟩
  | ret u => obtain ⟨v, σ', H', I, r, q⟩ := h; exact ⟨v, σ', H', I.unwish, r, q⟩
theorem PSs.nox {st : List Stmt} {t : TS} (h : PSs X.nox st t) : PSs X st t := fun pins s σ H D I hw =>
  wpAny_mono (h pins s σ H D (I.wish _) hw) (fun _ _ q => q.unwish) fun _ _ z => False.elim z
end

/-! ### blocks and small statements -/
section
variable {X : Cx} {st : Stmt} {rest : List Stmt} {t u : TS} {e : Expr} {te : TE} {pos : Pos}
def tNext : TS := fun D σ H => D.nx σ H
def tSeq (t u : TS) : TS := fun D σ H => t { D with nx := u D } σ H
theorem pss_nil : PSs X [] tNext := fun _ _ σ H _ I h => wpAny_execs_nil ⟨σ, H, I, h⟩
theorem pss_cons (h1 : PS X st t) (h2 : PSs X rest u) : PSs X (st :: rest) (tSeq t u) := by
  intro pins s σ H D I h
  refine wpAny_execs_cons (thn (h1 pins s σ H { D with nx := u D } I h) fun f s1 q => ?_)
  cases f with
  | next =>
    obtain ⟨σ', H', I', q⟩ := q
    exact h2 pins s1 σ' H' D I' q
  | ret v => exact q
  | brk => exact q
  | cont => exact q
theorem pss_one (h1 : PS X st t) : PSs X [st] t := by
  intro pins s σ H D I h
  refine wpAny_execs_cons (thn (h1 pins s σ H D I h) fun f s1 q => ?_)
  cases f with
  | next => exact wpAny_execs_nil q
  | ret v => exact q
  | brk => exact q
  | cont => exact q
/-- in a def's body nothing is shown -/
theorem Inv.quiet {pins : List (Addr × Obj)} {σ : St} {H : Hp} {s : Shared} (I : Inv X pins σ H s) : interactive X.env = false := by simp [interactive, I.ok.kind]
/-- an expression whose value is dropped -/
def tDrop (te : TE) : TS := fun D σ H => te σ H fun _ H1 => D.nx σ H1
theorem ps_expr (he : PE X e te) (hs : swapsWith e none pos.line X.env = pure false := by rfl) : PS X (.Expr e pos) (tDrop te) := by
  intro pins s σ H D I h
  exact wpAny_Expr_any (thn (he pins s σ H _ I h) fun v s1 ⟨x, H1, I1, r1, q1⟩ => ⟨σ, H1, I1, q1⟩) I.quiet hs
def tRet (te : TE) : TS := fun D σ H => te σ H D.rt
theorem ps_ret (he : PE X e te) : PS X (.Return (some e) pos) (tRet te) := by
  intro pins s σ H D I h
  exact wpAny_Return_some (thn (he pins s σ H _ I h) fun v s1 ⟨x, H1, I1, r1, q1⟩ => ⟨x, σ, H1, I1, r1, q1⟩)
def tIfS (c : TT) (t u : TS) : TS := fun D σ H => c σ H fun b H1 => if b = true then t D σ H1 else u D σ H1
theorem ps_if {c : Expr} {a b : List Stmt} {tc : TT} (hc : PT X c tc) (ha : PSs X a t) (hb : PSs X b u) : PS X (.If c a b pos) (tIfS tc t u) := by
  intro pins s σ H D I h
  refine wpAny_If (thn (hc pins s σ H _ I h) fun d s1 ⟨H1, I1, q1⟩ => ?_)
  cases d with
  | true => exact ha pins s1 σ H1 D I1 q1
  | false => exact hb pins s1 σ H1 D I1 q1
/-- code that the proof never comes to -/
def tNever : TS := fun _ _ _ => False
theorem ps_never : PS X st tNever := fun _ _ _ _ _ _ h => h.elim
end

/-! ### targets -/
abbrev TG := V → St → Hp → (St → Hp → Prop) → Prop
abbrev TGs := List V → St → Hp → (St → Hp → Prop) → Prop
def PG (X : Cx) (target : Expr) (t : TG) : Prop :=
  ∀ (pins : List (Addr × Obj)) (s : Shared) (σ : St) (H : Hp) (v : V) (u : Value) (Q : St → Hp → Prop), Inv X pins σ H s → RelV v u → t v σ H Q →
    wpAny (model X.prog X.w) X.A (assign target X.env u) (fun _ s' => ∃ σ' H', Inv X pins σ' H' s' ∧ Q σ' H') X.xe s
/-- several targets, one after another -/
def PGs (X : Cx) (ts : List Expr) (t : TGs) : Prop :=
  ∀ (pins : List (Addr × Obj)) (s : Shared) (σ : St) (H : Hp) (vs : List V) (us : List Value) (Q : St → Hp → Prop), Inv X pins σ H s → Vals vs us → t vs σ H Q →
    wpAny (model X.prog X.w) X.A (assignInOrder ((assignEach ts X.env).map (·.2)) us) (fun _ s' => ∃ σ' H', Inv X pins σ' H' s' ∧ Q σ' H') X.xe s
section
variable {X : Cx} {pos : Pos}
def gName (i : Nat) : TG := fun v σ H Q => Q (σ.set i (some v)) H
theorem pg_name {i : Nat} {x : Str} (hN : X.N.Nodup) (hi : X.N[i]? = some x) (hx : Loc X.env.scope x) (hf : X.fn x = true ∨ X.env.scope.names.lookup x = some .local := by first | exact .inl rfl | exact .inr rfl | assumption) : PG X (.Name x pos) (gName i) := by
  intro pins s σ H v u Q I r h
  exact wpAny_assign_Name (store_ok I hN hi hx r (fun s' I' => ⟨_, H, I', h⟩) hf)
def gNil : TGs := fun vs σ H Q => vs = [] ∧ Q σ H
def gCons (t : TG) (u : TGs) : TGs := fun vs σ H Q => ∃ v r, vs = v :: r ∧ t v σ H fun σ' H' => u r σ' H' Q
theorem pgs_nil : PGs X [] gNil := by
  intro pins s σ H vs us Q I r h
  obtain ⟨e, h⟩ := h
  subst e
  cases r
  exact assignInOrder_nil ⟨σ, H, I, h⟩
theorem pgs_cons {e : Expr} {es : List Expr} {t : TG} {u : TGs} (h1 : PG X e t) (h2 : PGs X es u)
    (hs : (assignEach (e :: es) X.env).map (·.2) = assign e X.env :: (assignEach es X.env).map (·.2) := by rfl) : PGs X (e :: es) (gCons t u) := by
  intro pins s σ H vs us Q I r h
  obtain ⟨v, vr, e1, h⟩ := h
  subst e1
  cases r with
  | cons r rr =>
    rw [hs]
    refine assignInOrder_cons (thn (h1 pins s σ H _ _ _ I r h) fun _ s1 ⟨σ1, H1, I1, q1⟩ => ?_)
    exact h2 pins s1 σ1 H1 _ _ Q I1 rr q1
/-- (a, b, ..) = a tuple of that length -/
def gTup (K : PySem.W.Frag) (n : Nat) (t : TGs) : TG := fun v σ H Q => ∃ a xs, v = .ref a ∧ SqT K H a xs ∧ xs.length = n ∧ t xs σ H Q
theorem pg_tup {es : List Expr} {k : Nat} {t : TGs} {n : Nat} (hc : X.calm = true) (h : PGs X es t)
    (hn : (assignEach es X.env).length = n := by rfl) (hst : (assignEach es X.env).findIdx? (·.1) = none := by rfl) : PG X (.Tuple es k pos) (gTup X.K n t) := by
  intro pins s σ H v u Q I r hw
  obtain ⟨a, xs, e1, hq, hl, hw⟩ := hw
  subst e1
  cases r
  obtain ⟨its, rv, ht, hz⟩ := I.tuple hq
  refine assign_Tuple_tuple (I.ok.hd hc) ht (by simp [hn, ← hl, rv.length]) hst fun h' hx => ?_
  have I1 : Inv X pins σ H { s with heap := h' } := I.kept (t' := s.toks) fun b o e => hx b o (Nat.ne_of_lt (Heap.lt_size e)) e
  exact h pins _ σ H xs _ Q I1 (by simpa using rv) hw
/-- target = value -/
def tAsg (te : TE) (g : TG) : TS := fun D σ H => te σ H fun x H1 => g x σ H1 D.nx
/-- name = value -/
theorem ps_set {i : Nat} {x : Str} {e : Expr} {te : TE} {pos' : Pos} (hN : X.N.Nodup) (hi : X.N[i]? = some x) (hx : Loc X.env.scope x) (he : PE X e te) (hs : swapsWith e (some (.Name x pos')) pos.line X.env = pure false := by rfl) (hf : X.fn x = true ∨ X.env.scope.names.lookup x = some .local := by first | exact .inl rfl | exact .inr rfl | assumption) :
    PS X (.Assign [.Name x pos'] e pos) (tAsg te (gName i)) := by
  intro pins s σ H D I h
  refine wpAny_Assign_Name (thn (he pins s σ H _ I h) fun v s1 ⟨y, H1, I1, r1, q1⟩ => ?_) hs
  exact store_ok I1 hN hi hx r1 (fun s2 I2 => ⟨_, H1, I2, q1⟩) hf
end

/-! ### while -/
section
variable {X : Cx} {pos : Pos}
/-- the invariant W with its measure -/
def tWhile (c : TT) (tb : TS) : TS := fun D σ H => ∃ W : Nat → St → Hp → Prop, (∃ m, W m σ H) ∧ ∀ m σ H, W m σ H →
  c σ H fun b H1 => if b = true then ∃ N : St → Hp → Prop, (∀ σ' H', N σ' H' → ∃ m', m' < m ∧ W m' σ' H') ∧ tb { D with nx := N, ct := N, bk := D.nx } σ H1 else D.nx σ H1
theorem ps_while {c : Expr} {body : List Stmt} {tc : TT} {tb : TS} (hp : PassesOwn (model X.prog X.w) X.A X.env X.xe) (hc : PT X c tc) (hb : PSs X body tb) : PS X (.While c body [] pos) (tWhile tc tb) := by
  intro pins s σ H D I h
  obtain ⟨W, ⟨m0, w0⟩, turn⟩ := h
  refine wpAny_While (codeAny_whileLoop (fun n s' => ∃ σ' H', Inv X pins σ' H' s' ∧ W n σ' H') ?_ m0 ⟨σ, H, I, w0⟩)
  rintro n s1 ⟨σ1, H1, I1, w1⟩
  refine wpAny_passesOwn hp (thn (hc pins s1 σ1 H1 _ I1 (turn n σ1 H1 w1)) fun b s2 ⟨H2, I2, q2⟩ => ?_)
  cases b with
  | true =>
    obtain ⟨N, hN, q2⟩ := q2
    rw [if_pos rfl]
    refine wpAny_passesOwn hp (thn (hb pins s2 σ1 H2 _ I2 q2) fun f s3 q3 => ?_)
    cases f with
    | next =>
      obtain ⟨σ3, H3, I3, n3⟩ := q3
      obtain ⟨m', hm, w3⟩ := hN σ3 H3 n3
      exact ⟨m', hm, σ3, H3, I3, w3⟩
    | cont =>
      obtain ⟨σ3, H3, I3, n3⟩ := q3
      obtain ⟨m', hm, w3⟩ := hN σ3 H3 n3
      exact ⟨m', hm, σ3, H3, I3, w3⟩
    | brk => exact q3
    | ret v => exact q3
  | false =>
    rw [if_neg Bool.false_ne_true]
    exact wpAny_execs_nil ⟨σ1, H2, I2, q2⟩
end

/-! ### what a loop or a comprehension walks -/
/-- at turn i: it yields x (the heap may grow), or it stops -/
structure It where
  go : Nat → Hp → Prop
  yld : Nat → Hp → V → Hp → Prop
  stop : Nat → Hp → Prop
/-- the iterator's own objects may turn: they are not the frame's, not pinned, younger than the entry (or a comprehension's own) -/
def FpOk (X : Cx) (pins : List (Addr × Obj)) (H : Hp) (b : Addr) : Prop :=
  H b = none ∧ b ≠ X.env.locals ∧ b ∉ X.fs ∧ (b ∈ X.ex ∨ X.s₀.heap.objs.size ≤ b) ∧ (∀ x c, X.env.cells.lookup x = some c → c ≠ b) ∧ ∀ p ∈ X.pn ++ pins, p.1 ≠ b
theorem Inv.fpOk {X : Cx} {pins : List (Addr × Obj)} {σ : St} {H H' : Hp} {s : Shared} {b : Addr} (I : Inv X pins σ H s) (hb : s.heap.objs.size ≤ b) (hn : H' b = none) : FpOk X pins H' b := by
  refine ⟨hn, Nat.ne_of_gt (Nat.lt_of_lt_of_le I.lt hb), I.nofs hb, .inr (Nat.le_trans I.sz hb), fun x c e z => ?_, fun p hp z => ?_⟩
  · obtain ⟨v, q⟩ := I.cell x c e
    exact absurd (Nat.lt_of_lt_of_le q.lt (by rw [z]; exact hb)) (Nat.lt_irrefl _)
  · exact absurd (Nat.lt_of_lt_of_le (Heap.lt_size (I.pin p hp).1) (by rw [z]; exact hb)) (Nat.lt_irrefl _)
structure Turn (P : Program) (w : World) (K : PySem.W.Frag) (tg : Expr) (J : It) (fp : List Addr) (it : Addr) (tn : Nat → Heap → Prop) : Prop where
  mem : it ∈ fp
  obj : ∀ i h, tn i h → ∀ b ∈ fp, ∃ o, h.get? b = some o ∧ ∀ v, o.data ≠ .cell v
  keep : ∀ i h h', tn i h → (∀ b ∈ fp, ∀ o, h.get? b = some o → h'.get? b = some o) → tn i h'
  item : ∀ (X : Cx), X.prog = P → X.w = w → X.K = K → X.calm = true → ∀ (i : Nat) (pins : List (Addr × Obj)) (s : Shared) (σ : St) (H : Hp) (E : Value → Shared → Prop), Inv X pins σ H s → (∀ b ∈ fp, FpOk X pins H b) → tn i s.heap → J.go i H →
    wpAny (model P w) X.A (pyNext (.ref it)) (fun r s1 => ∃ u, r = some u ∧
      wpAny (model P w) X.A (letOwnedTupleGo tg (.ref it) u) (fun _ s2 => ∃ x H', Inv X pins σ H' s2 ∧ RelV x u ∧ J.yld i H x H' ∧ tn (i + 1) s2.heap ∧ ∀ b ∈ fp, H' b = none) E s1) E s
  done : ∀ (X : Cx), X.prog = P → X.w = w → X.K = K → X.calm = true → ∀ (i : Nat) (pins : List (Addr × Obj)) (s : Shared) (σ : St) (H : Hp) (E : Value → Shared → Prop), Inv X pins σ H s → (∀ b ∈ fp, FpOk X pins H b) → tn i s.heap → J.stop i H →
    wpAny (model P w) X.A (pyNext (.ref it)) (fun r s1 => r = none ∧ Inv X pins σ H s1) E s
  self : ∀ (A : Around) (i : Nat) (s : Shared) (Q : Value → Shared → Prop) (E : Value → Shared → Prop), tn i s.heap → Q (.ref it) s → wpAny (model P w) A (pyIter (.ref it)) Q E s
abbrev TI := St → Hp → (It → Hp → Prop) → Prop
/-- an iterator has come -/
def PIE (X : Cx) (pins : List (Addr × Obj)) (σ : St) (tg : Expr) (R : It → Hp → Prop) (itv : Value) (s2 : Shared) : Prop :=
  ∃ (it : Addr) (fp : List Addr) (tn : Nat → Heap → Prop) (J : It) (H' : Hp), itv = .ref it ∧ Inv X pins σ H' s2 ∧ Turn X.prog X.w X.K tg J fp it tn ∧ tn 0 s2.heap ∧ (∀ b ∈ fp, FpOk X pins H' b) ∧ R J H'
def PI (X : Cx) (tg iter : Expr) (wi : TI) : Prop :=
  ∀ (pins : List (Addr × Obj)) (s : Shared) (σ : St) (H : Hp) (R : It → Hp → Prop), Inv X pins σ H s → wi σ H R →
    wpAny (model X.prog X.w) X.A (eval iter X.env) (fun v s1 => wpAny (model X.prog X.w) X.A (pyIter v) (PIE X pins σ tg R) X.xe s1) X.xe s

/-- the step ahead of the store is nothing for an iterator that keeps no tuple -/
theorem go_of {M : Model} {A : Around} {E : Value → Shared → Prop} {s : Shared} {tg : Expr} {it : Addr} {u : Value} {o : Obj} {n : String} {vs : Array Value} {Q : Unit → Shared → Prop} (ho : s.heap.get? it = some o) (hc : o.cls = .type n) (hd : o.data = .fields vs)
    (hn : ["enumerate", "zip", "dict_itemiterator", "dict_reverseitemiterator", "odict_iterator", "itertools.zip_longest", "itertools.pairwise"].contains n = false) (hQ : Q () s) : wpAny M A (letOwnedTupleGo tg (.ref it) u) Q E s := by
  unfold letOwnedTupleGo
  cases tg <;> first
    | exact wpAny_pure hQ
    | (cases u <;> first
        | exact wpAny_pure hQ
        | (refine wpAny_bind (wpAny_load ho ?_)
           rw [hc, hd]
           show wpAny M A (if (["enumerate", "zip", "dict_itemiterator", "dict_reverseitemiterator", "odict_iterator", "itertools.zip_longest", "itertools.pairwise"].contains n && vs[0]? == some (rawInt _)) = true then _ else _) Q E s
           rw [if_neg (by intro h; rw [hn, Bool.false_and] at h; cases h)]
           exact wpAny_pure hQ))

/-- the list at a, as it stands at each turn (a loop may append to it) -/
def Itl (K : PySem.W.Frag) (a : Addr) : It :=
  ⟨fun i H => ∃ xs x, SqL K H a xs ∧ xs[i]? = some x, fun i H x H' => H' = H ∧ ∀ xs, SqL K H a xs → xs[i]? = some x, fun i H => ∃ xs, SqL K H a xs ∧ xs.length ≤ i⟩
/-- lo, lo + 1, .. (n of them) -/
def Itr (lo : Int) (n : Nat) : It := ⟨fun i _ => i < n, fun i H x H' => H' = H ∧ x = .int (lo + i), fun i _ => n ≤ i⟩
theorem turn_list {P : Program} {w : World} {K : PySem.W.Frag} {tg : Expr} (a it : Addr) : Turn P w K tg (Itl K a) [it] it (fun i h => h.IsListIter it a i) where
  mem := by simp
  obj := fun i h st b hb => by
    have e : b = it := by simpa using hb
    subst e
    obtain ⟨o, e, c, d⟩ := st
    exact ⟨o, e, fun v z => by rw [d] at z; cases z⟩
  keep := fun i h h' st k => st.at fun o e => k it (by simp) o e
  item := by
    intro X hP hw hK hc i pins s σ H E I hf st hg
    subst hP hw hK
    obtain ⟨xs, x, hq, hx⟩ := hg
    obtain ⟨its, rv, p, hz⟩ := I.list hq
    obtain ⟨u, hu, ru⟩ := rv.get hx
    obtain ⟨f0, f1, f2, f3, f4, f5⟩ := hf it (by simp)
    refine wpAny_pyNext_list_item st p.isList (x := u) (by simpa using hu) fun h' st' sb => ?_
    have I1 : Inv X pins σ H { s with heap := h' } := I.turned (t' := s.toks) (fun b o hb e => (sb.2 b hb).trans e) f0 f1 f3 f4 f5
    obtain ⟨o, e, c, d⟩ := id st'
    exact ⟨u, rfl, go_of (s := { s with heap := h' }) e c d (by decide) ⟨x, H, I1, ru, ⟨rfl, fun ys hy => by rw [I.list_inj hy hq]; exact hx⟩, st', fun b hb => (hf b hb).1⟩⟩
  done := by
    intro X hP hw hK hc i pins s σ H E I hf st hg
    subst hP hw hK
    obtain ⟨xs, hq, hx⟩ := hg
    obtain ⟨its, rv, p, hz⟩ := I.list hq
    obtain ⟨f0, f1, f2, f3, f4, f5⟩ := hf it (by simp)
    have hl := rv.length
    exact wpAny_pyNext_list_end (I.ok.hd hc) st p.isList (by simp; omega) fun h' eb => ⟨rfl, I.turned (t' := s.toks) (fun b o hb e => eb b o hb e) f0 f1 f3 f4 f5⟩
  self := fun _ _ _ _ _ st h => wpAny_pyIter_listiter st h
theorem turn_range {P : Program} {w : World} {K : PySem.W.Frag} {tg : Expr} (it : Addr) (lo : Int) (n : Nat) : Turn P w K tg (Itr lo n) [it] it (fun i h => IsRangeIter h it (lo + (i : Nat) * 1) ((n : Int) - (i : Nat)) 1) where
  mem := by simp
  obj := fun i h st b hb => by
    have e : b = it := by simpa using hb
    subst e
    exact ⟨_, st, fun v z => by
      have z' : Data.fields _ = Data.cell v := z
      cases z'⟩
  keep := fun i h h' st k => k it (by simp) _ st
  item := by
    intro X hP hw hK hc i pins s σ H E I hf st hg
    subst hP hw hK
    obtain ⟨f0, f1, f2, f3, f4, f5⟩ := hf it (by simp)
    have W := Walks.range (prog := X.prog) (w := X.w) (I.ok.hd hc) it lo 1 n
    refine W.item i s _ _ hg st fun v h' tk hv st' kk => ?_
    obtain ⟨t, rfl⟩ := hv
    have I1 : Inv X pins σ H { s with heap := h', toks := tk } := I.turned (fun b o hb e => kk b o (by simpa using hb) e) f0 f1 f3 f4 f5
    refine ⟨_, rfl, go_of (s := { s with heap := h', toks := tk }) (n := "range_iterator") st' rfl rfl (by decide) ⟨.int (lo + i), H, I1, ⟨t, ?_⟩, ⟨rfl, rfl⟩, st', fun b hb => (hf b hb).1⟩⟩
    rw [Int.mul_one]
  done := by
    intro X hP hw hK hc i pins s σ H E I hf st hg
    subst hP hw hK
    obtain ⟨f0, f1, f2, f3, f4, f5⟩ := hf it (by simp)
    exact wpAny_pyNext_range_end (I.ok.hd hc) st (by have : n ≤ i := hg; omega) fun h' eb => ⟨rfl, I.turned (t' := s.toks) (fun b o hb e => eb b o hb e) f0 f1 f3 f4 f5⟩
  self := fun _ _ _ _ _ st h => wpAny_pyIter_rangeiter st h
end L2

namespace L2
open PySem PySem.Spec PyProof.Rows
section
variable {X : Cx} {tg : Expr}
def iList (K : PySem.W.Frag) (tl : TE) : TI := fun σ H R => tl σ H fun x H1 => ∃ a, x = .ref a ∧ (∃ xs, SqL K H1 a xs) ∧ R (Itl K a) H1
theorem pi_list {l : Expr} {tl : TE} (hl : PE X l tl) : PI X tg l (iList X.K tl) := by
  intro pins s σ H R I h
  refine thn (hl pins s σ H _ I h) fun v s1 ⟨x, H1, I1, r1, q1⟩ => ?_
  obtain ⟨a, e, ⟨xs, hq⟩, q⟩ := q1
  subst e
  cases r1
  obtain ⟨its, rv, p, hz⟩ := I1.list hq
  refine wpAny_pyIter_list p.isList ?_
  refine ⟨s1.heap.objs.size, [s1.heap.objs.size], _, _, H1, rfl, I1.kept (t' := s1.toks) fun b o e => Heap.get?_push_of_some _ e, turn_list a _, ⟨_, Heap.get?_push_size _ rfl, rfl, rfl⟩, fun b hb => ?_, q⟩
  have e : b = s1.heap.objs.size := by simpa using hb
  subst e
  exact I1.fpOk (Nat.le_refl _) (I1.hok.fresh (Nat.le_refl _))
/-- a range object just made, walked -/
theorem range_it {pins : List (Addr × Obj)} {σ : St} {H : Hp} {s : Shared} {R : It → Hp → Prop} {E : Value → Shared → Prop} {lo hi : Int} {t u v : Tok} {tk : Nat} (I : Inv X pins σ H s) (h1 : -(2 ^ 62) ≤ lo) (h2 : lo < 2 ^ 62) (h3 : -(2 ^ 62) ≤ hi) (h4 : hi < 2 ^ 62)
    (q : R (Itr lo (hi - lo).toNat) H) : wpAny (model X.prog X.w) X.A (pyIter (.ref s.heap.objs.size)) (PIE X pins σ tg R) E { s with heap := s.heap.push { cls := .type "range", data := .fields #[.int lo t, .int hi u, .int 1 v] }, toks := tk } := by
  refine wpAny_pyIter_range (IsRange.new ..) (small_one h1 h2 h3 h4) ?_
  have I1 : Inv X pins σ H { s with heap := s.heap.push { cls := .type "range", data := .fields #[.int lo t, .int hi u, .int 1 v] }, toks := tk } := I.kept fun b o e => Heap.get?_push_of_some _ e
  refine ⟨(s.heap.push { cls := .type "range", data := .fields #[.int lo t, .int hi u, .int 1 v] }).objs.size, [(s.heap.push { cls := .type "range", data := .fields #[.int lo t, .int hi u, .int 1 v] }).objs.size], _, _, H, rfl,
    I1.kept (t' := tk) fun b o e => Heap.get?_push_of_some _ e, turn_range _ lo (hi - lo).toNat, ?_, fun b hb => ?_, q⟩
  · have e1 : lo + ((0 : Nat) : Int) * 1 = lo := by simp
    have e2 : (((hi - lo).toNat : Nat) : Int) - ((0 : Nat) : Int) = Builtin.Range.rangeSize lo hi 1 := by rw [rangeSize_one]; split <;> omega
    show IsRangeIter _ _ (lo + ((0 : Nat) : Int) * 1) ((((hi - lo).toNat : Nat) : Int) - ((0 : Nat) : Int)) 1
    rw [e1, e2]
    exact Heap.get?_push_size _ rfl
  · have e : b = (s.heap.push { cls := .type "range", data := .fields #[.int lo t, .int hi u, .int 1 v] }).objs.size := by simpa using hb
    subst e
    exact I1.fpOk (Nat.le_refl _) (I1.hok.fresh (Nat.le_refl _))
def iRng1 (ta : TA) : TI := fun σ H R => ta σ H fun vs H1 => ∃ j : Int, vs = [.int j] ∧ -(2 ^ 62) ≤ j ∧ j < 2 ^ 62 ∧ R (Itr 0 j.toNat) H1
def iRng2 (ta : TA) : TI := fun σ H R => ta σ H fun vs H1 => ∃ i j : Int, vs = [.int i, .int j] ∧ (-(2 ^ 62) ≤ i ∧ i < 2 ^ 62 ∧ -(2 ^ 62) ≤ j ∧ j < 2 ^ 62) ∧ R (Itr i (j - i).toNat) H1
theorem pi_range1 {a : Expr} {ta : TA} {p pos : Pos} (hg : Gl X "range") (hm : X.mg "range" = none) (ha : PA X [a] ta) (hs : starEach [a] X.env = [(false, eval a X.env)] := by rfl) : PI X tg (.Call (.Name "range" p) [a] [] pos) (iRng1 ta) := by
  intro pins s σ H R I h
  refine Call_ (ld_blt I hg hm boot_range (PyProof.Rows.callWith_type1 (thn (ha pos pins s σ H _ I h) fun us s1 ⟨vs, H1, I1, r1, q1⟩ => ?_) hs rfl))
  obtain ⟨j, e, q1, q2, q⟩ := q1
  subst e
  cases r1 with
  | cons r rr =>
    cases rr
    obtain ⟨t, rfl⟩ := r
    exact call_range_1 (range_it I1 (by omega) (by omega) q1 q2 (by simpa using q))
theorem pi_range2 {a b : Expr} {ta : TA} {p pos : Pos} (hg : Gl X "range") (hm : X.mg "range" = none) (ha : PA X [a, b] ta) (hs : starEach [a, b] X.env = [(false, eval a X.env), (false, eval b X.env)] := by rfl) (hs2 : starEach [b] X.env = [(false, eval b X.env)] := by rfl) :
    PI X tg (.Call (.Name "range" p) [a, b] [] pos) (iRng2 ta) := by
  intro pins s σ H R I h
  refine Call_ (ld_blt I hg hm boot_range (PyProof.Rows.callWith_type1 (thn (ha pos pins s σ H _ I h) fun us s1 ⟨vs, H1, I1, r1, q1⟩ => ?_) (by rw [hs, hs2]) (by rw [hs2]; rfl)))
  obtain ⟨i, j, e, ⟨q1, q2, q3, q4⟩, q⟩ := q1
  subst e
  cases r1 with
  | cons r rr =>
    cases rr with
    | cons r' rr =>
      cases rr
      obtain ⟨t, rfl⟩ := r
      obtain ⟨t', rfl⟩ := r'
      exact call_range_2 (range_it I1 q1 q2 q3 q4 q)

/-! ### for -/
/-- W: the invariant by the turn and a measure; N: what the body is to reach -/
def tFor (wi : TI) (g : TG) (tb : TS) : TS := fun D σ H => wi σ H fun J H1 => ∃ W : Nat → Nat → St → Hp → Prop, (∃ m, W 0 m σ H1) ∧ ∀ i m σ H, W i m σ H →
  (J.stop i H ∧ D.nx σ H) ∨ (J.go i H ∧ ∃ N : St → Hp → Prop, (∀ σ' H', N σ' H' → ∃ m', m' < m ∧ W (i + 1) m' σ' H') ∧ ∀ x H', J.yld i H x H' → g x σ H' fun σ2 H2 => tb { D with nx := N, ct := N, bk := D.nx } σ2 H2)
/-- the records at fp as they stand -/
def pinsAt (fp : List Addr) (h : Heap) : List (Addr × Obj) := fp.filterMap fun b => (h.get? b).map fun o => (b, o)
theorem mem_pinsAt {fp : List Addr} {h : Heap} {b : Addr} {o : Obj} (hb : b ∈ fp) (e : h.get? b = some o) : (b, o) ∈ pinsAt fp h := List.mem_filterMap.mpr ⟨b, hb, by rw [e]; rfl⟩
theorem of_pinsAt {fp : List Addr} {h : Heap} {p : Addr × Obj} (hp : p ∈ pinsAt fp h) : p.1 ∈ fp ∧ h.get? p.1 = some p.2 := by
  obtain ⟨b, hb, e⟩ := List.mem_filterMap.mp hp
  cases q : h.get? b with
  | none => rw [q] at e; cases e
  | some o =>
    rw [q] at e
    have e' : (b, o) = p := Option.some.inj e
    subst e'
    exact ⟨hb, q⟩
theorem Inv.pinned {pins : List (Addr × Obj)} {σ : St} {H : Hp} {s : Shared} {fp : List Addr} (I : Inv X pins σ H s) (hf : ∀ b ∈ fp, FpOk X pins H b) (ho : ∀ b ∈ fp, ∃ o, s.heap.get? b = some o ∧ ∀ v, o.data ≠ .cell v) : Inv X (pins ++ pinsAt fp s.heap) σ H s :=
  I.pins_of fun p hp => (List.mem_append.mp hp).elim (fun z => I.pin p (List.mem_append_right _ z)) fun z => by
    obtain ⟨hb, e⟩ := of_pinsAt z
    obtain ⟨f0, f1, f2, _⟩ := hf p.1 hb
    obtain ⟨o, e', d⟩ := ho p.1 hb
    rw [e] at e'; cases e'
    exact ⟨e, f0, f1, f2, d⟩
theorem Inv.unpinned {pins pl : List (Addr × Obj)} {σ : St} {H : Hp} {s : Shared} (I : Inv X (pins ++ pl) σ H s) : Inv X pins σ H s := I.pins_of fun p hp => I.pin p (List.mem_append_right _ (List.mem_append_left _ hp))
theorem ps_for {iter : Expr} {body : List Stmt} {wi : TI} {g : TG} {tb : TS} {pos : Pos} (hp : PassesOwn (model X.prog X.w) X.A X.env X.xe) (hc : X.calm = true) (hi : PI X tg iter wi) (hg : PG X tg g) (hb : PSs X body tb)
    (hs : ∀ x, foldedSetIterable iter X.env x = pure x := by intro _; rfl) : PS X (.For tg iter body [] pos) (tFor wi g tb) := by
  intro pins s σ H D I h
  refine wpAny_For (thn (hi pins s σ H _ I h) fun v s1 h1 => thn h1 fun itv s2 h2 => ?_) hs
  obtain ⟨it, fp, tn, J, H2, e, I2, T, st2, f2, W, ⟨m0, w0⟩, turn⟩ := h2
  subst e
  -- what stays true of the iterator's objects through the loop
  have stat : ∀ {H' : Hp}, (∀ b ∈ fp, H' b = none) → ∀ b ∈ fp, FpOk X pins H' b := fun hn b hb => ⟨hn b hb, (f2 b hb).2⟩
  refine codeAny_forLoop_any (fun n s' => ∃ i σ' H', Inv X pins σ' H' s' ∧ tn i s'.heap ∧ (∀ b ∈ fp, H' b = none) ∧ W i n σ' H') ?_ m0 ⟨0, σ, H2, I2, st2, fun b hb => (f2 b hb).1, w0⟩
  rintro n s3 ⟨i, σ3, H3, I3, st3, fr3, w3⟩
  rcases turn i n σ3 H3 w3 with ⟨stop, qn⟩ | ⟨go, N, hN, step⟩
  · refine wpAny_passesOwn hp (thn (T.done X rfl rfl rfl hc i pins s3 σ3 H3 X.xe I3 (stat fr3) st3 stop) fun r s4 ⟨hr, I4⟩ => ?_)
    subst hr
    exact wpAny_execs_nil ⟨σ3, H3, I4, qn⟩
  · refine wpAny_passesOwn hp (thn (T.item X rfl rfl rfl hc i pins s3 σ3 H3 X.xe I3 (stat fr3) st3 go) fun r s4 ⟨u, hr, h4⟩ => ?_)
    subst hr
    refine wpAny_passesOwn hp (thn h4 fun _ s5 ⟨x, H5, I5, r5, y5, st5, fr5⟩ => ?_)
    have I5' := I5.pinned (stat fr5) (T.obj _ _ st5)
    refine wpAny_passesOwn hp (thn (hg _ s5 σ3 H5 x u _ I5' r5 (step x H5 y5)) fun _ s6 ⟨σ6, H6, I6, q6⟩ => ?_)
    refine wpAny_passesOwn hp (thn (hb _ s6 σ6 H6 _ I6 q6) fun f s7 q7 => ?_)
    have again : ∀ {σ7 : St} {H7 : Hp}, Inv X (pins ++ pinsAt fp s5.heap) σ7 H7 s7 → N σ7 H7 → ∃ m, m < n ∧ ∃ i σ' H', Inv X pins σ' H' s7 ∧ tn i s7.heap ∧ (∀ b ∈ fp, H' b = none) ∧ W i m σ' H' := fun {σ7 H7} I7 n7 => by
      obtain ⟨m', hm, w7⟩ := hN σ7 H7 n7
      refine ⟨m', hm, i + 1, σ7, H7, I7.unpinned, T.keep _ _ _ st5 fun b hb o e => (I7.pin (b, o) (List.mem_append_right _ (List.mem_append_right _ (mem_pinsAt hb e)))).1, fun b hb => ?_, w7⟩
      obtain ⟨o, e, d⟩ := T.obj _ _ st5 b hb
      exact (I7.pin (b, o) (List.mem_append_right _ (List.mem_append_right _ (mem_pinsAt hb e)))).2.1
    cases f with
    | next => obtain ⟨σ7, H7, I7, n7⟩ := q7; exact again I7 n7
    | cont => obtain ⟨σ7, H7, I7, n7⟩ := q7; exact again I7 n7
    | brk => obtain ⟨σ7, H7, I7, q7⟩ := q7; exact ⟨σ7, H7, I7.unpinned, q7⟩
    | ret v => obtain ⟨x7, σ7, H7, I7, r7, q7⟩ := q7; exact ⟨x7, σ7, H7, I7.unpinned, r7, q7⟩
end

/-! ### the forms one uses -/
/-- over a list that the body leaves as it is -/
theorem for_list {K : PySem.W.Frag} {a : Addr} {xs : List V} {g : TG} {tb : TS} {D : Ends} {σ : St} {H : Hp} (Pv : Nat → St → Hp → Prop) (h0 : Pv 0 σ H) (hl : ∀ i σ H, i ≤ xs.length → Pv i σ H → SqL K H a xs)
    (hs : ∀ i x σ H, xs[i]? = some x → Pv i σ H → g x σ H fun σ2 H2 => tb { D with nx := Pv (i + 1), ct := Pv (i + 1), bk := D.nx } σ2 H2) (hd : ∀ σ H, Pv xs.length σ H → D.nx σ H) :
    ∃ W : Nat → Nat → St → Hp → Prop, (∃ m, W 0 m σ H) ∧ ∀ i m σ H, W i m σ H →
      ((Itl K a).stop i H ∧ D.nx σ H) ∨ ((Itl K a).go i H ∧ ∃ N : St → Hp → Prop, (∀ σ' H', N σ' H' → ∃ m', m' < m ∧ W (i + 1) m' σ' H') ∧ ∀ x H', (Itl K a).yld i H x H' → g x σ H' fun σ2 H2 => tb { D with nx := N, ct := N, bk := D.nx } σ2 H2) := by
  refine ⟨fun i m σ H => m = xs.length - i ∧ i ≤ xs.length ∧ Pv i σ H, ⟨xs.length, by simp, Nat.zero_le _, h0⟩, ?_⟩
  rintro i m σ H ⟨rfl, hi, p⟩
  have q := hl i σ H hi p
  by_cases hlt : i < xs.length
  · refine .inr ⟨⟨xs, xs[i], q, by simp [hlt]⟩, Pv (i + 1), fun σ' H' p' => ⟨xs.length - (i + 1), by omega, rfl, hlt, p'⟩, fun x H' y => ?_⟩
    obtain ⟨e, y⟩ := y
    subst e
    exact hs i x σ _ (y xs q) p
  · have e : i = xs.length := by omega
    subst e
    exact .inl ⟨⟨xs, q, Nat.le_refl _⟩, hd σ H p⟩
theorem for_range {lo : Int} {n : Nat} {g : TG} {tb : TS} {D : Ends} {σ : St} {H : Hp} (Pv : Nat → St → Hp → Prop) (h0 : Pv 0 σ H)
    (hs : ∀ i σ H, i < n → Pv i σ H → g (.int (lo + i)) σ H fun σ2 H2 => tb { D with nx := Pv (i + 1), ct := Pv (i + 1), bk := D.nx } σ2 H2) (hd : ∀ σ H, Pv n σ H → D.nx σ H) :
    ∃ W : Nat → Nat → St → Hp → Prop, (∃ m, W 0 m σ H) ∧ ∀ i m σ H, W i m σ H →
      ((Itr lo n).stop i H ∧ D.nx σ H) ∨ ((Itr lo n).go i H ∧ ∃ N : St → Hp → Prop, (∀ σ' H', N σ' H' → ∃ m', m' < m ∧ W (i + 1) m' σ' H') ∧ ∀ x H', (Itr lo n).yld i H x H' → g x σ H' fun σ2 H2 => tb { D with nx := N, ct := N, bk := D.nx } σ2 H2) := by
  refine ⟨fun i m σ H => m = n - i ∧ i ≤ n ∧ Pv i σ H, ⟨n, by simp, Nat.zero_le _, h0⟩, ?_⟩
  rintro i m σ H ⟨rfl, hi, p⟩
  by_cases hlt : i < n
  · refine .inr ⟨hlt, Pv (i + 1), fun σ' H' p' => ⟨n - (i + 1), by omega, rfl, hlt, p'⟩, fun x H' y => ?_⟩
    obtain ⟨e, y⟩ := y
    subst e y
    exact hs i σ _ hlt p
  · have e : i = n := by omega
    subst e
    exact .inl ⟨Nat.le_refl _, hd σ H p⟩
/-- while, by a word and a measure of the state -/
theorem while_by {c : TT} {tb : TS} {D : Ends} {σ : St} {H : Hp} (Pv : St → Hp → Prop) (μ : St → Hp → Nat) (h0 : Pv σ H)
    (hs : ∀ σ H, Pv σ H → c σ H fun b H1 => if b = true then tb { D with nx := fun σ' H' => Pv σ' H' ∧ μ σ' H' < μ σ H, ct := fun σ' H' => Pv σ' H' ∧ μ σ' H' < μ σ H, bk := D.nx } σ H1 else D.nx σ H1)
    (mono : ∀ σ H Q Q', (∀ b H1, Q b H1 → Q' b H1) → c σ H Q → c σ H Q') : tWhile c tb D σ H := by
  refine ⟨fun m σ H => m = μ σ H ∧ Pv σ H, ⟨_, rfl, h0⟩, ?_⟩
  rintro m σ H ⟨rfl, p⟩
  refine mono σ H _ _ (fun b H1 q => ?_) (hs σ H p)
  cases b with
  | true => exact ⟨_, fun σ' H' ⟨p', l⟩ => ⟨_, l, rfl, p'⟩, q⟩
  | false => exact q
end L2

namespace L2
open PySem PySem.Spec PyProof.Rows

abbrev R2 := V → V → Hp → VK → Prop
/-- a two-place operation on values: f is binaryOp op, inplaceOp op or compareOp op -/
def OpR (X : Cx) (f : Value → Value → Sem Value) (r : R2) : Prop :=
  ∀ (pins : List (Addr × Obj)) (s : Shared) (σ : St) (H : Hp) (x y : V) (v u : Value) (Q : VK), Inv X pins σ H s → RelV x v → RelV y u → r x y H Q →
    wpAny (model X.prog X.w) X.A (f v u) (EP X pins σ Q) X.xe s
/-- a one-place operation -/
def UnR (X : Cx) (f : Value → Sem Value) (r : V → Hp → VK → Prop) : Prop :=
  ∀ (pins : List (Addr × Obj)) (s : Shared) (σ : St) (H : Hp) (x : V) (v : Value) (Q : VK), Inv X pins σ H s → RelV x v → r x H Q →
    wpAny (model X.prog X.w) X.A (f v) (EP X pins σ Q) X.xe s
/-- a call of a value that is known (a builtin, a type) with values -/
def CallR (X : Cx) (f : Value) (r : List V → Hp → VK → Prop) : Prop :=
  ∀ (pins : List (Addr × Obj)) (s : Shared) (σ : St) (H : Hp) (xs : List V) (us : List Value) (Q : VK), Inv X pins σ H s → Vals xs us → r xs H Q →
    wpAny (model X.prog X.w) X.A (call f us) (EP X pins σ Q) X.xe s

def tOp (r : R2) (ta tb : TE) : TE := fun σ H Q => ta σ H fun x H1 => tb σ H1 fun y H2 => r x y H2 Q
def tUn (r : V → Hp → VK → Prop) (ta : TE) : TE := fun σ H Q => ta σ H fun x H1 => r x H1 Q
/-- ints in, under C, and a value out -/
def rI (C : Int → Int → Prop) (g : Int → Int → V) : R2 := fun x y H Q => ∃ i j, x = .int i ∧ y = .int j ∧ C i j ∧ Q (g i j) H
def rI0 (g : Int → Int → V) : R2 := fun x y H Q => ∃ i j, x = .int i ∧ y = .int j ∧ Q (g i j) H
def rU (g : Int → V) : V → Hp → VK → Prop := fun x H Q => ∃ i, x = .int i ∧ Q (g i) H

section
variable {X : Cx} {a b c : Expr} {ta tb tc : TE} {pos : Pos}

theorem binT (ha : PE X a ta) (hb : PE X b tb) {pins : List (Addr × Obj)} {s : Shared} {σ : St} {H : Hp} {R : V → V → Hp → Prop} (I : Inv X pins σ H s)
    (h : ta σ H fun x H1 => tb σ H1 fun y H2 => R x y H2) {Q : Value → Shared → Prop} {f : Value → Value → Sem Value}
    (hf : ∀ v u s2 x y H2, Inv X pins σ H2 s2 → RelV x v → RelV y u → R x y H2 → wpAny (model X.prog X.w) X.A (f v u) Q X.xe s2) :
    wpAny (model X.prog X.w) X.A (eval a X.env) (fun v s₁ => wpAny (model X.prog X.w) X.A (eval b X.env) (fun u s₂ => wpAny (model X.prog X.w) X.A (f v u) Q X.xe s₂) X.xe s₁) X.xe s := by
  refine thn (ha pins s σ H _ I h) fun v s1 ⟨x, H1, I1, r1, q1⟩ => ?_
  refine thn (hb pins s1 σ H1 _ I1 q1) fun u s2 ⟨y, H2, I2, r2, q2⟩ => ?_
  exact hf v u s2 x y H2 I2 r1 r2 q2

theorem pe_op {op : Operator} {r : R2} (ho : OpR X (binaryOp op) r) (ha : PE X a ta) (hb : PE X b tb) : PE X (.BinOp a op b pos) (tOp r ta tb) := by
  intro pins s σ H Q I h
  exact wpAny_BinOp (binT ha hb I h fun v u s2 x y H2 I2 rx ry q => ho pins s2 σ H2 x y v u Q I2 rx ry q)
theorem pe_un {op : UnaryOp} {r : V → Hp → VK → Prop} (ho : UnR X (unaryOp op) r) (ha : PE X a ta) : PE X (.UnaryOp op a pos) (tUn r ta) := by
  intro pins s σ H Q I h
  exact UnaryOp_ (thn (ha pins s σ H _ I h) fun v s1 ⟨x, H1, I1, r1, q1⟩ => ho pins s1 σ H1 x v Q I1 r1 q1)

/-! ### ints -/
theorem opI {f : Value → Value → Sem Value} {C : Int → Int → Prop} {g : Int → Int → Int}
    (rule : ∀ (i j : Int) (t u : Tok) (s : Shared) (Q : Value → Shared → Prop) (E : Value → Shared → Prop), C i j → Q (.int (g i j) s.toks) { s with toks := s.toks + 1 } → wpAny (model X.prog X.w) X.A (f (.int i t) (.int j u)) Q E s) :
    OpR X f (rI C fun i j => .int (g i j)) := by
  intro pins s σ H x y v u Q I rx ry h
  obtain ⟨i, j, rfl, rfl, hc, q⟩ := h
  obtain ⟨t, rfl⟩ := rx
  obtain ⟨t', rfl⟩ := ry
  exact rule i j t t' s _ _ hc ⟨.int (g i j), H, I.tok _, ⟨_, rfl⟩, q⟩
theorem opI0 {f : Value → Value → Sem Value} {g : Int → Int → Int}
    (rule : ∀ (i j : Int) (t u : Tok) (s : Shared) (Q : Value → Shared → Prop) (E : Value → Shared → Prop), Q (.int (g i j) s.toks) { s with toks := s.toks + 1 } → wpAny (model X.prog X.w) X.A (f (.int i t) (.int j u)) Q E s) :
    OpR X f (rI0 fun i j => .int (g i j)) := by
  intro pins s σ H x y v u Q I rx ry h
  obtain ⟨i, j, rfl, rfl, q⟩ := h
  obtain ⟨t, rfl⟩ := rx
  obtain ⟨t', rfl⟩ := ry
  exact rule i j t t' s _ _ ⟨.int (g i j), H, I.tok _, ⟨_, rfl⟩, q⟩
theorem opB0 {f : Value → Value → Sem Value} {g : Int → Int → Bool}
    (rule : ∀ (i j : Int) (t u : Tok) (s : Shared) (Q : Value → Shared → Prop) (E : Value → Shared → Prop), Q (.bool (g i j)) s → wpAny (model X.prog X.w) X.A (f (.int i t) (.int j u)) Q E s) :
    OpR X f (rI0 fun i j => .bl (g i j)) := by
  intro pins s σ H x y v u Q I rx ry h
  obtain ⟨i, j, rfl, rfl, q⟩ := h
  obtain ⟨t, rfl⟩ := rx
  obtain ⟨t', rfl⟩ := ry
  exact rule i j t t' s _ _ ⟨.bl (g i j), H, I, rfl, q⟩

def CDiv (i j : Int) : Prop := 0 < j ∧ j < 1073741824
def CPow (i j : Int) : Prop := 0 ≤ j ∧ j ≤ 1000000 ∧ i.natAbs < 2 ^ 64
def CMul (i j : Int) : Prop := (-(2 ^ 64) < i ∧ i < 2 ^ 64) ∨ (-(2 ^ 64) < j ∧ j < 2 ^ 64)
theorem CMul.ok {i j : Int} (h : CMul i j) : IntMulOk i j := by
  rcases h with ⟨h1, h2⟩ | ⟨h1, h2⟩
  · exact .of_left (intBits_le_64 h1 h2)
  · exact .of_right (intBits_le_64 h1 h2)
theorem two_pow_nn (k : Nat) : (0 : Int) ≤ 2 ^ k := by
  rw [two_pow_cast]
  exact Int.natCast_nonneg _

theorem op_add : OpR X (binaryOp .Add) (rI0 fun i j => .int (i + j)) := opI0 fun _ _ _ _ _ _ _ q => add_int q
theorem op_sub : OpR X (binaryOp .Sub) (rI0 fun i j => .int (i - j)) := opI0 fun _ _ _ _ _ _ _ q => sub_int q
theorem op_mul : OpR X (binaryOp .Mult) (rI CMul fun i j => .int (i * j)) := opI fun _ _ _ _ _ _ _ hc q => mul_int q hc.ok
/-- // by a positive divisor -/
theorem op_fdiv : OpR X (binaryOp .FloorDiv) (rI CDiv fun i j => .int (i / j)) := opI fun i j _ _ _ _ _ hc q => by
  have h1 : (0 : Int) < j := hc.1
  have h2 : j < 1073741824 := hc.2
  exact floordiv_int (by omega) (by rw [Int.fdiv_eq_ediv_of_nonneg i (by omega)]; exact q) (.inl (PyProof.noPylong_small (by omega)))
/-- % by a positive divisor of any size -/
theorem op_mod : OpR X (binaryOp .Mod) (rI (fun _ j => 0 < j) fun i j => .int (i % j)) := opI fun i j _ _ _ _ _ hc q => by
  have h1 : (0 : Int) < j := hc
  exact mod_int' (by omega) (by rw [Int.fmod_eq_emod_of_nonneg i (by omega)]; exact q)
theorem op_pow : OpR X (binaryOp .Pow) (rI CPow fun i j => .int (i ^ j.toNat)) := opI fun _ _ _ _ _ _ _ hc q => pow_int_small hc.1 hc.2.1 hc.2.2 q
theorem op_shl : OpR X (binaryOp .LShift) (rI CPow fun i j => .int (i * 2 ^ j.toNat)) := opI fun _ _ _ _ _ _ _ hc q => lshift_int_small hc.1 hc.2.1 hc.2.2 q
theorem op_shr : OpR X (binaryOp .RShift) (rI (fun _ j => 0 ≤ j) fun i j => .int (i / 2 ^ j.toNat)) := opI fun i j _ _ _ _ _ hc q =>
  rshift_int hc (by rw [Int.fdiv_eq_ediv_of_nonneg i (two_pow_nn _)]; exact q)
theorem op_xor : OpR X (binaryOp .BitXor) (rI0 fun i j => .int (Builtin.bitXor i j)) := opI0 fun _ _ _ _ _ _ _ q => xor_int q


theorem unI {f : Value → Sem Value} {g : Int → Int}
    (rule : ∀ (i : Int) (t : Tok) (s : Shared) (Q : Value → Shared → Prop) (E : Value → Shared → Prop), Q (.int (g i) s.toks) { s with toks := s.toks + 1 } → wpAny (model X.prog X.w) X.A (f (.int i t)) Q E s) :
    UnR X f (rU fun i => .int (g i)) := by
  intro pins s σ H x v Q I rx h
  obtain ⟨i, rfl, q⟩ := h
  obtain ⟨t, rfl⟩ := rx
  exact rule i t s _ _ ⟨.int (g i), H, I.tok _, ⟨_, rfl⟩, q⟩
theorem un_neg : UnR X (unaryOp .USub) (rU fun i => .int (-i)) := unI fun _ _ _ _ _ q => neg_int q

/-! ### bools among ints: n += (a < b) -/
end

/-! ### comparisons -/
/-- the scalars that == tells apart as data does -/
def scal : V → V → Bool
  | .non, .non => true | .non, .int _ => true | .int _, .non => true | .non, .bl _ => true | .bl _, .non => true | .non, .str _ => true | .str _, .non => true
  | .int _, .int _ => true | .bl _, .bl _ => true | .str _, .str _ => true | .byt _, .byt _ => true
  | .int _, .str _ => true | .str _, .int _ => true | .bl _, .str _ => true | .str _, .bl _ => true
  | _, _ => false
def rEq : R2 := fun x y H Q => scal x y = true ∧ Q (.bl (decide (x = y))) H
def rNe : R2 := fun x y H Q => scal x y = true ∧ Q (.bl (!decide (x = y))) H

theorem dec_int {i j : Int} : decide (V.int i = V.int j) = (i == j) := by
  rw [Bool.eq_iff_iff]
  simp
theorem dec_bl {i j : Bool} : decide (V.bl i = V.bl j) = (i == j) := by
  rw [Bool.eq_iff_iff]
  simp
theorem dec_str {i j : Str} : decide (V.str i = V.str j) = (i == j) := by
  rw [Bool.eq_iff_iff]
  simp
theorem dec_byt {i j : Array UInt8} : decide (V.byt i = V.byt j) = (i.toList == j.toList) := by
  rw [Bool.eq_iff_iff]
  cases i
  cases j
  simp

section
variable {X : Cx} {a b c : Expr} {ta tb tc : TE} {pos : Pos}
theorem fin_bl {pins : List (Addr × Obj)} {σ : St} {H : Hp} {s : Shared} {Q : VK} {k k' : Bool} (I : Inv X pins σ H s) (q : Q (.bl k) H) (e : k = k') : EP X pins σ Q (.bool k') s := by
  subst e
  exact ⟨.bl k, H, I, rfl, q⟩
theorem op_eq : OpR X (compareOp .Eq) rEq := by
  intro pins s σ H x y v u Q I rx ry h
  obtain ⟨hs, q⟩ := h
  cases x with
  | non =>
    cases rx
    cases y with
    | non => cases ry; exact PySem.EqNone.eq_none_none (fin_bl I q (by simp))
    | bl j => cases ry; exact PySem.EqNone.eq_none_bool (fin_bl I q (by simp))
    | int j => obtain ⟨t', rfl⟩ := ry; exact PySem.EqNone.eq_none_int (fin_bl I q (by simp))
    | str j => obtain ⟨t', rfl⟩ := ry; exact PySem.EqNone.eq_none_str (fin_bl I q (by simp))
    | _ => exact absurd (show false = true from hs) Bool.false_ne_true
  | bl i =>
    cases rx
    cases y with
    | non => cases ry; exact PySem.EqNone.eq_bool_none (fin_bl I q (by simp))
    | bl j => cases ry; exact eq_bool (fin_bl I q dec_bl)
    | str j => obtain ⟨t', rfl⟩ := ry; exact PySem.EqMixed.eq_bool_str (fin_bl I q (by simp))
    | _ => exact absurd (show false = true from hs) Bool.false_ne_true
  | int i =>
    obtain ⟨t, rfl⟩ := rx
    cases y with
    | non => cases ry; exact PySem.EqNone.eq_int_none (fin_bl I q (by simp))
    | int j => obtain ⟨t', rfl⟩ := ry; exact eq_int (fin_bl I q dec_int)
    | str j => obtain ⟨t', rfl⟩ := ry; exact PySem.EqMixed.eq_int_str (fin_bl I q (by simp))
    | _ => exact absurd (show false = true from hs) Bool.false_ne_true
  | str i =>
    obtain ⟨t, rfl⟩ := rx
    cases y with
    | non => cases ry; exact PySem.EqNone.eq_str_none (fin_bl I q (by simp))
    | bl j => cases ry; exact PySem.EqMixed.eq_str_bool (fin_bl I q (by simp))
    | int j => obtain ⟨t', rfl⟩ := ry; exact PySem.EqMixed.eq_str_int (fin_bl I q (by simp))
    | str j => obtain ⟨t', rfl⟩ := ry; exact eq_str (fin_bl I q dec_str)
    | _ => exact absurd (show false = true from hs) Bool.false_ne_true
  | byt i =>
    obtain ⟨t, rfl⟩ := rx
    cases y with
    | byt j => obtain ⟨t', rfl⟩ := ry; exact PySem.W.eq_bytes (fin_bl I q dec_byt)
    | _ => exact absurd (show false = true from hs) Bool.false_ne_true
  | _ => cases y <;> exact absurd (show false = true from hs) Bool.false_ne_true
theorem op_ne : OpR X (compareOp .NotEq) rNe := by
  intro pins s σ H x y v u Q I rx ry h
  obtain ⟨hs, q⟩ := h
  cases x with
  | non =>
    cases rx
    cases y with
    | non => cases ry; exact PySem.EqNone.ne_none_none (fin_bl I q (by simp))
    | bl j => cases ry; exact PySem.EqNone.ne_none_bool (fin_bl I q (by simp))
    | int j => obtain ⟨t', rfl⟩ := ry; exact PySem.EqNone.ne_none_int (fin_bl I q (by simp))
    | str j => obtain ⟨t', rfl⟩ := ry; exact PySem.EqNone.ne_none_str (fin_bl I q (by simp))
    | _ => exact absurd (show false = true from hs) Bool.false_ne_true
  | bl i =>
    cases rx
    cases y with
    | non => cases ry; exact PySem.EqNone.ne_bool_none (fin_bl I q (by simp))
    | bl j => cases ry; exact ne_bool (fin_bl I q (congrArg not dec_bl))
    | str j => obtain ⟨t', rfl⟩ := ry; exact PySem.EqMixed.ne_bool_str (fin_bl I q (by simp))
    | _ => exact absurd (show false = true from hs) Bool.false_ne_true
  | int i =>
    obtain ⟨t, rfl⟩ := rx
    cases y with
    | non => cases ry; exact PySem.EqNone.ne_int_none (fin_bl I q (by simp))
    | int j => obtain ⟨t', rfl⟩ := ry; exact ne_int (fin_bl I q (congrArg not dec_int))
    | str j => obtain ⟨t', rfl⟩ := ry; exact PySem.EqMixed.ne_int_str (fin_bl I q (by simp))
    | _ => exact absurd (show false = true from hs) Bool.false_ne_true
  | str i =>
    obtain ⟨t, rfl⟩ := rx
    cases y with
    | non => cases ry; exact PySem.EqNone.ne_str_none (fin_bl I q (by simp))
    | bl j => cases ry; exact PySem.EqMixed.ne_str_bool (fin_bl I q (by simp))
    | int j => obtain ⟨t', rfl⟩ := ry; exact PySem.EqMixed.ne_str_int (fin_bl I q (by simp))
    | str j => obtain ⟨t', rfl⟩ := ry; exact ne_str (fin_bl I q (congrArg not dec_str))
    | _ => exact absurd (show false = true from hs) Bool.false_ne_true
  | byt i =>
    obtain ⟨t, rfl⟩ := rx
    cases y with
    | byt j => obtain ⟨t', rfl⟩ := ry; exact PySem.W.ne_bytes (fin_bl I q (congrArg not dec_byt))
    | _ => exact absurd (show false = true from hs) Bool.false_ne_true
  | _ => cases y <;> exact absurd (show false = true from hs) Bool.false_ne_true

theorem op_lt : OpR X (compareOp .Lt) (rI0 fun i j => .bl (decide (i < j))) := opB0 fun _ _ _ _ _ _ _ q => lt_int q
theorem op_gt : OpR X (compareOp .Gt) (rI0 fun i j => .bl (decide (j < i))) := opB0 fun _ _ _ _ _ _ _ q => gt_int q
theorem op_ge : OpR X (compareOp .GtE) (rI0 fun i j => .bl (decide (j ≤ i))) := opB0 fun _ _ _ _ _ _ _ q => ge_int q

/-- is None, is not None: the right side a value none -/
theorem op_isN : OpR X (compareOp .Is) (fun x y H Q => y = .non ∧ Q (.bl (decide (x = .non))) H) := by
  intro pins s σ H x y v u Q I rx ry h
  obtain ⟨rfl, q⟩ := h
  cases ry
  refine is_none_gen (fin_bl I q ?_)
  cases x <;> first
    | (cases rx; rfl)
    | (obtain ⟨t, rfl⟩ := rx; rfl)



theorem nomark (b : Expr) {op : CmpOp} (h : op ≠ .In := by decide) (h2 : op ≠ .NotIn := by decide) : behindInMarks op b = false := by
  have e1 : (op == CmpOp.In) = false := by cases op <;> first | rfl | exact absurd rfl h
  have e2 : (op == CmpOp.NotIn) = false := by cases op <;> first | rfl | exact absurd rfl h2
  cases b <;> simp [behindInMarks, e1, e2]
/-- a reading of a value as a test -/
def tTest (t : TE) : TT := fun σ H Q => t σ H fun x H' => ∃ k, x = .bl k ∧ Q k H'
theorem pt_cmpR {op : CmpOp} {r : R2} (ho : OpR X (compareOp op) r) (ha : PE X a ta) (hb : PE X b tb) (hm : behindInMarks op b = false) : PT X (.Compare a [op] [b] pos) (tTest (tOp r ta tb)) := by
  intro pins s σ H Q I h
  refine wpAny_isTrue_Compare1 (thn (ha pins s σ H _ I h) fun v s1 ⟨x, H1, I1, r1, q1⟩ => thn (hb pins s1 σ H1 _ I1 q1) fun u s2 ⟨y, H2, I2, r2, q2⟩ =>
    thn (ho pins s2 σ H2 x y v u _ I2 r1 r2 q2) fun c s3 ⟨z, H3, I3, r3, k, e, q3⟩ => ?_) hm
  subst e
  cases r3
  exact wpAny_truthy_bool ⟨H3, I3, q3⟩

/-! ### truth -/
theorem line63 : (sizeLine : Nat) < 2 ^ 63 := by rw [sizeLine_eq]; decide

/-! ### strs and bytes -/


/-! ### scalar builtins, by CallR -/
theorem vals1 {x : V} {us : List Value} (r : Vals [x] us) : ∃ u, us = [u] ∧ RelV x u := by
  cases r with
  | cons r1 r2 => cases r2; exact ⟨_, rfl, r1⟩
theorem vals2 {x y : V} {us : List Value} (r : Vals [x, y] us) : ∃ u w', us = [u, w'] ∧ RelV x u ∧ RelV y w' := by
  cases r with
  | cons r1 r2 =>
    cases r2 with
    | cons r3 r4 => cases r4; exact ⟨_, _, rfl, r1, r3⟩
theorem call_abs : CallR X (.builtin "abs") (fun xs H Q => ∃ i, xs = [.int i] ∧ Q (.int (if i < 0 then -i else i)) H) := by
  intro pins s σ H xs us Q I r h
  obtain ⟨i, rfl, q⟩ := h
  obtain ⟨u, rfl, t, rfl⟩ := vals1 r
  exact call_abs_int fun u tk => ⟨.int (if i < 0 then -i else i), H, I.tok _, ⟨_, rfl⟩, q⟩
theorem call_max2 (hc : X.calm = true) : CallR X (.builtin "max") (fun xs H Q => ∃ i j, xs = [.int i, .int j] ∧ Q (.int (if j > i then j else i)) H) := by
  intro pins s σ H xs us Q I r h
  obtain ⟨i, j, rfl, q⟩ := h
  obtain ⟨u, w', rfl, ⟨t, rfl⟩, ⟨t', rfl⟩⟩ := vals2 r
  refine max_two_ints (I.ok.hd hc) fun h' tk k => ⟨_, H, I.kept k, ?_, q⟩
  by_cases hj : j > i
  · rw [if_pos hj, if_pos hj]; exact ⟨_, rfl⟩
  · rw [if_neg hj, if_neg hj]; exact ⟨_, rfl⟩
end
end L2

namespace L2
open PySem PySem.Spec PyProof.Rows

/-! ### an instance, its attributes a map -/
structure ObjM (h : Heap) (x dx C : Addr) (mA : Str → Option Value) : Prop where
  obj : h.get? x = some (PySem.W.instObj C dx)
  ns : h.Ns1 dx mA
  ne : dx ≠ x

theorem lookIn_ns {h : Heap} {dx : Addr} {mA : Str → Option Value} (n : h.Ns1 dx mA) : ∃ od, h.get? dx = some od ∧ ∀ name, PySem.W.lookIn name od = some (mA name) := by
  obtain ⟨o, es, ep, ho, hd, hk, _, hm⟩ := n
  refine ⟨o, ho, fun name => ?_⟩
  have e := hm name
  unfold nsFind findBy at e
  rw [← Array.find?_toList] at e
  unfold PySem.W.lookIn
  rw [hd]
  dsimp only
  split
  · rename_i y q
    rw [q] at e
    exact congrArg some e
  · rename_i q
    rw [q] at e
    have a : es.toList.any (·.refKey) = false := by
      rw [List.any_eq_false]
      intro y hy
      obtain ⟨z, t, hkey⟩ := hk y (Array.mem_toList_iff.mp hy)
      simp [DictEntry.refKey, hkey]
    have a' : ¬ es.toList.any (·.refKey) = true := by rw [a]; exact Bool.false_ne_true
    rw [if_neg a']
    exact congrArg some e

theorem ObjM.look {h : Heap} {x dx C : Addr} {mA : Str → Option Value} (I : ObjM h x dx C mA) : ∃ od, PySem.W.InstAt h x (PySem.W.instObj C dx) C (some od) ∧ ∀ name, PySem.W.lookIn name od = some (mA name) :=
  let ⟨od, ho, hl⟩ := lookIn_ns I.ns
  ⟨od, ⟨I.obj, rfl, rfl, ho⟩, hl⟩

section
variable {prog : Program} {w : World} {A : Around} {E : Value → Shared → Prop} {s : Shared} {K : PySem.W.Frag} {x dx C f : Addr} {mA : Str → Option Value} {name : Str} {v : Value}





end

/-! ### the attributes as a list of pairs -/

theorem RelO.some_of {v : V} {o : Option Value} (r : RelO (some v) o) : ∃ u, o = some u ∧ RelV v u := by
  cases o with
  | none => exact (show False from r).elim
  | some u => exact ⟨u, rfl, r⟩

section
variable {P : Program} {w : World} {H H' : Hp} {h h' : Heap} {a C dx : Addr} {fs fs' : List (Str × V)}
theorem ins_get (hok : HOk P w H h) (e : H a = some (.ins C dx fs)) : ∃ mA, ObjM h a dx C mA ∧ (∀ f, RelO (fs.lookup f) (mA f)) ∧ PySem.Within mA (fs.map (·.1)) ∧ fs.length ≤ 1000 ∧ H dx = some (.own a) := by
  obtain ⟨d, z, ne, ob, mA, n, r, q⟩ := (show ObjOk P w H h a (.ins C dx fs) from hok a _ e)
  exact ⟨mA, ⟨ob, n, ne⟩, r, q, z, d⟩
end

/-! ### what of the text a class must have -/
structure Cls (K : PySem.W.Frag) (C : Addr) : Prop where
  pg : PySem.W.plainGet K C Str.empty = true
  hd : PySem.W.hasDictIn K C = true
  po : PySem.W.plainOver K C = true
  sa : PySem.W.findIn K (.ref C) "__setattr__" = some (some (.builtin "object.__setattr__"))
theorem Cls.get {K : PySem.W.Frag} {C : Addr} (c : Cls K C) (f : Str) : PySem.W.plainGet K C f = true := c.pg

section
variable {X : Cx} {pins : List (Addr × Obj)} {σ : St} {H : Hp} {s : Shared} {a C dx : Addr} {fs : List (Str × V)} {f : Str} {v : V} {A : Around} {E : Value → Shared → Prop}






end

/-! ### readings and rules -/

section
variable {X : Cx} {o e value : Expr} {f : Str} {pos pos' tpos : Pos} {ta tv : TE}

end

/-! ### isinstance -/
section
variable {X : Cx} {pins : List (Addr × Obj)} {σ : St} {H : Hp} {s : Shared} {A : Around} {E : Value → Shared → Prop} {Q : Value → Shared → Prop} {c : Value} {b : Bool}
/-- the type of a value, as the fragment's deciders take it; for an instance its class -/
inductive TyOf (K : PySem.W.Frag) (H : Hp) : V → Value → Prop where
  | non : TyOf K H .non (.type "NoneType")
  | bl (x : Bool) : TyOf K H (.bl x) (.type "bool")
  | int (i : Int) : TyOf K H (.int i) (.type "int")
  | str (x : Str) : TyOf K H (.str x) (.type "str")
  | flt (x : UInt64) : TyOf K H (.flt x) (.type "float")
  | lst {a : Addr} {xs : List V} (e : H a = some (.lst xs)) : TyOf K H (.ref a) (.type "list")
  | frz {a : Addr} {o : Obj} {xs : List V} (e : H a = some (.frz o (.lst xs))) : TyOf K H (.ref a) (.type "list")
  | tup {a : Addr} {xs : List V} (e : H a = some (.tup xs)) : TyOf K H (.ref a) (.type "tuple")
  | dK {a : Addr} {kvs : List (Key × V)} (e : H a = some (.dK kvs)) : TyOf K H (.ref a) (.type "dict")
  | dT {a : Addr} {kvs : List (List Key × V)} (e : H a = some (.dT kvs)) : TyOf K H (.ref a) (.type "dict")
  | ins {a C dx : Addr} {fs : List (Str × V)} (e : H a = some (.ins C dx fs)) (cl : Cls K C) (ha : PySem.W.findIn K (.ref C) "__class__" = some (some (.builtin "object.__class__")))
      (hn : PySem.W.specialIn K (.builtin "object.__class__") "__get__" = some (some (.builtin "getset_descriptor.__get__"))) (htk : PySem.W.takesIn K (.builtin "object.__class__") = some true)
      (hm : PySem.W.mroIn K C (.type "object") = some true) : TyOf K H (.ref a) (.ref C)
/-- isinstance(x, c) for one class c, a built-in or an own one: kitOne's answer -/
theorem isinst_ok {x : V} {u t : Value} (I : Inv X pins σ H s) (rx : RelV x u) (ty : TyOf X.K H x t) (e : PySem.W.kitOne X.K t c = some b) (h : ∀ tk, Q (.bool b) { s with toks := tk }) :
    wpAny (model X.prog X.w) A (call (.builtin "isinstance") [u, c]) Q E s := by
  cases ty with
  | non => cases (show u = Value.none from rx); exact PySem.W.kia_one PySem.W.kitx_none I.kIn True.intro e (fun z => nomatch z) h
  | bl y => cases (show u = Value.bool y from rx); exact PySem.W.kia_one PySem.W.kitx_bool I.kIn True.intro e (fun z => nomatch z) h
  | int i => obtain ⟨t, q⟩ := (show ∃ t, u = Value.int i t from rx); cases q; exact PySem.W.kia_one PySem.W.kitx_int I.kIn True.intro e (fun z => nomatch z) h
  | str y => obtain ⟨t, q⟩ := (show ∃ t, u = Value.str y t from rx); cases q; exact PySem.W.kia_one PySem.W.kitx_str I.kIn True.intro e (fun z => nomatch z) h
  | flt y => obtain ⟨t, q⟩ := (show ∃ t, u = Value.float y t from rx); cases q; exact PySem.W.kia_one PySem.W.kitx_float I.kIn True.intro e (fun z => nomatch z) h
  | @lst a xs ea =>
    cases (show u = Value.ref a from rx)
    obtain ⟨_, _, n, _, h1⟩ := (show ObjOk X.prog X.w H s.heap a (.lst xs) from I.hok a _ ea)
    exact PySem.W.kia_one PySem.W.kitx_list I.kIn ⟨_, h1, rfl⟩ e (fun z => nomatch z) h
  | @frz a ob xs ea =>
    cases (show u = Value.ref a from rx)
    obtain ⟨_, _, _, n, _, h1⟩ := (show ObjOk X.prog X.w H s.heap a (.frz ob (.lst xs)) from I.hok a _ ea)
    exact PySem.W.kia_one PySem.W.kitx_list I.kIn ⟨_, h1, rfl⟩ e (fun z => nomatch z) h
  | @tup a xs ea =>
    cases (show u = Value.ref a from rx)
    obtain ⟨_, _, _, p⟩ := (show ObjOk X.prog X.w H s.heap a (.tup xs) from I.hok a _ ea)
    obtain ⟨o, h1, h2, _⟩ := p
    exact PySem.W.kia_one PySem.W.kitx_tuple I.kIn ⟨o, h1, h2⟩ e (fun z => nomatch z) h
  | @dK a kvs ea =>
    cases (show u = Value.ref a from rx)
    obtain ⟨_, _, vs, _, p⟩ := (show ObjOk X.prog X.w H s.heap a (.dK kvs) from I.hok a _ ea)
    obtain ⟨o, es, ep, h1, h2, _⟩ := p
    exact PySem.W.kia_one PySem.W.kitx_dict I.kIn ⟨o, h1, h2.1⟩ e (fun z => nomatch z) h
  | @dT a kvs ea =>
    cases (show u = Value.ref a from rx)
    obtain ⟨_, _, xs, _, o, es, ep, h1, h2, _⟩ := (show ObjOk X.prog X.w H s.heap a (.dT kvs) from I.hok a _ ea)
    exact PySem.W.kia_one PySem.W.kitx_dict I.kIn ⟨o, h1, h2.1⟩ e (fun z => nomatch z) h
  | @ins a C dx fs ea cl ha hn htk hm =>
    cases (show u = Value.ref a from rx)
    obtain ⟨mA, O, _⟩ := ins_get I.hok ea
    obtain ⟨od, J, _⟩ := O.look
    exact PySem.W.kia_one (PySem.W.kitx_own (cl.get _) cl.hd ha hn htk hm) I.kIn J e (fun z => nomatch z) h
end
end L2

namespace L2
open PySem PySem.Spec PyProof.Rows

/-! ### room -/
structure Room (k : Nat) (A : Around) : Prop where
  hd : A.handled = none
  dp : A.depth + 3 * k + 5 < recursionLimit
  un : A.units + 16 * k + 200 < cLine
theorem Room.mono {j k : Nat} {A : Around} (r : Room k A) (h : j ≤ k) : Room j A := ⟨r.hd, by have := r.dp; omega, by have := r.un; omega⟩
theorem Room.deeper {k : Nat} {A : Around} (r : Room (k + 1) A) (env : Env) : Room k (A.deeper env) :=
  ⟨r.hd, by have := r.dp; show A.depth + 1 + 3 * k + 5 < _; omega, by have := r.un; show A.units + 3 + 16 * k + 200 < _; omega⟩
theorem Room.depth {k : Nat} {A : Around} (r : Room k A) : A.depth < recursionLimit := by have := r.dp; omega
theorem Room.units {k : Nat} {A : Around} (r : Room k A) : A.units + 64 < cLine := by have := r.un; omega

/-! ### argument lists and displays -/
def tNil : TA := fun _ H Q => Q [] H
def tCons (ta : TE) (tr : TA) : TA := fun σ H Q => ta σ H fun x H1 => tr σ H1 fun xs H2 => Q (x :: xs) H2
section
variable {X : Cx} {e : Expr} {es : List Expr} {te : TE} {t : TA} {pos : Pos}
theorem pa_nil : PA X [] tNil := fun _ _ _ _ H Q I h => Calls.spliced_nil ⟨[], H, I, .nil, h⟩
theorem pa_cons (ha : PE X e te) (hr : PA X es t) (hs : starEach (e :: es) X.env = (false, eval e X.env) :: starEach es X.env := by rfl) : PA X (e :: es) (tCons te t) := by
  intro pos pins s σ H Q I h
  rw [hs]
  show wpAny _ _ (spliced ((false, eval e X.env) :: backTo pos (starEach es X.env))) _ _ s
  refine Calls.spliced_cons (thn (ha pins s σ H _ I h) fun u s1 ⟨x, H1, I1, r1, q1⟩ => ?_)
  exact thn (hr pos pins s1 σ H1 _ I1 q1) fun us s2 ⟨xs, H2, I2, r2, q2⟩ => ⟨x :: xs, H2, I2, .cons r1 r2, q2⟩

/-- a tuple, a list of written items -/
def tTup (t : TA) : TE := fun σ H Q => t σ H fun xs H1 => xs.length ≤ sizeLine ∧ ∀ p, H1 p = none → Q (.ref p) (upd H1 p (.tup xs))
def tLst (t : TA) : TE := fun σ H Q => t σ H fun xs H1 => xs.length ≤ sizeLine ∧ ∀ p, H1 p = none → Q (.ref p) (upd H1 p (.lst xs))
theorem pe_tup {x1} (h : PA X es t) : PE X (.Tuple es x1 pos) (tTup t) := by
  intro pins s σ H Q I hq
  refine wpAny_Tuple_spliced (thn (h pos pins s σ H _ I hq) fun us s1 ⟨xs, H1, I1, r, z, q⟩ => ⟨by rw [← r.length]; exact z, ?_⟩)
  have hf : H1 s1.heap.objs.size = none := I1.hok.fresh (Nat.le_refl _)
  refine ⟨.ref s1.heap.objs.size, upd H1 s1.heap.objs.size (.tup xs), I1.laid (t' := s1.toks) (fun b u e => Heap.get?_push_of_some _ e) (Nat.le_refl _) ?_, rfl, q _ hf⟩
  exact ⟨z, us, r, ⟨_, Heap.get?_push_size _ rfl, rfl, _, rfl⟩⟩
theorem pe_lst (h : PA X es t) : PE X (.List es pos) (tLst t) := by
  intro pins s σ H Q I hq
  refine wpAny_List_spliced (thn (h pos pins s σ H _ I hq) fun us s1 ⟨xs, H1, I1, r, z, q⟩ => ⟨by rw [← r.length]; exact z, ?_⟩)
  have hf : H1 s1.heap.objs.size = none := I1.hok.fresh (Nat.le_refl _)
  refine ⟨.ref s1.heap.objs.size, upd H1 s1.heap.objs.size (.lst xs), I1.laid (t' := s1.toks) (fun b u e => Heap.get?_push_of_some _ e) (Nat.le_refl _) ?_, rfl, q _ hf⟩
  exact ⟨z, us, 0, r, Heap.get?_push_size _ rfl⟩
end

/-! ### what a def promises -/
/-- a def's promise: the bound arguments in the parameters' order, the heap, the wanted end, the wanted exception -/
abbrev Sp := List V → Hp → VK → XK → Prop
/-- how an exception lies behind a call (file 08 gives it): the callers' frames, abstract heap and state ahead of the call, the wish, the exception, the state -/
abbrev CXT := List Env → Hp → Shared → XK → Value → Shared → Prop

/-- the state at a call -/
structure Env0 (P : Program) (w : World) (K : PySem.W.Frag) (mg : Str → Option Value) (base : Heap) (A : Around) (outer : List Env) (s : Shared) (H : Hp) : Prop where
  frames : A.frames = some outer
  mod : Mod K mg base
  bs : ∀ b o, base.get? b = some o → s.heap.get? b = some o ∧ H b = none
  bsz : base.objs.size ≤ s.heap.objs.size
  funs : s.heap.FunFrames base outer
  frf : ∀ b ∈ frs outer, H b = none
  hok : HOk P w H s.heap
  bare : AllBare s.gens
/-- a call's end -/
def CE (outer : List Env) (P : Program) (w : World) (H : Hp) (s : Shared) (Q : VK) (u : Value) (s' : Shared) : Prop :=
  ∃ v H', s'.os = s.os ∧ AllBare s'.gens ∧ Un (frs outer) [] H H' s.heap s'.heap ∧ HOk P w H' s'.heap ∧ RelV v u ∧ Q v H'
def CR (CX : CXT) (outer : List Env) (P : Program) (w : World) (H : Hp) (s : Shared) (Q : VK) (E : XK) (r : Result) (s' : Shared) : Prop :=
  match r with
  | .ok (.ret u) => CE outer P w H s Q u s'
  | .ok _ => False
  | .error e => CX outer H s E e s'
structure FnOk (P : Program) (w : World) (K : PySem.W.Frag) (mg : Str → Option Value) (base : Heap) (CX : CXT) (k : Nat) (f : Addr) (fd : FuncData) (ps : List Str) (sp : Sp) : Prop where
  len : ∀ vs H Q E, sp vs H Q E → vs.length = ps.length
  run : ∀ (A : Around) (outer : List Env) (s : Shared) (H : Hp) (args : Args) (us : List Value) (vs : List V) (Q : VK) (E : XK), Room k A → Env0 P w K mg base A outer s H → BindsTo s fd args (ps.zip us) → Vals vs us → sp vs H Q E →
    codeAny (model P w) A (.call (.ref f) args) (CR CX outer P w H s Q E) s


section
variable {X : Cx} {pins : List (Addr × Obj)} {σ : St} {H : Hp} {s s' : Shared}
/-- from a body: what a callee wants -/
theorem Inv.env0 (I : Inv X pins σ H s) : Env0 X.prog X.w X.K X.mg X.base X.A X.stack s H :=
  ⟨I.ok.frames, I.ok.mod, I.bs, Nat.le_trans I.ok.bsz I.sz, I.stack, I.stkFree, I.hok, I.bare⟩
/-- behind a call -/
theorem Inv.after {Q : VK} {u : Value} (I : Inv X pins σ H s) (h : CE X.stack X.prog X.w H s Q u s') : EP X pins σ Q u s' := by
  obtain ⟨v, H', os, bare, un, hok, r, q⟩ := h
  obtain ⟨hh, g, d, t, os'⟩ := s'
  obtain rfl : os' = s.os := os
  exact ⟨v, H', I.call (h' := hh) (g' := g) (d' := d) (t' := t) (ch := []) un hok bare (fun b z => absurd z (by simp)), r, q⟩
end

/-! ### calls -/
/-- f(..): the written arguments, then the defaults dvs; E: what is wanted of an exception -/
def tCall (sp : Sp) (dvs : List V) (E : XK) (t : TA) : TE := fun σ H Q => t σ H fun vs H1 => sp (vs ++ dvs) H1 Q E

/-- how the parameters are bound: us the positional arguments, kw the keywords' values by name, ds the defaults that fill up -/
def Binds (K : PySem.W.Frag) (fd : FuncData) (ps : List Str) (ds : List Value) : Prop :=
  ∀ (s : Shared) (us : List Value), K.In s.heap → (us ++ ds).length = ps.length → BindsTo s fd ⟨us, []⟩ (ps.zip (us ++ ds))
/-- every parameter is given -/
theorem Binds.all {K : PySem.W.Frag} {fd : FuncData} {ps : List Str} (h : ∀ us : List Value, us.length = ps.length → bindArgs fd ⟨us, []⟩ = pure (ps.zip us)) : Binds K fd ps [] := fun s us _ hl => by
  rw [List.append_nil] at hl ⊢
  exact .of_eq (h us hl)

/-- an exception of a callee reaches what this body wants of exceptions -/
def Passes (CX : CXT) (X : Cx) (E : XK) : Prop := ∀ (pins : List (Addr × Obj)) (σ : St) (H : Hp) (s : Shared) (e : Value) (s' : Shared), Inv X pins σ H s → CX X.stack H s E e s' → X.xe e s'

section
variable {X : Cx} {CX : CXT} {k : Nat} {f C : Addr} {fd : FuncData} {ps : List Str} {sp : Sp} {dvs : List V} {ds : List Value} {E : XK} {x m : Str} {p pos apos : Pos} {e o : Expr} {es : List Expr} {ta : TE} {t : TA}

/-- the callee runs -/
theorem run_fn {pins : List (Addr × Obj)} {σ : St} {H : Hp} {s : Shared} {Q : VK} {us : List Value} {vs : List V} (F : FnOk X.prog X.w X.K X.mg X.base CX k f fd ps sp) (hr : Room k X.A) (hb : Binds X.K fd ps ds) (hd : Vals dvs ds) (hx : Passes CX X E)
    (I : Inv X pins σ H s) (r : Vals vs us) (h : sp (vs ++ dvs) H Q E) : wpAny (model X.prog X.w) X.A (call (.ref f) us) (EP X pins σ Q) X.xe s := by
  have r2 : Vals (vs ++ dvs) (us ++ ds) := r.append hd
  have hl : (us ++ ds).length = ps.length := by rw [← r2.length]; exact F.len _ _ _ _ h
  refine wpAny_call (codeAny_mono (F.run X.A X.stack s H ⟨us, []⟩ (us ++ ds) (vs ++ dvs) Q E hr I.env0 (hb s us I.kIn hl) r2 h) fun r s' hq => ?_)
  cases r with
  | error e => exact hx pins σ H s e s' I hq
  | ok fl =>
    cases fl with
    | ret u => exact I.after hq
    | next => exact False.elim hq
    | brk => exact False.elim hq
    | cont => exact False.elim hq

theorem pe_call (F : FnOk X.prog X.w X.K X.mg X.base CX k f fd ps sp) (hr : Room k X.A) (hg : Gl X x) (hm : X.mg x = some (.ref f)) (hk : PySem.W.keepIn X.K (.ref f) = true) (hb : Binds X.K fd ps ds) (hd : Vals dvs ds) (hx : Passes CX X E)
    (ha : PA X (e :: es) t) (hdb : (x == ("__debug__" : Str)) = false := by decide) (he : starEach (e :: es) X.env = (false, eval e X.env) :: starEach es X.env := by rfl) (hpl : (backTo pos (starEach es X.env)).any (·.1) = false := by rfl) :
    PE X (.Call (.Name x p) (e :: es) [] pos) (tCall sp dvs E t) := by
  intro pins s σ H Q I h
  refine wpAny_Call_Name_kw (ld_glob I hg hm ?_ hdb)
  refine PySem.W.callWith_K (h₀ := X.base) I.ok.mod.kin hk (thn (ha pos pins s σ H _ I h) fun us s1 ⟨vs, H1, I1, r, q⟩ => ⟨I1.kIn, ?_⟩) he hpl
  exact run_fn F hr hb hd hx I1 r q



end

/-! ### keywords -/
section
variable {X : Cx} {CX : CXT} {k : Nat} {f C : Addr} {fd : FuncData} {ps ks : List Str} {sp : Sp} {E : XK} {x m : Str} {p pos apos kpos : Pos} {e o : Expr} {es : List Expr} {kws : List Keyword} {te ta : TE} {t tk : TA} {nm : Option Str}

variable {g : List Value → List Value → List Value} {gV : List V → List V → List V}
end

/-! ### a def's body keeps its promise -/
/-- names: the parameters first -/
structure FnScope (N P : List Str) (sc : Scope) : Prop where
  kind : sc.kind = .function
  co : sc.isCoroutine = false
  gen : sc.isGenerator = false
  nd : N.Nodup
  pre : N.take P.length = P
  par : ∀ x ∈ P, sc.names.lookup x = some .local ∨ sc.names.lookup x = some .cell
  nofree : ∀ y ∈ sc.names, y.2 ≠ .free

theorem bindL_out {kindOf : Str → Option NameKind} {x : Str} : ∀ {binds : List (Str × Value)} {m : Str → Option Value}, (∀ v, (x, v) ∉ binds) → bindL kindOf binds m x = m x
  | [], _, _ => rfl
  | (n, v) :: r, m, h => by
    unfold bindL
    rw [bindL_out fun w hw => h w (List.mem_cons_of_mem _ hw)]
    split
    · have : x ≠ n := by rintro rfl; exact h v List.mem_cons_self
      simp [this]
    · rfl
theorem bindC_out {kindOf : Str → Option NameKind} {x : Str} : ∀ {binds : List (Str × Value)} {m : Str → Option Value}, (∀ v, (x, v) ∉ binds) → bindC kindOf binds m x = m x
  | [], _, _ => rfl
  | (n, v) :: r, m, h => by
    unfold bindC
    rw [bindC_out fun w hw => h w (List.mem_cons_of_mem _ hw)]
    split
    · rfl
    · have : x ≠ n := by rintro rfl; exact h v List.mem_cons_self
      simp [this]
theorem bindL_get {kindOf : Str → Option NameKind} {x : Str} {v : Value} : ∀ {P : List Str} {vs : List Value} {i : Nat} {m : Str → Option Value}, P.Nodup → P[i]? = some x → vs[i]? = some v → kindOf x = some .local →
    bindL kindOf (P.zip vs) m x = some v
  | [], _, _, _, _, h, _, _ => by simp at h
  | _ :: _, [], _, _, _, _, h, _ => by simp at h
  | p :: P, w :: vs, 0, m, nd, h1, h2, hk => by
    simp at h1 h2; subst h1; subst h2
    show bindL kindOf ((p, w) :: P.zip vs) m p = _
    unfold bindL
    rw [bindL_out fun v hv => (List.nodup_cons.mp nd).1 (List.of_mem_zip hv).1, if_pos hk]
    simp
  | p :: P, w :: vs, i + 1, m, nd, h1, h2, hk => by
    show bindL kindOf ((p, w) :: P.zip vs) m x = _
    unfold bindL
    exact bindL_get (i := i) (List.nodup_cons.mp nd).2 (by simpa using h1) (by simpa using h2) hk
theorem bindC_get {kindOf : Str → Option NameKind} {x : Str} {v : Value} : ∀ {P : List Str} {vs : List Value} {i : Nat} {m : Str → Option Value}, P.Nodup → P[i]? = some x → vs[i]? = some v → kindOf x ≠ some .local →
    bindC kindOf (P.zip vs) m x = some v
  | [], _, _, _, _, h, _, _ => by simp at h
  | _ :: _, [], _, _, _, _, h, _ => by simp at h
  | p :: P, w :: vs, 0, m, nd, h1, h2, hk => by
    simp at h1 h2; subst h1; subst h2
    show bindC kindOf ((p, w) :: P.zip vs) m p = _
    unfold bindC
    rw [bindC_out fun v hv => (List.nodup_cons.mp nd).1 (List.of_mem_zip hv).1, if_neg hk]
    simp
  | p :: P, w :: vs, i + 1, m, nd, h1, h2, hk => by
    show bindC kindOf ((p, w) :: P.zip vs) m x = _
    unfold bindC
    exact bindC_get (i := i) (List.nodup_cons.mp nd).2 (by simpa using h1) (by simpa using h2) hk

/-- the names' values at the entry -/
def start (N : List Str) (vs : List V) : St := vs.map some ++ List.replicate (N.length - vs.length) none

/-- the context of a def's body, at its entry; an exception leaves the frame, then lies as CX says -/
def cxOf (CX : CXT) (P : Program) (w : World) (K : PySem.W.Frag) (mg : Str → Option Value) (base : Heap) (N : List Str) (qual : Str) (scope : Scope) (f : Addr) (cd : Value) (A : Around) (outer : List Env) (s : Shared) (H : Hp) (E : XK) : Cx where
  prog := P
  w := w
  K := K
  mg := mg
  base := base
  A := A.deeper (envOfC qual scope s.heap.objs.size f cd)
  N := N
  s₀ := s
  H₀ := H
  env := envOfC qual scope s.heap.objs.size f cd
  outer := outer
  stack := envOfC qual scope s.heap.objs.size f cd :: outer
  ex := []
  calm := true
  fn := fun _ => true
  pn := []
  xe := fun e s' => wpAny (model P w) (A.deeper (envOfC qual scope s.heap.objs.size f cd)) (leaving (envOfC qual scope s.heap.objs.size f cd) e) (fun _ s'' => CX outer H s E e s'') (fun e' s'' => CX outer H s E e' s'') s'

theorem cell_has {sc : Scope} {n : Nat} {x : Str} (h : sc.names.lookup x = some .cell) : ∃ c, (cellsFrom n sc.names []).lookup x = some c := by
  have q := PySem.W.cellsFrom_some sc.names n [] (.inl h)
  exact Option.isSome_iff_exists.mp q

theorem inv_start {CX : CXT} {P : Program} {w : World} {K : PySem.W.Frag} {mg : Str → Option Value} {base : Heap} {N ps : List Str} {qual : Str} {scope : Scope} {f : Addr} {cd : Value} {A : Around} {outer : List Env} {s s1 : Shared} {H : Hp} {E : XK} {us : List Value} {vs : List V}
    (S : FnScope N ps scope) (hd : A.handled = none) (e0 : Env0 P w K mg base A outer s H) (hl : vs.length = ps.length) (r : Vals vs us)
    (x : InCallC s s.heap.objs.size (bindL (envOfC qual scope s.heap.objs.size f cd).kindOf (ps.zip us) fun _ => none) (cellsFrom (s.heap.objs.size + 1) scope.names []) (bindC (envOfC qual scope s.heap.objs.size f cd).kindOf (ps.zip us) fun _ => none) s1) :
    Inv (cxOf CX P w K mg base N qual scope f cd A outer s H E) [] (start N vs) H s1 := by
  have hpl : ps.length ≤ N.length := by have := congrArg List.length S.pre; rw [List.length_take] at this; omega
  obtain ⟨h1, tk, rfl, hk⟩ := x.done
  have noA : ∀ b : Addr, b ∉ (cxOf CX P w K mg base N qual scope f cd A outer s H E).ex := fun b z => absurd (show b ∈ ([] : List Addr) from z) (by simp)
  refine ⟨⟨e0.mod, S.kind, rfl, rfl, Nat.le_refl _, fun y z c h1 h2 => ?_, fun y hy => ?_, fun y c _ h => ?_, fun _ => hd, Around.frames_deeper e0.frames, .inr ⟨rfl, rfl⟩, fun b z => absurd z (noA b), e0.bs, e0.bsz, fun b _ _ => noA b, fun b z => absurd z (noA b), e0.funs, e0.frf⟩,
    rfl, e0.bare, Un.kept hk, ⟨_, x.toInCall.ns, fun i y v h1 h2 h3 => ?_⟩, fun y c h => ⟨_, x.cell y c h⟩, e0.hok.fresh (Nat.le_refl _), fun y c h => ?_, fun p hp => absurd (show p ∈ ([] : List (Addr × Obj)) from hp) (by simp), e0.hok.kept hk, ?_⟩
  · exact name_of_addr x.apart (PySem.mem_of_lookup h1) (PySem.mem_of_lookup h2)
  · have hy : scope.names.lookup y = some .cell ∨ scope.names.lookup y = some .free := hy
    rcases hy with hy | hy
    · exact cell_has hy
    · exact absurd rfl (S.nofree _ (PySem.mem_of_lookup hy))
  · exact Nat.le_of_lt (x.above y c (PySem.mem_of_lookup h))
  · have hi : i < vs.length := by
      unfold start at h2
      by_cases hi : i < vs.length
      · exact hi
      · rw [List.getElem?_append_right (by simpa using hi)] at h2
        rw [List.getElem?_replicate] at h2
        split at h2 <;> cases h2
    have ha : vs[i]? = some v := by
      unfold start at h2
      rw [List.getElem?_append_left (by simpa using hi), List.getElem?_map] at h2
      cases e : vs[i]? with
      | none => rw [e] at h2; cases h2
      | some a => rw [e] at h2; cases h2; rfl
    obtain ⟨u, hu, rv⟩ := r.get ha
    have hp : ps[i]? = some y := by
      rw [← S.pre, List.getElem?_take_of_lt (by omega)]; exact h1
    have ndP : ps.Nodup := by rw [← S.pre]; exact S.nd.sublist (List.take_sublist _ _)
    refine ⟨u, rv, ?_⟩
    rcases S.par y (List.mem_of_getElem? hp) with k | k
    · exact .inl ⟨k, bindL_get ndP hp hu k⟩
    · obtain ⟨c, e⟩ := cell_has (n := s.heap.objs.size + 1) k
      refine .inr ⟨.inl k, c, e, ?_⟩
      have q := x.cell y c e
      rw [bindC_get ndP hp hu (by show scope.names.lookup y ≠ _; rw [k]; decide)] at q
      exact q
  · exact e0.hok.fresh (Nat.le_of_lt (x.above y c (PySem.mem_of_lookup h)))
  · unfold start
    show _ = N.length
    rw [List.length_append, List.length_map, List.length_replicate]
    omega

/-- THE RULE: a def (or a method) of the text, by its body. The body's reading t is chosen for each entry; it is run at the parameters' values -/
theorem fn_of {CX : CXT} {P : Program} {w : World} {K : PySem.W.Frag} {mg : Str → Option Value} {base : Heap} {k : Nat} {f : Addr} {name qual : Str} {params : Arguments} {body : List Stmt} {scope : Scope} {dV kV doc pm cdv ct oc : Value} {an od : Option Addr}
    {osl : Array (Option Value)} {N ps : List Str} {sp : Sp} (lk : K.lookup f = some ⟨oc, od, .func (PySem.W.fnOf name qual params body scope dV kV doc pm an cdv ct), osl⟩) (hcd : PySem.W.codeIn K cdv qual = true) (S : FnScope N ps scope)
    (len : ∀ vs H Q E, sp vs H Q E → vs.length = ps.length)
    (hbody : ∀ (A : Around) (outer : List Env) (s : Shared) (H : Hp) (vs : List V) (Q : VK) (E : XK), Room k (A.deeper (envOfC qual scope s.heap.objs.size f cdv)) → sp vs H Q E →
      ∃ t, PSs (cxOf CX P w K mg base N qual scope f cdv A outer s H E) body t ∧ t { nx := fun _ H' => Q .non H', rt := Q } (start N vs) H) :
    FnOk P w K mg base CX (k + 1) f (PySem.W.fnOf name qual params body scope dV kV doc pm an cdv ct) ps sp := by
  refine ⟨len, fun A outer s H args us vs Q E hr e0 hb r hsp => ?_⟩
  have hl := len _ _ _ _ hsp
  have KX : K.In s.heap := e0.mod.kin.keeps fun b o e => (e0.bs b o e).1
  have lim : s.heap.NoLimit := e0.mod.nolimit.keeps fun b o e => (e0.bs b o e).1
  have hkind : ∀ y ∈ ps.zip us, scope.names.lookup y.1 = some .local ∨ (scope.names.lookup y.1 = some .cell ∧ ((cellsFrom (s.heap.objs.size + 1) scope.names []).lookup y.1).isSome = true) := fun ⟨n, v⟩ hy => by
    rcases S.par n (List.of_mem_zip hy).1 with q | q
    · exact .inl q
    · exact .inr ⟨q, PySem.W.cellsFrom_some _ _ _ (.inl q)⟩
  refine codeAny_call_function hr.depth (KX _ _ lk) rfl S.co S.gen rfl (PySem.W.codeRec_of KX hcd) (hb _ _ _ _ ?_)
  refine wpAny_newFunctionEnv_cells S.kind hkind fun env he s1 x => ?_
  subst he
  refine ⟨lim.keeps x.toInCall.keep, codeAny_func ?_⟩
  obtain ⟨t, ht, hq⟩ := hbody A outer s H vs Q E (hr.deeper _) hsp
  have I : Inv (cxOf CX P w K mg base N qual scope f cdv A outer s H E) [] (start N vs) H s1 := inv_start S hr.hd e0 hl r x
  refine wpAny_mono (ht [] s1 (start N vs) H _ I hq) (fun fl s' hs => ?_) fun e s' hs => hs
  have fin : ∀ {σ' : St} {H' : Hp} {v : V} {u : Value}, Inv (cxOf CX P w K mg base N qual scope f cdv A outer s H E) [] σ' H' s' → RelV v u → Q v H' → CE outer P w H s Q u s' :=
    fun {σ' H' v u} J rv q => ⟨v, H', J.os, J.bare, J.base, J.hok, rv, q⟩
  cases fl with
  | ret u =>
    obtain ⟨v, σ', H', J, rv, q⟩ := hs
    exact fin J rv q
  | next =>
    obtain ⟨σ', H', J, q⟩ := hs
    exact fin (v := V.non) (u := Value.none) J rfl q
  | brk =>
    obtain ⟨_, _, _, q⟩ := hs
    exact False.elim q
  | cont =>
    obtain ⟨_, _, _, q⟩ := hs
    exact False.elim q
end L2

namespace L2
open PySem PySem.Spec PyProof.Rows
section
variable {X : Cx} {x : Str} {p pos : Pos} {e : Expr} {es : List Expr} {t : TA} {id T : String} {r : List V → Hp → VK → Prop}

def tCB (r : List V → Hp → VK → Prop) (t : TA) : TE := fun σ H Q => t σ H fun vs H1 => r vs H1 Q
/-- f(e, ..), f a built-in function -/
theorem pe_callB (hc : CallR X (.builtin id) r) (hg : Gl X x) (hm : X.mg x = none) (hv : bootBuiltins x = some (.builtin id)) (ha : PA X (e :: es) t) (hn : x ≠ "__name__" := by decide) (hdb : (x == ("__debug__" : Str)) = false := by decide)
    (he : starEach (e :: es) X.env = (false, eval e X.env) :: starEach es X.env := by rfl) (hpl : (backTo pos (starEach es X.env)).any (·.1) = false := by rfl) : PE X (.Call (.Name x p) (e :: es) [] pos) (tCB r t) := by
  intro pins s σ H Q I h
  refine wpAny_Call_Name_kw (ld_blt I hg hm hv ?_ hn hdb)
  exact PyProof.Rows.callWith_builtin1 (thn (ha pos pins s σ H _ I h) fun us s1 ⟨vs, H1, I1, r1, q1⟩ => hc pins s1 σ H1 vs us Q I1 r1 q1) he hpl
/-- T(e, ..), T a built-in type -/
theorem pe_callTy (hc : CallR X (.type T) r) (hg : Gl X x) (hm : X.mg x = none) (hv : bootBuiltins x = some (.type T)) (ha : PA X (e :: es) t) (hn : x ≠ "__name__" := by decide) (hdb : (x == ("__debug__" : Str)) = false := by decide)
    (he : starEach (e :: es) X.env = (false, eval e X.env) :: starEach es X.env := by rfl) (hpl : (backTo pos (starEach es X.env)).any (·.1) = false := by rfl) : PE X (.Call (.Name x p) (e :: es) [] pos) (tCB r t) := by
  intro pins s σ H Q I h
  refine wpAny_Call_Name_kw (ld_blt I hg hm hv ?_ hn hdb)
  exact PyProof.Rows.callWith_type1 (thn (ha pos pins s σ H _ I h) fun us s1 ⟨vs, H1, I1, r1, q1⟩ => hc pins s1 σ H1 vs us Q I1 r1 q1) he hpl
end
end L2

namespace HT
open PySem PyProof.Rows



section
open PySem.SeqAt
open PySem.AutoSeq1 (wpAny_loadPart')
open PySem.MeetsSeq PySem.MeetsSeq2 PySem.MeetsSeq3

end

section
variable {prog : Program} {w : World} {A : Around} {E : Value → Shared → Prop} {s : Shared}



/-! ### t[a:b], not the whole -/
/-- a slice's bound as a place among n (d where it is left out) -/
def sIx (n d : Nat) : Option Int → Nat
  | none => d
  | some v => if v < 0 then (v + (n : Int)).toNat else min v.toNat n
theorem sIx_nat (n d k : Nat) : sIx n d (some (k : Int)) = min k n := by
  show (if (k : Int) < 0 then ((k : Int) + (n : Int)).toNat else min (k : Int).toNat n) = min k n
  rw [if_neg (by omega), Int.toNat_natCast]

end
end HT

namespace L2
open PySem PySem.Spec PyProof.Rows

/-! ### the parts of a slice -/
abbrev TO := St → Hp → (Option Int → Hp → Prop) → Prop
/-- a slice's part (left out, or an int) -/
def PO (X : Cx) (e : Option Expr) (t : TO) : Prop :=
  ∀ (pins : List (Addr × Obj)) (s : Shared) (σ : St) (H : Hp) (Q : Option Int → Hp → Prop), Inv X pins σ H s → t σ H Q →
    wpAny (model X.prog X.w) X.A (evalPart e X.env) (fun u s' => ∃ o H', Inv X pins σ H' s' ∧ IsPart u o ∧ Q o H') X.xe s
def tNoPart : TO := fun _ H Q => Q none H
def tPart (t : TE) : TO := fun σ H Q => t σ H fun x H1 => ∃ i, x = .int i ∧ Q (some i) H1


section
variable {X : Cx} {e : Expr} {te : TE} {lo hi : Option Expr} {tl th : TO} {pos p2 : Pos}

theorem po_none : PO X none tNoPart := by
  intro pins s σ H Q I h
  rw [evalPart_none]
  exact wpAny_pure ⟨none, H, I, .none, h⟩
theorem po_some (h : PE X e te) : PO X (some e) (tPart te) := by
  intro pins s σ H Q I hw
  rw [evalPart_some]
  refine thn (h pins s σ H _ I hw) fun u s1 ⟨x, H1, I1, r1, q1⟩ => ?_
  obtain ⟨i, rfl, q⟩ := q1
  obtain ⟨t, rfl⟩ := r1
  exact ⟨some i, H1, I1, .int i t, q⟩

/-- what a slice of a value is, by values: the slice object stands at sl -/
def SlR (X : Cx) (r : V → Option Int → Option Int → Hp → VK → Prop) : Prop :=
  ∀ (pins : List (Addr × Obj)) (s : Shared) (σ : St) (H : Hp) (x : V) (v vl vu : Value) (lo hi : Option Int) (sl : Addr) (Q : VK), Inv X pins σ H s → RelV x v → s.heap.IsSliceOf sl vl vu .none → IsPart vl lo → IsPart vu hi → r x lo hi H Q →
    ∃ T id, typeLookup (.type T) "__getitem__" = pure (some (.builtin id)) ∧ s.TypeIs v T ∧ wpAny (model X.prog X.w) X.A (getItem v (.ref sl)) (EP X pins σ Q) X.xe s
def tSl (r : V → Option Int → Option Int → Hp → VK → Prop) (te : TE) (tl th : TO) : TE := fun σ H Q => te σ H fun x H1 => tl σ H1 fun l H2 => th σ H2 fun u H3 => r x l u H3 Q
/-- a[lo:hi], any a -/
theorem pe_slice {r : V → Option Int → Option Int → Hp → VK → Prop} (hr : SlR X r) (he : PE X e te) (hl : PO X lo tl) (hu : PO X hi th) : PE X (.Subscript e (.Slice lo hi none p2) pos) (tSl r te tl th) := by
  intro pins s σ H Q I h
  refine Subscript_ (thn (he pins s σ H _ I h) fun v s1 ⟨x, H1, I1, r1, q1⟩ => ?_)
  refine wpAny_Slice (thn (hl pins s1 σ H1 _ I1 q1) fun vl s2 ⟨l, H2, I2, pl, q2⟩ => thn (hu pins s2 σ H2 _ I2 q2) fun vu s3 ⟨u, H3, I3, pu, q3⟩ => ?_)
  rw [evalPart_none]
  refine wpAny_pure ?_
  have I4 : Inv X pins σ H3 { s3 with heap := s3.heap.push { cls := .type "slice", data := .fields #[vl, vu, .none] } } := I3.kept (t' := s3.toks) fun b ob q => Heap.get?_push_of_some _ q
  obtain ⟨T, id, hT, ht, hg⟩ := hr pins { s3 with heap := s3.heap.push { cls := .type "slice", data := .fields #[vl, vu, .none] } } σ H3 x v vl vu l u s3.heap.objs.size Q I4 r1 (Heap.IsSliceOf.new ..) pl pu q3
  show wpAny (model X.prog X.w) X.A (subscriptTail e (.Slice lo hi none p2) v (.ref s3.heap.objs.size)) (EP X pins σ Q) X.xe { s3 with heap := s3.heap.push { cls := .type "slice", data := .fields #[vl, vu, .none] } }
  exact tail_any (ops := [.ref s3.heap.objs.size, v]) ht hT hg (by with_unfolding_all rfl)

/-- the items of xs[lo:hi] -/
def cutV (xs : List V) (lo hi : Option Int) : List V := (xs.drop (HT.sIx xs.length 0 lo)).take (HT.sIx xs.length xs.length hi - HT.sIx xs.length 0 lo)
theorem cutV_length (xs : List V) (lo hi : Option Int) : (cutV xs lo hi).length ≤ xs.length := by
  unfold cutV
  rw [List.length_take, List.length_drop]
  omega

/-! ### t < u, t + u -/
end
end L2

namespace L2
open PySem PySem.Spec PyProof.Rows

/-! ### places -/
/-- the place that an index of any sign means -/
def ixN (n : Nat) (i : Int) : Option Nat := if 0 ≤ i then (if i < n then some i.toNat else none) else if -(n : Int) ≤ i then some (i + n).toNat else none
def atI {α : Type} (xs : List α) (i : Int) : Option α := (ixN xs.length i).bind fun j => xs[j]?
theorem ixN_seq {n : Nat} {i : Int} {j : Nat} (h : ixN n i = some j) : seqIndex? i n = some j ∧ j < n ∧ -(n : Int) ≤ i ∧ i < n := by
  unfold ixN at h
  by_cases h0 : 0 ≤ i
  · rw [if_pos h0] at h
    by_cases h1 : i < n
    · rw [if_pos h1] at h
      have e : i.toNat = j := Option.some.inj h
      exact ⟨by rw [seqIndex_of h0 h1, e], by omega, by omega, h1⟩
    · rw [if_neg h1] at h; cases h
  · rw [if_neg h0] at h
    by_cases h1 : -(n : Int) ≤ i
    · rw [if_pos h1] at h
      have e : (i + n).toNat = j := Option.some.inj h
      exact ⟨by rw [seqIndex_neg (by omega) h1, e], by omega, h1, by omega⟩
    · rw [if_neg h1] at h; cases h
theorem atI_get {α : Type} {xs : List α} {i : Int} {v : α} (h : atI xs i = some v) : ∃ j, seqIndex? i xs.length = some j ∧ xs[j]? = some v ∧ j < xs.length ∧ -(xs.length : Int) ≤ i ∧ i < xs.length := by
  unfold atI at h
  cases e : ixN xs.length i with
  | none => rw [e] at h; cases h
  | some j =>
    rw [e] at h
    obtain ⟨h1, h2, h3, h4⟩ := ixN_seq e
    exact ⟨j, h1, h, h2, h3, h4⟩
theorem atI_nat {α : Type} {xs : List α} {j : Nat} {v : α} (h : xs[j]? = some v) : atI xs (j : Int) = some v := by
  have hj : j < xs.length := (List.getElem?_eq_some_iff.mp h).1
  have e : ixN xs.length (j : Int) = some j := by
    unfold ixN
    rw [if_pos (by omega), if_pos (by omega)]; simp
  unfold atI; rw [e]; exact h
theorem atI_last {α : Type} (xs : List α) (v : α) : atI (xs ++ [v]) (-1) = some v := by
  have hl : (xs ++ [v]).length = xs.length + 1 := by simp
  have e : ixN (xs ++ [v]).length (-1) = some xs.length := by
    unfold ixN
    rw [hl, if_neg (by decide), if_pos (by omega)]
    congr 1
    omega
  unfold atI
  rw [e]
  show (xs ++ [v])[xs.length]? = some v
  simp

/-! ### what may be subscripted -/
/-- what stands as an index of a plain subscript -/
def PlainIx (b : Expr) : Prop := ∀ o i, subscripted b false o i = operate [o, i] (getItem o i)
/-- a subscript by values -/
def IxR (X : Cx) (r : R2) : Prop :=
  ∀ (value slice : Expr) (pins : List (Addr × Obj)) (s : Shared) (σ : St) (H : Hp) (x y : V) (v u : Value) (Q : VK), Inv X pins σ H s → RelV x v → RelV y u → r x y H Q →
    subscripted slice false v u = operate [v, u] (getItem v u) → wpAny (model X.prog X.w) X.A (subscriptTail value slice v u) (EP X pins σ Q) X.xe s
/-- a call of a builtin's method by values: the receiver, the arguments -/
def MtR (X : Cx) (id : String) (r : V → List V → Hp → VK → Prop) : Prop :=
  ∀ (pins : List (Addr × Obj)) (s : Shared) (σ : St) (H : Hp) (x : V) (xs : List V) (v : Value) (us : List Value) (Q : VK), Inv X pins σ H s → RelV x v → Vals xs us → r x xs H Q →
    wpAny (model X.prog X.w) X.A (call (.builtin id) (v :: us)) (EP X pins σ Q) X.xe s
section
variable {X : Cx} {a b : Expr} {ta tb : TE} {pos : Pos}
/-- a[b] -/
theorem pe_ix {r : R2} (hr : IxR X r) (ha : PE X a ta) (hb : PE X b tb) (hs : PlainIx b) : PE X (.Subscript a b pos) (tOp r ta tb) := by
  intro pins s σ H Q I h
  exact Subscript_ (binT ha hb I h fun v u s2 x y H2 I2 rx ry q => hr a b pins s2 σ H2 x y v u Q I2 rx ry q (hs _ _))

def rIxL (K : PySem.W.Frag) : R2 := fun x y H Q => ∃ p xs i v, x = .ref p ∧ y = .int i ∧ SqL K H p xs ∧ atI xs i = some v ∧ Q v H
def rIxT (K : PySem.W.Frag) : R2 := fun x y H Q => ∃ p xs i v, x = .ref p ∧ y = .int i ∧ SqT K H p xs ∧ atI xs i = some v ∧ Q v H
theorem ix_list : IxR X (rIxL X.K) := by
  intro value slice pins s σ H x y v u Q I rx ry h hs
  obtain ⟨p, xs, i, z, rfl, rfl, hq, he, q⟩ := h
  cases rx
  obtain ⟨t, rfl⟩ := ry
  obtain ⟨its, r, pl, hz⟩ := I.list hq
  obtain ⟨j, h1, h2, h3, h4, h5⟩ := atI_get he
  obtain ⟨w, ew, rw'⟩ := r.get h2
  have hl := r.length
  have hn := line63
  have fin : EP X pins σ Q w s := ⟨z, H, I, rw', q⟩
  by_cases h0 : 0 ≤ i
  · have hj : i.toNat = j := by
      rw [seqIndex_of h0 h5] at h1
      exact Option.some.inj h1
    exact item_listR pl.isList h0 (by omega) (by rw [hj]; simpa using ew) fin hs
  · have hj : (i + (its.toArray.size : Int)).toNat = j := by
      rw [seqIndex_neg (by omega) h4] at h1
      rw [List.size_toArray, ← hl]
      exact Option.some.inj h1
    exact subscriptTail_builtinR (x := w) pl.isList.typeIs slot_list_getitem.lookup
      (wpAny_getItem_list_neg (Q := fun r s' => r = w ∧ EP X pins σ Q r s') pl.isList (by omega) (by rw [List.size_toArray] <;> omega) (by omega) (by rw [hj]; simpa using ew) ⟨rfl, fin⟩) hs
theorem ix_tup : IxR X (rIxT X.K) := by
  intro value slice pins s σ H x y v u Q I rx ry h hs
  obtain ⟨p, xs, i, z, rfl, rfl, hq, he, q⟩ := h
  cases rx
  obtain ⟨t, rfl⟩ := ry
  obtain ⟨its, r, pl, hz⟩ := I.tuple hq
  obtain ⟨j, h1, h2, h3, h4, h5⟩ := atI_get he
  obtain ⟨w, ew, rw'⟩ := r.get h2
  have hl := r.length
  have hn := line63
  have fin : EP X pins σ Q w s := ⟨z, H, I, rw', q⟩
  exact subscriptTail_builtinR (x := w) pl.typeIs slot_tuple_getitem.lookup
    (getItem_tuple (j := j) (Q := fun r s' => r = w ∧ EP X pins σ Q r s') pl (by omega) (by omega) (by rw [List.size_toArray, ← hl]; exact h1) (by simpa using ew) ⟨rfl, fin⟩) hs

/-! ### xs[i] = v, any sign -/

/-! ### slices -/
theorem slice_bounds (lo hi : Option Int) (n : Nat) : (sliceBounds lo hi none n).1 = ((HT.sIx n 0 lo : Nat) : Int) ∧ (sliceBounds lo hi none n).2.1 = ((HT.sIx n n hi : Nat) : Int) ∧ (sliceBounds lo hi none n).2.2 = 1 := by
  refine ⟨?_, ?_, rfl⟩
  · cases lo with
    | none => simp [sliceBounds, HT.sIx]
    | some i =>
      simp only [sliceBounds, HT.sIx, Option.getD_none, show (1 : Int) > 0 by decide, if_true]
      by_cases h : i < 0
      · simp only [h, if_true] <;> omega
      · simp only [h, if_false] <;> omega
  · cases hi with
    | none => simp [sliceBounds, HT.sIx]
    | some i =>
      simp only [sliceBounds, HT.sIx, Option.getD_none, show (1 : Int) > 0 by decide, if_true]
      by_cases h : i < 0
      · simp only [h, if_true] <;> omega
      · simp only [h, if_false] <;> omega
theorem slicePick_cut (its : List Value) (lo hi : Option Int) : slicePick its.toArray lo hi none = ((its.drop (HT.sIx its.length 0 lo)).take (HT.sIx its.length its.length hi - HT.sIx its.length 0 lo)).toArray := by
  obtain ⟨h1, h2, h3⟩ := slice_bounds lo hi its.toArray.size
  unfold slicePick
  rw [h1, h2, h3]
  simp only [sliceRange_one, pick_run, List.size_toArray] <;> rfl
/-- xs[lo:hi] of a list: a new list -/
def rSlL (K : PySem.W.Frag) : V → Option Int → Option Int → Hp → VK → Prop := fun x lo hi H Q => ∃ a xs, x = .ref a ∧ SqL K H a xs ∧ ∀ p, H p = none → Q (.ref p) (upd H p (.lst (cutV xs lo hi)))
theorem sl_list : SlR X (rSlL X.K) := by
  intro pins s σ H x v vl vu lo hi sl Q I rx hs pl pu h
  obtain ⟨a, xs, rfl, hx, q⟩ := h
  cases rx
  obtain ⟨its, r, ht, hz⟩ := I.list hx
  have hlen := r.length
  refine ⟨"list", _, slot_list_getitem.lookup, ht.isList.typeIs, ?_⟩
  refine wpAny_getItem_list_slice ht.isList hs pl pu .none (by simp) ?_ (by rw [List.size_toArray] <;> omega)
  rw [slicePick_cut, ← hlen]
  refine ⟨.ref s.heap.objs.size, _, I.laid (t' := s.toks) (o := .lst (cutV xs lo hi)) (fun b ob q => Heap.get?_push_of_some _ q) (Nat.le_refl _) ?_, rfl, q _ (I.hok.fresh (Nat.le_refl _))⟩
  exact ⟨Nat.le_trans (cutV_length xs lo hi) hz, _, 0, (r.drop (HT.sIx xs.length 0 lo)).take (HT.sIx xs.length xs.length hi - HT.sIx xs.length 0 lo), Heap.get?_push_size _ rfl⟩

/-! ### in, not in: flat items -/

/-! ### len, list(x), tuple(x) of any list or tuple that is read -/
theorem call_len_seq : CallR X (.builtin "len") (fun xs H Q => ∃ p ys, xs = [.ref p] ∧ (SqL X.K H p ys ∨ SqT X.K H p ys) ∧ Q (.int ys.length) H) := by
  intro pins s σ H xs us Q I r h
  obtain ⟨p, ys, rfl, hq, q⟩ := h
  obtain ⟨u, rfl, rx⟩ := vals1 r
  cases rx
  have hn := line63
  rcases hq with hq | hq
  · obtain ⟨its, r', pl, hz⟩ := I.list hq
    have hlen := r'.length
    exact Calls.call_len_list pl.isList (by simp only [List.size_toArray] <;> omega) ⟨.int ys.length, H, I.tok _, ⟨s.toks + 1, by rw [List.size_toArray, hlen]⟩, q⟩
  · obtain ⟨its, r', pl, hz⟩ := I.tuple hq
    have hlen := r'.length
    exact len_tuple pl (by simp only [List.size_toArray] <;> omega) ⟨.int ys.length, H, I.tok _, ⟨s.toks + 1, by rw [List.size_toArray, hlen]⟩, q⟩
theorem call_list_of : CallR X (.type "list") (fun xs H Q => ∃ p ys, xs = [.ref p] ∧ (SqL X.K H p ys ∨ SqT X.K H p ys) ∧ ∀ l, H l = none → Q (.ref l) (upd H l (.lst ys))) := by
  intro pins s σ H xs us Q I r h
  obtain ⟨p, ys, rfl, hq, q⟩ := h
  obtain ⟨u, rfl, rx⟩ := vals1 r
  cases rx
  have fin : ∀ (its : List Value), Vals ys its → ys.length ≤ sizeLine → ∀ (h' : Heap) (c' : Nat), (∀ b o', s.heap.get? b = some o' → h'.get? b = some o') →
      h'.get? s.heap.objs.size = some { cls := .type "list", dict := none, data := .seq its.toArray c', slots := #[] } → EP X pins σ Q (.ref s.heap.objs.size) { s with heap := h' } := fun its r' hz h' c' kp e =>
    ⟨.ref s.heap.objs.size, _, I.laid (t' := s.toks) kp (Nat.le_refl _) (show ObjOk X.prog X.w _ h' _ (.lst ys) from ⟨hz, its, c', r', e⟩), rfl, q _ (I.hok.fresh (Nat.le_refl _))⟩
  rcases hq with hq | hq
  · obtain ⟨its, r', pl, hz⟩ := I.list hq
    have hlen := r'.length
    obtain ⟨o, ho, hc, n, hd⟩ := pl.isList
    exact call_list_seq p (.inl rfl) ho hc hd (fun h' c' kp e => fin its r' hz h' c' kp e) (by simp only [List.size_toArray] <;> omega)
  · obtain ⟨its, r', pl, hz⟩ := I.tuple hq
    have hlen := r'.length
    obtain ⟨o, ho, hc, n, hd⟩ := pl
    exact call_list_seq p (.inr rfl) ho hc hd (fun h' c' kp e => fin its r' hz h' c' kp e) (by simp only [List.size_toArray] <;> omega)

/-! ### the call of a builtin's method: o.m(..) -/
/-- the value is of that builtin type -/
def tyV (K : PySem.W.Frag) (T : String) (x : V) (H : Hp) : Prop := match x with
  | .str _ => T = "str"
  | .int _ => T = "int"
  | .ref p => (T = "list" ∧ ∃ xs, SqL K H p xs) ∨ (T = "tuple" ∧ ∃ o, K.lookup p = some o ∧ o.cls = .type "tuple" ∧ o.dict = none) ∨
      (T = "dict" ∧ ((∃ kvs, H p = some (.dK kvs)) ∨ ∃ kvs, H p = some (.dT kvs))) ∨ (T = "set" ∧ ∃ S n, H p = some (.set S n))
  | _ => False
theorem tyV_is {pins : List (Addr × Obj)} {σ : St} {H : Hp} {s : Shared} {T : String} {x : V} {v : Value} (I : Inv X pins σ H s) (r : RelV x v) (ty : tyV X.K T x H) :
    s.TypeIs v T ∧ ∀ a, v = .ref a → ∃ ob, s.heap.get? a = some ob ∧ ob.dict = none := by
  cases x with
  | str z =>
    obtain ⟨t, rfl⟩ := r
    cases (show T = "str" from ty)
    exact ⟨typeIs_str s z t, fun _ e => nomatch e⟩
  | int i =>
    obtain ⟨t, rfl⟩ := r
    cases (show T = "int" from ty)
    exact ⟨typeIs_int s i t, fun _ e => nomatch e⟩
  | ref p =>
    cases r
    rcases ty with ⟨rfl, xs, hq⟩ | ⟨rfl, o, hk, hc, hd⟩ | ⟨rfl, hk⟩ | ⟨rfl, S, n, hk⟩
    · obtain ⟨its, _, pl, _⟩ := I.list hq
      refine ⟨pl.isList.typeIs, fun a e => ?_⟩
      cases e
      obtain ⟨o, n, e, c, hd, _⟩ := pl
      exact ⟨o, e, hd⟩
    · refine ⟨⟨o, I.kIn p o hk, hc⟩, fun a e => ?_⟩
      cases e
      exact ⟨o, I.kIn _ o hk, hd⟩
    · have z : ∃ o, s.heap.get? p = some o ∧ o.ExactDict := by
        rcases hk with ⟨kvs, hk⟩ | ⟨kvs, hk⟩
        · obtain ⟨_, _, _, _, o, _, _, e, ex, _⟩ := I.hok p _ hk
          exact ⟨o, e, ex⟩
        · obtain ⟨_, _, _, _, o, _, _, e, ex, _⟩ := I.hok p _ hk
          exact ⟨o, e, ex⟩
      obtain ⟨o, e, ex⟩ := z
      refine ⟨⟨o, e, ex.1⟩, fun a e2 => ?_⟩
      cases e2
      exact ⟨o, e, ex.2.1⟩
    · obtain ⟨o, _, _, _, e, ex, _⟩ := I.hok p _ hk
      refine ⟨⟨o, e, ex.1⟩, fun a e2 => ?_⟩
      cases e2
      exact ⟨o, e, ex.2.1⟩
  | _ => exact False.elim ty
def tBM0 (K : PySem.W.Frag) (T : String) (r : V → List V → Hp → VK → Prop) (to : TE) : TE := fun σ H Q => to σ H fun x H1 => tyV K T x H1 ∧ r x [] H1 Q
def tBM (K : PySem.W.Frag) (T : String) (r : V → List V → Hp → VK → Prop) (to : TE) (t : TA) : TE := fun σ H Q => to σ H fun x H1 => tyV K T x H1 ∧ t σ H1 fun xs H2 => r x xs H2 Q
variable {o e : Expr} {es : List Expr} {to : TE} {t : TA} {name : Str} {apos cpos : Pos} {T id : String} {r : V → List V → Hp → VK → Prop}
theorem pe_bm0 (pa : PlainAttrs T) (slot : Slot T name id) (hty : typeOf (.builtin id) = pure (.type "method_descriptor")) (hm : MtR X id r) (ho : PE X o to)
    (hbase : attributeBase o name X.env (eval o X.env) = eval o X.env := by rfl) (hline : (apos.endLine == cpos.line) = true := by rfl) : PE X (.Call (.Attribute o name apos) [] [] cpos) (tBM0 X.K T r to) := by
  intro pins s σ H Q I h
  refine wpAny_Call_method0_late hbase hline (thn (ho pins s σ H _ I h) fun v s1 ⟨x, H1, I1, r1, ty, q1⟩ => ?_)
  obtain ⟨h1, h2⟩ := tyV_is I1 r1 ty
  exact ⟨T, id, pa, slot, hty, h1, h2, Calls.callWith_builtin rfl (PySem.evalArgs_none (hm pins s1 σ H1 x [] v [] Q I1 r1 .nil q1))⟩
theorem pe_bm (pa : PlainAttrs T) (slot : Slot T name id) (hty : typeOf (.builtin id) = pure (.type "method_descriptor")) (hm : MtR X id r) (ho : PE X o to) (ha : PA X (e :: es) t)
    (hbase : attributeBase o name X.env (eval o X.env) = eval o X.env := by rfl)
    (hfew : ((backTo cpos (starEach (e :: es) X.env)).all (fun x => !x.1) && (backToKw cpos (keywordEach [] X.env)).all (fun x => x.1.isSome)
      && decide ((e :: es).length + ([] : List Keyword).length + (if ([] : List Keyword).isEmpty then 0 else 1) < 30)) = true := by rfl)
    (hline : (apos.endLine == cpos.line) = true := by rfl) (hs : starEach (e :: es) X.env = (false, eval e X.env) :: starEach es X.env := by rfl) (hplain : (backTo cpos (starEach es X.env)).any (·.1) = false := by rfl) :
    PE X (.Call (.Attribute o name apos) (e :: es) [] cpos) (tBM X.K T r to t) := by
  intro pins s σ H Q I h
  refine wpAny_Call_method_late hbase hfew hline rfl (thn (ho pins s σ H _ I h) fun v s1 ⟨x, H1, I1, r1, ty, q1⟩ => ?_)
  obtain ⟨h1, h2⟩ := tyV_is I1 r1 ty
  refine ⟨T, id, pa, slot, hty, h1, h2, ?_⟩
  have hA := ha cpos pins s1 σ H1 _ I1 q1
  rw [hs] at hA ⊢
  refine Calls.callWith_builtin (by show (false || (backTo cpos (starEach es X.env)).any (·.1)) = false; rw [hplain] <;> rfl) (Calls.evalArgs_plain ?_)
  exact thn hA fun us s2 ⟨vs, H2, I2, r2, q2⟩ => hm pins s2 σ H2 x vs v us Q I2 r1 r2 q2
/- xs.append(e), list.index on a module's tuple .. are MtR facts of 06m -/
end
end L2

namespace L2
open PySem PySem.Spec PyProof.Rows

def MtM (X : Cx) (id : String) (r : V → List V → Hp → VK → Prop) : Prop :=
  ∀ (pins : List (Addr × Obj)) (s : Shared) (σ : St) (H : Hp) (x : V) (xs : List V) (v : Value) (us : List Value) (Q : VK), Inv X pins σ H s → RelV x v → Vals xs us → r x xs H Q →
    wpAny (model X.prog X.w) X.A (call (.builtin id) (v :: us)) (EP X pins σ Q) X.xe s

/-! ### lists of values -/
theorem Vals.one : ∀ {x : V} {us : List Value}, Vals [x] us → ∃ u, us = [u] ∧ RelV x u
  | _, _, .cons r .nil => ⟨_, rfl, r⟩
theorem Vals.zero : ∀ {us : List Value}, Vals [] us → us = []
  | _, .nil => rfl
theorem Vals.reverse {xs : List V} {us : List Value} (h : Vals xs us) : Vals xs.reverse us.reverse := by
  induction h with
  | nil => exact .nil
  | cons r t ih => rw [List.reverse_cons, List.reverse_cons]; exact Vals.append ih (.cons r .nil)

section
variable {X : Cx} {pins : List (Addr × Obj)} {σ : St} {H : Hp} {s : Shared} {l b : Addr} {xs ys zs : List V}

/-! ### the two steps: a tracked list is rewritten, a new list is laid -/
theorem Inv.lset {its its' : List Value} {n : Nat} {f : Array Value → Array Value} {t' : Nat} (I : Inv X pins σ H s) (hH : H l = some (.lst xs))
    (e : s.heap.get? l = some { cls := .type "list", data := .seq its.toArray n }) (hf : f its.toArray = its'.toArray) (hv : Vals ys its') (hz : ys.length ≤ sizeLine) :
    Inv X pins σ (upd H l (.lst ys)) { s with heap := s.heap.update l (Obj.mapSeq f), toks := t' } := by
  have q := PySem.IsL.update e f
  rw [hf] at q
  refine I.write (x := l) (e := l) (by rw [hH]; exact trivial) (.inl rfl) (fun b' u hb hu => (Heap.get?_update_other s.heap (Obj.mapSeq f) (Ne.symm hb)).trans hu) ⟨_, q⟩ ?_
  exact ⟨hz, its', _, hv, q⟩
theorem Inv.lstM (I : Inv X pins σ H s) (hH : H l = some (.lst xs)) : xs.length ≤ sizeLine ∧ ∃ (its : List Value) (n : Nat), Vals xs its ∧ xs.length = its.length ∧ s.heap.get? l = some { cls := .type "list", data := .seq its.toArray n } := by
  obtain ⟨z, its, n, r, e⟩ := I.hok l _ hH
  exact ⟨z, its, n, r, r.length, e⟩

end

section
variable {X : Cx}

/-! ### methods -/
def rAppend : V → List V → Hp → VK → Prop := fun x vs H Q => ∃ l xs y, x = .ref l ∧ vs = [y] ∧ H l = some (.lst xs) ∧ xs.length < sizeLine ∧ Q .non (upd H l (.lst (xs ++ [y])))
theorem mt_append : MtM X "list.append" rAppend := by
  intro pins s σ H x vs v us Q I rx rv h
  obtain ⟨l, xs, y, rfl, rfl, hH, hz, q⟩ := h
  cases rx
  obtain ⟨u, rfl, ru⟩ := rv.one
  obtain ⟨z, its, n, r, hl, e⟩ := I.lstM hH
  refine call_meets F.slot_list_append ⟨_, e, rfl⟩ F.entry_list_append (F.args_list_append_2 _ _) (PySem.list_append l its.toArray n u (by rw [List.size_toArray]; omega)) ⟨e, ?_⟩
  refine ⟨.non, _, I.lset (its' := its ++ [u]) hH e (by simp) (r.append (.cons ru .nil)) ?_, rfl, q⟩
  rw [List.length_append, List.length_singleton]
  omega






/-! ### list + list, list += list, list * int -/

/-! ### del xs[i] -/
end

/-! ### xs[a:b] = ys -/
section
variable {prog : Program} {w : World} {A : Around} {E : Value → Shared → Prop} {s : Shared}
end

section
variable {X : Cx}
end
end L2

namespace Att
open PySem PySem.W PySem.Calls PyProof.Rows

/-! ### the script -/
theorem ints_of_wellAll {P : Params} {h : Heap} : ∀ (ns : List Int) (vs : List Value), WellAll P h vs (ns.map WData.int) → IntsAre vs ns := by
  intro ns
  induction ns with
  | nil =>
    intro vs w
    rw [List.map_nil] at w
    cases w
    exact .nil
  | cons n ns ih =>
    intro vs w
    rw [List.map_cons] at w
    cases w with
    | cons a b =>
      cases a
      exact .cons _ _ (ih _ b)

theorem script_of {l : OpenLaw} {n : Nat} (hn : l.most = some n) {P : Params} {h : Heap} {args : List WData} {vals : List Value}
    (hpre : l.row.toRowW.claim.pre args = true) (hwl : WellAll P h vals args) :
    ∃ a vs ns, vals = [Value.ref a] ∧ args = [WData.list (ns.map WData.int)] ∧ h.get? a = some { cls := .type "list", data := .seq vs.toArray } ∧ IntsAre vs ns ∧ ns.length ≤ n := by
  have hsh : WShape.hasAll [] args [.list .int] = true := (pre_splitW hpre).1
  have hc : l.pre.holds [] { args := args } = true := (pre_splitW hpre).2
  obtain ⟨d, r, rfl, h1, h2⟩ := hasAllW_cons hsh
  obtain rfl := hasAllW_nil h2
  obtain ⟨xs, rfl, h3⟩ := hasW_list h1
  obtain ⟨ns, rfl⟩ := items_int h3
  have hlen : ns.length ≤ n := by
    unfold OpenLaw.pre at hc
    have h4 : (WTm.not (.lt (.lit (.int (n : Int))) (.len (.arg 0)))).holds [] { args := [.list (ns.map .int)] } = true := by
      have h4 := (holds_andW hc).1
      rw [hn] at h4
      exact h4
    have h5 := condW_of h4 (w_not (w_lt w_lit (w_len_list (w_arg rfl))))
    rw [List.length_map] at h5
    refine Nat.le_of_not_lt fun q => ?_
    have q' : (n : Int) < ((ns.length : Nat) : Int) := by omega
    first
      | (rw [decide_eq_true q'] at h5; exact absurd h5 (by decide))
      | (simp at h5; omega)
  cases hwl with
  | cons w1 w2 =>
    cases w2
    cases w1 with
    | list ho hall => exact ⟨_, _, ns, rfl, rfl, ho, ints_of_wellAll ns _ hall, hlen⟩

theorem post_true (l : OpenLaw) (args : List WData) : l.row.toRowW.claim.post args (.bool true) args = true :=
  postW_of (r := l.row.toRowW) (X := (true == true))
    (show WShape.has [] (.bool true) .bool = true by first | rfl | decide | simp [WShape.has, WShape.arms, WShape.armsAll])
    (show (WTm.eq .res (.lit (.bool true))).value [] { args := args, res := some (.bool true), after := args } = some (.bool (true == true)) from w_eq_bool (w_res rfl) w_lit) rfl

/-! ### the attachment: holds_open's last premise (the goal 'hc' behind k_head) from a wpAny of the law's body -/

/-- the same from a codeAny of the CALL (for a layer whose function contracts speak of calls) -/
theorem attach_call {l : OpenLaw} {n : Nat} {q : Program} {loose : List Str} {XP : (Str → Option Value) → Heap → Prop} {YP : World → Heap → Prop} {d : DefRec}
    (hn : l.most = some n) (hdf : d.params.defaults = [])
    (call : ∀ (w : World) (s₀ s₁ : Shared) (mg mb : Str → Option Value) (fa : Addr) (o : Obj) (pm cd doc : Value) (a : Addr) (vs : List Value) (ns : List Int),
      Ground q loose [] XP w s₀ mg mb s₁.heap → YP w s₁.heap →
      s₁.heap.get? fa = some o → o.data = .func (docDef d.name d.params d.body d.scope pm cd doc) → s₁.heap.CodeRec cd d.name → mg d.name = some (.ref fa) →
      s₁.heap.get? a = some { cls := .type "list", data := .seq vs.toArray } → IntsAre vs ns → ns.length ≤ n → s₁.gens = #[] →
      codeAny (model l.prog w) callerA (.call (.ref fa) ⟨[.ref a], []⟩) (fun r s' => r = .ok (.ret (.bool true)) ∧ OldK s₁.heap s'.heap ∧ s'.os = s₁.os ∧ AllBare s'.gens) s₁) :
    WalkO q loose XP YP l.row.toRowW d [] (fun f vs => PySem.call f vs) := by
  intro w s₀ s₁ mg mb G Y fa o pm cd doc dV kV ho hd hcd hD hmg hg args vals as hpre hlay hrd hwl hlo
  obtain rfl : dV = .none := Dflts.none hD hdf
  obtain rfl : kV = .none := Dflts.noKw hD
  obtain ⟨a, vs, ns, rfl, rfl, hobj, hints, hlen⟩ := script_of hn hpre hwl
  refine enter_call (codeAny_mono (call w s₀ s₁ mg mb fa o pm cd doc a vs ns G Y ho (fd_plain hd) hcd hmg hobj hints hlen hg) fun r s' hq => ?_)
  obtain ⟨rfl, h2, h3, h4⟩ := hq
  exact ⟨.inl ⟨.bool true, .bool true, [], rfl, fun _ => rfl, .bool true, post_true l _, fun _ => ⟨List.Pairwise.nil, fun _ hm => (nomatch hm)⟩⟩, h2, h3, h4⟩


/-! ### rules over ANY heap (no ledger) from facts about the written part K: the library's own take a ledger (News) for what they write -/
section
variable {prog : Program} {w : World} {A : Around} {E : Value → Shared → Prop} {s : Shared} {K : Frag}





/-! the whole heap as the ledger: makes every rule that writes through a ledger a rule over any heap -/

end
end Att

namespace L2
open PySem PySem.Spec PyProof.Rows

theorem vals_ints : ∀ {vs : List Value} {ns : List Int}, IntsAre vs ns → Vals (ns.map V.int) vs
  | _, _, .nil => .nil
  | _, _, .cons n t h => .cons ⟨t, rfl⟩ (vals_ints h)

/-- nothing is tracked but the script, known to the object (or it is an object of the module) -/
def Only (H : Hp) : Prop := ∀ b, H b = none ∨ ∃ o xs, H b = some (.frz o (.lst xs))

/-- THE HEAD: the law's promise, at the heap behind the top. F, the promise of the law's def, may use that base is part of the heap (so K.In base, base.Ns mainGlobals mg stand in Mod) -/
theorem law_call {P : Program} {w : World} {K : PySem.W.Frag} {mg mb : Str → Option Value} {CX : CXT} {k : Nat} {fa a : Addr} {fd : FuncData} {x : Str} {sp : Sp} {s₁ : Shared} {vs : List Value} {ns : List Int}
    (KX : K.In s₁.heap) (hns : s₁.heap.Ns mainGlobals mg) (hb : s₁.heap.Ns builtinsNs mb) (hbb : ∀ x : Str, x ≠ "__name__" → mb x = bootBuiltins x) (hlim : s₁.heap.NoLimit) (hg : s₁.gens = #[])
    (ha : s₁.heap.get? a = some { cls := .type "list", data := .seq vs.toArray }) (hi : IntsAre vs ns) (hl : ns.length ≤ sizeLine) (hr : Room k callerA)
    (F : ∀ base : Heap, K.In base → base.Ns mainGlobals mg → FnOk P w K mg base CX k fa fd [x] sp) (hbind : ∀ (s : Shared) (u : Value), BindsTo s fd ⟨[u], []⟩ [(x, u)])
    (hsp : ∀ H : Hp, Only H → SqL K H a (ns.map V.int) → sp [.ref a] H (fun v _ => v = .bl true) fun _ _ _ => False)
    (hCX : ∀ H e s', CX [] H s₁ (fun _ _ _ => False) e s' → False) :
    codeAny (model P w) callerA (.call (.ref fa) ⟨[.ref a], []⟩) (fun r s' => r = .ok (.ret (.bool true)) ∧ OldK s₁.heap s'.heap ∧ s'.os = s₁.os ∧ AllBare s'.gens) s₁ := by
  have rv := vals_ints hi
  have lenV := hi.length
  -- from an abstract heap in which nothing but the script may be tracked
  have core : ∀ H : Hp, Only H → SqL K H a (ns.map V.int) → HOk P w H s₁.heap → (∀ b, H b ≠ none → b = a) → (H a ≠ none → K.lookup a = none) →
      codeAny (model P w) callerA (.call (.ref fa) ⟨[.ref a], []⟩) (fun r s' => r = .ok (.ret (.bool true)) ∧ OldK s₁.heap s'.heap ∧ s'.os = s₁.os ∧ AllBare s'.gens) s₁ := by
    intro H hO hS hok hA hK
    have base_of : ∀ {b : Addr} {o : Obj}, s₁.heap.get? b = some o → H b = none → (hidT s₁.heap H).get? b = some o := fun e n => hidT_get e n
    have noA : ∀ {b : Addr} {o : Obj} {es : Array DictEntry} {ep : Nat}, s₁.heap.get? b = some o → o.data = .dict es ep → H b = none := fun {b o es ep} e d => by
      cases q : H b with
      | none => rfl
      | some u =>
        have e' : b = a := hA b (by rw [q]; simp)
        subst e'
        rw [ha] at e; cases e
        have d' : Data.seq vs.toArray _ = Data.dict es ep := d
        cases d'
    have nsK : ∀ {b : Addr} {m : Str → Option Value}, s₁.heap.Ns b m → (hidT s₁.heap H).Ns b m := fun {b m} ⟨o, es, ep, e, d, r⟩ => ⟨o, es, ep, base_of e (noA e d), d, r⟩
    have hKb : K.In (hidT s₁.heap H) := fun b o e => base_of (KX b o e) (by
      cases q : H b with
      | none => rfl
      | some u =>
        have e' : b = a := hA b (by rw [q]; simp)
        subst e'
        rw [hK (by rw [q]; simp)] at e; cases e)
    have hM : Mod K mg (hidT s₁.heap H) := ⟨hKb, nsK hns, ⟨mb, nsK hb, hbb⟩, let ⟨mc, h1, h2⟩ := hlim; ⟨mc, nsK h1, h2⟩⟩
    have e0 : Env0 P w K mg (hidT s₁.heap H) callerA [] s₁ H := ⟨rfl, hM, fun b o e => of_hidT e, Nat.le_of_eq (hidT_size _ _), trivial, fun b hb => absurd (show b ∈ ([] : List Addr) from hb) (by simp), hok, .of_eq hg⟩
    refine codeAny_mono ((F _ hKb (nsK hns)).run callerA [] s₁ H ⟨[.ref a], []⟩ [.ref a] [.ref a] _ _ hr e0 (hbind s₁ (.ref a)) (.cons rfl .nil) (hsp H hO hS)) fun r s' h => ?_
    cases r with
    | error e => exact (hCX H e s' h).elim
    | ok fl =>
      cases fl with
      | next => exact False.elim h
      | brk => exact False.elim h
      | cont => exact False.elim h
      | ret u =>
        obtain ⟨v, H', os, bare, un, hok', r', q⟩ := h
        have q' : v = .bl true := q
        subst q'
        obtain rfl : u = Value.bool true := r'
        refine ⟨rfl, OldK.of_keep fun b o e => ?_, os, bare⟩
        cases q : H b with
        | none => exact un.keep b o e q (by intro z; exact absurd (show b ∈ ([] : List Addr) from z) (by simp)) (by simp)
        | some u =>
          rcases hO b with z | ⟨ob, xs, z⟩
          · rw [q] at z; cases z
          · have z2 := un.frzs b ob _ z
            obtain ⟨e1, _⟩ := hok b _ z
            obtain ⟨e2, _⟩ := hok' b _ z2
            rw [e] at e1; cases e1
            exact e2
  cases hk : K.lookup a with
  | some o =>
    -- the script is one of the module's own objects
    have e := KX a o hk
    rw [ha] at e
    cases e
    refine core (fun _ => none) (fun _ => .inl rfl) (.inr ⟨_, vs.toArray, _, hk, rfl, rfl, rfl, by rw [List.size_toArray, lenV]; exact hl, by simpa using rv⟩) (fun b u z => by have z' : (none : Option HO) = some u := z; cases z') (fun b z => absurd rfl z) fun z => absurd rfl z
  | none =>
    refine core (fun b => if b = a then some (.frz { cls := .type "list", data := .seq vs.toArray } (.lst (ns.map V.int))) else none) (fun b => ?_) (.inl (.inr ⟨{ cls := .type "list", data := .seq vs.toArray }, if_pos rfl⟩)) (fun b u z => ?_) (fun b z => ?_) fun _ => hk
    · by_cases hb : b = a
      · exact .inr ⟨_, _, if_pos hb⟩
      · exact .inl (if_neg hb)
    · by_cases hb : b = a
      · have z' := (if_pos hb).symm.trans z
        cases z'
        subst hb
        exact ⟨ha, by rw [List.length_map]; exact hl, vs, _, rv, ha⟩
      · have z' := (if_neg hb).symm.trans z
        cases z'
    · by_cases hb : b = a
      · exact hb
      · exact absurd (if_neg hb) z
end L2

namespace L2
open PySem PySem.Spec PyProof.Rows


/-- the goal that k_head leaves (case hc), from the law's promise. F gives the function object fd (K's own) once, then the promise over every base -/
theorem walk_of {l : PySem.W.OpenLaw} {n k : Nat} {q : Program} {loose : List Str} {XP : (Str → Option Value) → Heap → Prop} {YP : World → Heap → Prop} {d : DefRec} {K : Params → PySem.W.Frag} {CX : World → CXT} {sp : World → Sp} {x : Str}
    (hn : l.most = some n) (hn2 : n ≤ sizeLine) (hdf : d.params.defaults = []) (hr : Room k callerA)
    (hY : ∀ (w : World) (h : Heap), YP w h → (K w.params).In h)
    (F : ∀ (w : World) (mg : Str → Option Value) (fa : Addr) (h : Heap), (K w.params).In h → h.Ns mainGlobals mg → mg d.name = some (.ref fa) →
      ∃ fd : FuncData, (∀ (s : Shared) (u : Value), BindsTo s fd ⟨[u], []⟩ [(x, u)]) ∧
        ∀ base : Heap, (K w.params).In base → base.Ns mainGlobals mg → FnOk l.prog w (K w.params) mg base (CX w) k fa fd [x] (sp w))
    (hsp : ∀ (w : World) (H : Hp) (a : Addr) (ns : List Int), ns.length ≤ n → Only H → SqL (K w.params) H a (ns.map V.int) → sp w [.ref a] H (fun v _ => v = .bl true) fun _ _ _ => False)
    (hCX : ∀ (w : World) (H : Hp) (s : Shared) (e : Value) (s' : Shared), CX w [] H s (fun _ _ _ => False) e s' → False) :
    PySem.W.WalkO q loose XP YP l.row.toRowW d [] (fun f vs => PySem.call f vs) := by
  refine Att.attach_call hn hdf fun w s₀ s₁ mg mb fa o pm cd doc a vs ns G Y ho hd hcd hmg hobj hints hlen hg => ?_
  have KX := hY w _ Y
  obtain ⟨fd, hb, hF⟩ := F w mg fa _ KX G.T.g hmg
  exact law_call KX G.T.g G.T.b G.T.builtins G.T.nolimit hg hobj hints (Nat.le_trans hlen hn2) hr hF hb (fun H hO hS => hsp w H a ns hlen hO hS) fun H e s' => hCX w H s₁ e s'
end L2

/- THE LAST THEOREM (shape; LID, My.* are yours):
   My.Adr: a structure of the addresses that your layer names (classes, functions); My.Txt K t: a structure (Prop) of the equations over K;
   My.txt_mk : {K} {implicit addresses ..} (e1 : nsIn K mainGlobals "law" = some (some (.ref f))) (e2 : K.lookup f = some ⟨oc, od, .func (fnOf "law" "law" params body scope dV kV doc pm an cdv ct), sl⟩) (e3 : codeIn K cdv "law" = true) .. : ∃ t, My.Txt K t

set_option maxRecDepth 100000 in
set_option maxHeartbeats 0 in
theorem PySem.Challenge.cw_LID_holds : PySem.Challenge.rw_LID.Holds := by
  w_on; o_law; k_head; (case hw => w_witness2)
  k_fill
  refine L2.walk_of (l := PySem.Challenge.rw_LID) (n := 63) (k := 40) (x := "script") (CX := fun w => ..) (sp := fun _ => My.sp_law) rfl (by decide) rfl ⟨rfl, by decide, by decide⟩ (fun w h Y => PySem.W.kIn_of Y) ?F ?S ?C
  case F =>
    intro w mg fa h KX G hmg
    have T : ∃ t, My.Txt (L2.KOf KX) t := by
      dsimp only [L2.KOf]                          -- K must stand as «<heap const> w.params» for k_is
      refine' My.txt_mk ?e1 ?e2 ?e3 ..
      (case e1 => PySem.W.k_is)                    -- in the order: a name -> its address -> its object -> its parts
      (case e2 => PySem.W.k_is)
      ..
    obtain ⟨t, T⟩ := T
    have e0 := hmg.symm.trans (PySem.W.mg_of KX G T.law)
    cases e0                                       -- fa is the law's own address
    exact ⟨_, fun s u => .of_eq rfl, fun base kb nb => My.law_fn T kb nb⟩     -- if «.of_eq rfl» comes too early: refine' ⟨_, ?b, fun base kb nb => My.law_fn T kb nb⟩; exact fun s u => .of_eq rfl
  case S => exact fun w H a ns hl hO hS => ..
  case C => exact ..
(the tactic k_is has no namespace: write k_is) -/

/-! SHORT WORDS over the layer: a def of the text, its body, what a loop and a test want. -/
namespace L2
open PySem PySem.Spec PyProof.Rows

/-! ### the text by places -/
def defArgs (s : Stmt) : Arguments := match s with
  | .FunctionDef _ a _ _ _ _ _ _ _ _ => a
  | _ => { posonlyargs := [], args := [], vararg := none, kwonlyargs := [], kw_defaults := [], kwarg := none, defaults := [] }
def defBody (s : Stmt) : List Stmt := match s with
  | .FunctionDef _ _ b _ _ _ _ _ _ _ => b
  | _ => []
def defScope (s : Stmt) : Scope := match s with
  | .FunctionDef _ _ _ _ _ _ sc _ _ _ => sc
  | _ => { kind := .function, names := [], isGenerator := false, isCoroutine := false }

/-! ### no exception leaves a def -/
abbrev CX0 : CXT := fun _ _ _ _ _ _ => False
abbrev E0 : XK := fun _ _ _ => False
theorem pass0 {X : Cx} : Passes CX0 X E0 := fun _ _ _ _ _ _ _ h => h.elim

/-! ### a def (or method) of the text as it stands behind the top -/
structure Fun (K : PySem.W.Frag) (x qual : Str) (st : Stmt) (f : Addr) (fd : FuncData) : Prop where
  ex : ∃ (oc : Value) (od : Option Addr) (kV doc pm : Value) (an : Option Addr) (cdv ct : Value) (osl : Array (Option Value)),
    fd = PySem.W.fnOf x qual (defArgs st) (defBody st) (defScope st) .none kV doc pm an cdv ct ∧ K.lookup f = some ⟨oc, od, .func fd, osl⟩ ∧ PySem.W.codeIn K cdv qual = true
  kp : PySem.W.keepIn K (.ref f) = true
section
variable {P : Program} {w : World} {K : PySem.W.Frag} {mg : Str → Option Value} {base : Heap}
/-- THE RULE for a def: its body as a term of rules, and the reading of that term -/
theorem Fun.ok {x qual : Str} {st : Stmt} {f : Addr} {fd : FuncData} {N ps : List Str} {k : Nat} {sp : Sp} (F : Fun K x qual st f fd) (S : FnScope N ps (defScope st)) (len : ∀ vs H Q E, sp vs H Q E → vs.length = ps.length)
    (hbody : ∀ (cdv : Value) (A : Around) (outer : List Env) (s : Shared) (H : Hp) (vs : List V) (Q : VK) (E : XK), Room k (A.deeper (envOfC qual (defScope st) s.heap.objs.size f cdv)) → sp vs H Q E →
      ∃ t, PSs (cxOf CX0 P w K mg base N qual (defScope st) f cdv A outer s H E).nox (defBody st) t ∧ t { nx := fun _ H' => Q .non H', rt := Q } (start N vs) H) : FnOk P w K mg base CX0 (k + 1) f fd ps sp := by
  obtain ⟨oc, od, kV, doc, pm, an, cdv, ct, osl, rfl, lk, hcd⟩ := F.ex
  refine fn_of lk hcd S len fun A outer s H vs Q E hr hsp => ?_
  obtain ⟨t, h, q⟩ := hbody cdv A outer s H vs Q E hr hsp
  exact ⟨t, h.nox, q⟩
/-- how its arguments bind (no defaults): h is «fun _ _ _ _ _ _ us hl => match us, hl with | [_, _], _ => rfl», one _ a parameter -/
theorem Fun.binds {x qual : Str} {st : Stmt} {f : Addr} {fd : FuncData} {ps : List Str} (F : Fun K x qual st f fd)
    (h : ∀ (kV doc pm : Value) (an : Option Addr) (cdv ct : Value) (us : List Value), us.length = ps.length → bindArgs (PySem.W.fnOf x qual (defArgs st) (defBody st) (defScope st) .none kV doc pm an cdv ct) ⟨us, []⟩ = pure (ps.zip us)) : Binds K fd ps [] := by
  obtain ⟨oc, od, kV, doc, pm, an, cdv, ct, osl, rfl, lk, hcd⟩ := F.ex
  exact .all (h kV doc pm an cdv ct)
theorem fun_mk {x qual : Str} {st : Stmt} {f : Addr} {oc : Value} {od an : Option Addr} {osl : Array (Option Value)} {kV doc pm cdv ct : Value} (l : K.lookup f = some ⟨oc, od, .func (PySem.W.fnOf x qual (defArgs st) (defBody st) (defScope st) .none kV doc pm an cdv ct), osl⟩)
    (c : PySem.W.codeIn K cdv qual = true) (k : PySem.W.keepIn K (.ref f) = true) : Fun K x qual st f (PySem.W.fnOf x qual (defArgs st) (defBody st) (defScope st) .none kV doc pm an cdv ct) := ⟨⟨oc, od, kV, doc, pm, an, cdv, ct, osl, rfl, l, c⟩, k⟩
end
theorem hu_of {A : Around} {k : Nat} (hr : Room k A) : A.units + 1 < cLine := Nat.lt_of_le_of_lt (Nat.add_le_add_left (by decide : 1 ≤ 64) _) hr.units
theorem small1000 {n : Nat} (h : n ≤ 1000) : n < sizeLine := Nat.lt_of_le_of_lt h (by decide)

/-! ### expressions in short: the name that stands in the i-th slot -/
section
variable {X : Cx}
theorem pv (i : Nat) {x : Str} {pos : Pos} (hN : X.N[i]? = some x := by rfl) (hv : Vis X.env.scope x := by first | exact Or.inl rfl | exact Or.inr (Or.inl rfl) | exact Or.inr (Or.inr rfl)) (hd : (x == ("__debug__" : Str)) = false := by decide)
    (hcd : (x == ("__classdict__" : Str)) = false := by decide) : PE X (.Name x pos) (tVar i) := pe_var hN hv hd hcd
end

/-! ### tests -/
theorem iteF {A B : Prop} (h : B) : if false = true then A else B := by
  rw [if_neg Bool.false_ne_true]
  exact h
theorem iteT {A B : Prop} (h : A) : if true = true then A else B := by
  rw [if_pos rfl]
  exact h
theorem ite2 {c A B : Prop} [Decidable c] (h1 : c → A) (h2 : ¬ c → B) : if c then A else B := by
  by_cases h : c
  · rw [if_pos h]
    exact h1 h
  · rw [if_neg h]
    exact h2 h
theorem iteNS {c A B : Prop} [Decidable c] (hc : c) (h : B) : if (!decide c) = true then A else B := by
  rw [decide_eq_true hc]
  exact iteF h

/-! ### heaps -/
/-- all that was tracked is as it was -/
def Same (H H' : Hp) : Prop := ∀ b o, H b = some o → H' b = some o
theorem Same.trans {H H1 H2 : Hp} (a : Same H H1) (b : Same H1 H2) : Same H H2 := fun c o h => b c o (a c o h)
theorem Same.seq {K : PySem.W.Frag} {H H' : Hp} {a : Addr} {xs : List V} (e : Same H H') (h : SqL K H a xs) : SqL K H' a xs := by
  rcases h with (h | ⟨o, h⟩) | h
  · exact .inl (.inl (e _ _ h))
  · exact .inl (.inr ⟨o, e _ _ h⟩)
  · exact .inr h

end L2

set_option maxRecDepth 100000
set_option maxHeartbeats 4000000
namespace L2
open PySem PySem.Spec PyProof.Rows
end L2
namespace L2
open PySem PySem.Spec PyProof.Rows
section
variable (P : Program) (w : World)
end
section
variable {P : Program} {w : World} {H H' : Hp} {h h' : Heap} {a : Addr} {o : HO}
end
section
variable {P : Program} {w : World} {H : Hp} {h h' : Heap} {x e : Addr} {o' : HO}
end
section
variable {fs fs' ex ex' : List Addr} {H H1 H2 : Hp} {h h1 h2 h' : Heap} {a x e : Addr} {o : HO}
end
end L2
namespace L2
open PySem PySem.Spec PyProof.Rows
section
variable {X : Cx} {pins : List (Addr × Obj)} {σ : List (Option V)} {H H' : Hp} {s : Shared} {h' : Heap}
end
end L2
namespace L2
open PySem PySem.Spec PyProof.Rows
section
variable {X : Cx}
variable {a b : Expr} {ta tb : TE} {pos : Pos}
variable {tA tB' : TT} {rest : List Expr}
end
end L2
namespace L2
open PySem PySem.Spec PyProof.Rows
section
variable {X : Cx} {pins : List (Addr × Obj)} {σ : St} {H : Hp} {s : Shared} {a : Addr} {xs ys : List V}
end
section
variable {X : Cx} {pins : List (Addr × Obj)} {σ : St} {H : Hp} {s : Shared} {E : Value → Shared → Prop}
end
section
variable {X : Cx} {st : Stmt} {rest : List Stmt} {t u : TS} {e : Expr} {te : TE} {pos : Pos}
end
section
variable {X : Cx} {pos : Pos}
end
section
variable {X : Cx} {pos : Pos}
end
end L2
namespace L2
open PySem PySem.Spec PyProof.Rows
section
variable {X : Cx} {tg : Expr}
end
end L2
namespace L2
open PySem PySem.Spec PyProof.Rows
section
variable {X : Cx} {a b c : Expr} {ta tb tc : TE} {pos : Pos}
end
section
variable {X : Cx} {a b c : Expr} {ta tb tc : TE} {pos : Pos}
end
end L2
namespace L2
open PySem PySem.Spec PyProof.Rows
section
variable {prog : Program} {w : World} {A : Around} {E : Value → Shared → Prop} {s : Shared} {K : PySem.W.Frag} {x dx C f : Addr} {mA : Str → Option Value} {name : Str} {v : Value}
end
section
variable {P : Program} {w : World} {H H' : Hp} {h h' : Heap} {a C dx : Addr} {fs fs' : List (Str × V)}
end
section
variable {X : Cx} {pins : List (Addr × Obj)} {σ : St} {H : Hp} {s : Shared} {a C dx : Addr} {fs : List (Str × V)} {f : Str} {v : V} {A : Around} {E : Value → Shared → Prop}
end
section
variable {X : Cx} {o e value : Expr} {f : Str} {pos pos' tpos : Pos} {ta tv : TE}
end
section
variable {X : Cx} {pins : List (Addr × Obj)} {σ : St} {H : Hp} {s : Shared} {A : Around} {E : Value → Shared → Prop} {Q : Value → Shared → Prop} {c : Value} {b : Bool}
end
end L2
namespace L2
open PySem PySem.Spec PyProof.Rows
section
variable {X : Cx} {e : Expr} {es : List Expr} {te : TE} {t : TA} {pos : Pos}
end
section
variable {X : Cx} {pins : List (Addr × Obj)} {σ : St} {H : Hp} {s s' : Shared}
end
section
variable {X : Cx} {CX : CXT} {k : Nat} {f C : Addr} {fd : FuncData} {ps : List Str} {sp : Sp} {dvs : List V} {ds : List Value} {E : XK} {x m : Str} {p pos apos : Pos} {e o : Expr} {es : List Expr} {ta : TE} {t : TA}
end
section
variable {X : Cx} {CX : CXT} {k : Nat} {f C : Addr} {fd : FuncData} {ps ks : List Str} {sp : Sp} {E : XK} {x m : Str} {p pos apos kpos : Pos} {e o : Expr} {es : List Expr} {kws : List Keyword} {te ta : TE} {t tk : TA} {nm : Option Str}
variable {g : List Value → List Value → List Value} {gV : List V → List V → List V}
end
end L2
namespace L2
open PySem PySem.Spec PyProof.Rows
section
variable {X : Cx} {x : Str} {p pos : Pos} {e : Expr} {es : List Expr} {t : TA} {id T : String} {r : List V → Hp → VK → Prop}
end
end L2
namespace L2
open PySem PySem.Spec PyProof.Rows
section
variable {κ : Type} [DecidableEq κ]
def valV (kvs : List (κ × V)) (k : κ) : Option V := (kvs.find? fun kv => decide (kv.1 = k)).map (·.2)
def putK (kvs : List (κ × V)) (k : κ) (v : V) : List (κ × V) :=
  if (kvs.any fun kv => decide (kv.1 = k)) = true then kvs.map (fun kv => if kv.1 = k then (kv.1, v) else kv) else kvs ++ [(k, v)]
theorem valV_pos {p : κ × V} {r : List (κ × V)} {k : κ} (e : p.1 = k) : valV (p :: r) k = some p.2 := by simp [valV, List.find?_cons, e]
theorem valV_neg {p : κ × V} {r : List (κ × V)} {k : κ} (e : ¬ p.1 = k) : valV (p :: r) k = valV r k := by simp [valV, List.find?_cons, e]
theorem valV_any (k : κ) : ∀ kvs : List (κ × V), (kvs.any fun kv => decide (kv.1 = k)) = (valV kvs k).isSome
  | [] => rfl
  | p :: r => by
    rw [List.any_cons]
    by_cases e : p.1 = k
    · simp only [valV_pos e, decide_eq_true e, Bool.true_or, Option.isSome_some]
    · rw [valV_neg e, decide_eq_false e, Bool.false_or]; exact valV_any k r
theorem valV_map (k j : κ) (y : V) : ∀ kvs : List (κ × V), valV (kvs.map fun kv => if kv.1 = k then (kv.1, y) else kv) j = (valV kvs j).map fun x => if j = k then y else x
  | [] => rfl
  | p :: r => by
    have ih := valV_map k j y r
    rw [List.map_cons]
    by_cases h : p.1 = k
    · rw [if_pos h]
      by_cases e : p.1 = j
      · rw [valV_pos (p := (p.1, y)) e, valV_pos e, Option.map_some, if_pos (e.symm.trans h)]
      · rw [valV_neg (p := (p.1, y)) e, valV_neg e, ih]
    · rw [if_neg h]
      by_cases e : p.1 = j
      · rw [valV_pos (p := p) e, valV_pos e, Option.map_some, if_neg (fun z => h (e.trans z))]
      · rw [valV_neg (p := p) e, valV_neg e, ih]
theorem valV_snoc (k j : κ) (y : V) : ∀ kvs : List (κ × V), valV kvs k = none → valV (kvs ++ [(k, y)]) j = if j = k then some y else valV kvs j
  | [], _ => by
    by_cases e : k = j
    · rw [if_pos e.symm]; exact valV_pos (p := (k, y)) e
    · rw [if_neg (fun z => e z.symm)]; exact valV_neg (p := (k, y)) e
  | p :: r, hn => by
    rw [List.cons_append]
    have hk : ¬ p.1 = k := fun z => by rw [valV_pos z] at hn; cases hn
    rw [valV_neg hk] at hn
    have ih := valV_snoc k j y r hn
    by_cases e : p.1 = j
    · rw [valV_pos e, valV_pos e, if_neg (fun z => hk (e.trans z))]
    · rw [valV_neg e, valV_neg e, ih]
theorem valV_put (kvs : List (κ × V)) (k j : κ) (y : V) : valV (putK kvs k y) j = if j = k then some y else valV kvs j := by
  unfold putK
  by_cases a : (kvs.any fun kv => decide (kv.1 = k)) = true
  · rw [if_pos a, valV_map]
    rw [valV_any] at a
    by_cases e : j = k
    · obtain ⟨x, hx⟩ := Option.isSome_iff_exists.mp a
      rw [if_pos e, e, hx, Option.map_some, if_pos rfl]
    · rw [if_neg e]
      cases valV kvs j with
      | none => rfl
      | some x => rw [Option.map_some, if_neg e]
  · rw [if_neg a]
    refine valV_snoc k j y kvs ?_
    rw [valV_any] at a
    cases q : valV kvs k with
    | none => rfl
    | some x => rw [q] at a; exact (a rfl).elim
theorem length_putK (kvs : List (κ × V)) (k : κ) (v : V) : (putK kvs k v).length ≤ kvs.length + 1 := by
  unfold putK
  split
  · rw [List.length_map]; omega
  · rw [List.length_append, List.length_cons, List.length_nil]; omega
theorem RelO.isSome_eq {o : Option V} {u : Option Value} (r : RelO o u) : o.isSome = u.isSome := by
  cases o with
  | none => cases u with
    | none => rfl
    | some _ => exact (show False from r).elim
  | some _ => cases u with
    | none => exact (show False from r).elim
    | some _ => rfl
theorem KV.val {kvs : List (κ × V)} {vs : List (κ × Value)} (r : KV kvs vs) (k : κ) : RelO (valV kvs k) (valueAt vs k) := by
  unfold KV at r
  induction r with
  | nil => exact True.intro
  | @cons p q ps qs h t ih =>
    obtain ⟨h1, h2⟩ := h
    by_cases e : p.1 = k
    · have e' : q.1 = k := h1.symm.trans e
      have b : valueAt (q :: qs) k = some q.2 := by simp [valueAt, List.find?_cons, e']
      rw [valV_pos e, b]; exact h2
    · have e' : ¬ q.1 = k := fun z => e (h1.trans z)
      have b : valueAt (q :: qs) k = valueAt qs k := by simp [valueAt, List.find?_cons, e']
      rw [valV_neg e, b]; exact ih
theorem KV.any {kvs : List (κ × V)} {vs : List (κ × Value)} (r : KV kvs vs) (k : κ) : (kvs.any fun kv => decide (kv.1 = k)) = vs.any fun kv => decide (kv.1 = k) := by
  unfold KV at r
  induction r with
  | nil => rfl
  | cons h t ih => rw [List.any_cons, List.any_cons, ih, h.1]
theorem KV.repl {kvs : List (κ × V)} {vs : List (κ × Value)} (r : KV kvs vs) (k : κ) {y : V} {u : Value} (ry : RelV y u) :
    KV (kvs.map fun kv => if kv.1 = k then (kv.1, y) else kv) (vs.map fun kv => if kv.1 = k then (kv.1, u) else kv) := by
  unfold KV at r ⊢
  induction r with
  | nil => exact .nil
  | @cons p q ps qs h t ih =>
    rw [List.map_cons, List.map_cons]
    refine .cons ?_ ih
    obtain ⟨h1, h2⟩ := h
    by_cases e : p.1 = k
    · rw [if_pos e, if_pos (h1.symm.trans e)]; exact ⟨h1, ry⟩
    · rw [if_neg e, if_neg (fun z => e (h1.trans z))]; exact ⟨h1, h2⟩
theorem KV.put {kvs : List (κ × V)} {vs : List (κ × Value)} (r : KV kvs vs) (k : κ) {y : V} {u : Value} (ry : RelV y u) : KV (putK kvs k y) (stored vs k u) := by
  unfold putK stored
  rw [r.any k]
  by_cases e : (vs.any fun kv => decide (kv.1 = k)) = true
  · rw [if_pos e, if_pos e]; exact r.repl k ry
  · rw [if_neg e, if_neg e]; exact Paired.snoc r ⟨rfl, ry⟩
theorem KV.length {kvs : List (κ × V)} {vs : List (κ × Value)} (r : KV kvs vs) : kvs.length = vs.length := Paired.length r
end
theorem kV_is {P : Program} {w : World} {k : Key} {u : Value} (r : RelV (kV k) u) : (mixKind P w).is k u = true := by
  cases k with
  | inl i => obtain ⟨t, e⟩ := (show ∃ t, u = Value.int i t from r); subst e; exact mixKind_int P w i t
  | inr x => obtain ⟨t, e⟩ := (show ∃ t, u = Value.str x t from r); subst e; exact mixKind_str P w x t
theorem items_are {P : Program} {w : World} : ∀ {ks : List Key} {us : List Value}, Vals (ks.map kV) us → ItemsAre (mixKind P w) ks us
  | [], _, r => by rw [List.map_nil] at r; cases r; exact .nil
  | k :: ks, _, r => by
    rw [List.map_cons] at r
    cases r with
    | cons h t => exact .cons (kV_is h) (items_are t)
abbrev KT (H : Hp) : List (List Key × V) → List (List Key × Addr × Value) → Prop := Paired fun p q => p.1 = q.1 ∧ H q.2.1 = some (.tup (p.1.map kV)) ∧ RelV p.2 q.2.2
theorem KT.val {H : Hp} {kvs : List (List Key × V)} {xs : List (List Key × Addr × Value)} (r : KT H kvs xs) (k : List Key) : RelO (valV kvs k) ((atKey xs k).map (·.2)) := by
  induction r with
  | nil => exact True.intro
  | @cons p q ps qs h t ih =>
    obtain ⟨h1, _, h2⟩ := h
    by_cases e : p.1 = k
    · have e' : q.1 = k := h1.symm.trans e
      have b : atKey (q :: qs) k = some q.2 := by simp [atKey, List.find?_cons, e']
      rw [valV_pos e, b]; exact h2
    · have e' : ¬ q.1 = k := fun z => e (h1.trans z)
      have b : atKey (q :: qs) k = atKey qs k := by simp [atKey, List.find?_cons, e']
      rw [valV_neg e, b]; exact ih
theorem KT.repl {H : Hp} {kvs : List (List Key × V)} {xs : List (List Key × Addr × Value)} (r : KT H kvs xs) (k : List Key) {y : V} {u : Value} (ry : RelV y u) :
    KT H (kvs.map fun kv => if kv.1 = k then (kv.1, y) else kv) (xs.map (putAt k u)) := by
  induction r with
  | nil => exact .nil
  | @cons p q ps qs h t ih =>
    rw [List.map_cons, List.map_cons]
    refine .cons ?_ ih
    obtain ⟨h1, h2, h3⟩ := h
    unfold putAt
    by_cases e : p.1 = k
    · rw [if_pos e, if_pos (h1.symm.trans e)]; exact ⟨h1, h2, ry⟩
    · rw [if_neg e, if_neg (fun z => e (h1.trans z))]; exact ⟨h1, h2, h3⟩
theorem KT.put {H : Hp} {kvs : List (List Key × V)} {xs : List (List Key × Addr × Value)} (r : KT H kvs xs) (k : List Key) {b : Addr} {y : V} {u : Value} (hb : H b = some (.tup (k.map kV))) (ry : RelV y u) :
    KT H (putK kvs k y) (storedH xs k b u) := by
  have e : (kvs.any fun kv => decide (kv.1 = k)) = (atKey xs k).isSome := by
    rw [valV_any, (r.val k).isSome_eq, Option.isSome_map]
  unfold putK storedH
  rw [e]
  by_cases q : (atKey xs k).isSome = true
  · rw [if_pos q, if_pos q]; exact r.repl k ry
  · rw [if_neg q, if_neg q]; exact Paired.snoc r ⟨rfl, hb, ry⟩
theorem KT.keeps {H H' : Hp} {kvs : List (List Key × V)} {xs : List (List Key × Addr × Value)} (r : KT H kvs xs) (ht : ∀ b ys, H b = some (.tup ys) → H' b = some (.tup ys)) : KT H' kvs xs :=
  Paired.mapP r fun _ _ z => ⟨z.1, ht _ _ z.2.1, z.2.2⟩
section
variable {P : Program} {w : World} {H : Hp} {h : Heap} {a : Addr}
theorem rd_of {u : HO} (ok : HOk P w H h) (e : Rd H a u) : ObjOk P w H h a u := e.ok ok
theorem dk_rd {kvs : List (Key × V)} (ok : HOk P w H h) (e : Rd H a (.dK kvs)) : kvs.length ≤ sizeLine ∧ (a == sysModules) = false ∧ ∃ vs, KV kvs vs ∧ h.DictOf (mixKind P w) a vs :=
  show ObjOk P w H h a (.dK kvs) from rd_of ok e
theorem dk_of {kvs : List (Key × V)} (ok : HOk P w H h) (e : H a = some (.dK kvs)) : kvs.length ≤ sizeLine ∧ (a == sysModules) = false ∧ ∃ vs, KV kvs vs ∧ h.DictOf (mixKind P w) a vs := dk_rd ok (.inl e)
theorem key_of {ks : List Key} (ok : HOk P w H h) (e : H a = some (.tup (ks.map kV))) : (tupleKind (mixKind P w)).is h ks a := by
  obtain ⟨_, its, r, o, h1, h2, n, h3⟩ := (show ObjOk P w H h a (.tup (ks.map kV)) from ok a _ e)
  exact ⟨o, its.toArray, n, h1, h2, h3, by simpa using items_are r⟩
theorem dt_rd {kvs : List (List Key × V)} (ok : HOk P w H h) (e : Rd H a (.dT kvs)) : kvs.length ≤ sizeLine ∧ (a == sysModules) = false ∧
    ∃ xs, KT H kvs xs ∧ h.DictOfH (tupleKind (mixKind P w)) a xs := by
  obtain ⟨z, y, xs, r, o, es, ep, h1, h2, h3, h4, h5⟩ := (show ObjOk P w H h a (.dT kvs) from rd_of ok e)
  refine ⟨z, y, xs, r, o, es, ep, h1, h2, h3, h4, fun x hx => ?_, h5⟩
  have all : ∀ {l : List (List Key × V)} {m : List (List Key × Addr × Value)}, KT H l m → ∀ x ∈ m, (tupleKind (mixKind P w)).is h x.1 x.2.1 := by
    intro l m q
    induction q with
    | nil => intro x hx; exact nomatch hx
    | @cons p q ps qs hq t ih =>
      intro x hx
      rcases List.mem_cons.mp hx with e | hx
      · subst e
        exact key_of ok (by rw [← hq.1]; exact hq.2.1)
      · exact ih x hx
  exact all r x hx
theorem dt_of {kvs : List (List Key × V)} (ok : HOk P w H h) (e : H a = some (.dT kvs)) : kvs.length ≤ sizeLine ∧ (a == sysModules) = false ∧
    ∃ xs, KT H kvs xs ∧ h.DictOfH (tupleKind (mixKind P w)) a xs := dt_rd ok (.inl e)
end
def DGet (H : Hp) (a : Addr) (y : V) (r : Option V) : Prop :=
  (∃ kvs k, Rd H a (.dK kvs) ∧ y = kV k ∧ r = valV kvs k) ∨ ∃ kvs k b, Rd H a (.dT kvs) ∧ y = .ref b ∧ H b = some (.tup (k.map kV)) ∧ r = valV kvs k
def DPut (H : Hp) (a : Addr) (y v : V) (H' : Hp) : Prop :=
  (∃ kvs k, H a = some (.dK kvs) ∧ y = kV k ∧ kvs.length < sizeLine ∧ H' = upd H a (.dK (putK kvs k v))) ∨
  ∃ kvs k b, H a = some (.dT kvs) ∧ y = .ref b ∧ H b = some (.tup (k.map kV)) ∧ kvs.length < sizeLine ∧ H' = upd H a (.dT (putK kvs k v))
theorem DGet.k {H : Hp} {a : Addr} {kvs : List (Key × V)} {k : Key} (e : H a = some (.dK kvs)) : DGet H a (kV k) (valV kvs k) := .inl ⟨kvs, k, .inl e, rfl, rfl⟩
theorem DGet.t {H : Hp} {a b : Addr} {kvs : List (List Key × V)} {k : List Key} (e : H a = some (.dT kvs)) (eb : H b = some (.tup (k.map kV))) : DGet H a (.ref b) (valV kvs k) := .inr ⟨kvs, k, b, .inl e, rfl, eb, rfl⟩
theorem DPut.k {H : Hp} {a : Addr} {kvs : List (Key × V)} {k : Key} {v : V} (e : H a = some (.dK kvs)) (hl : kvs.length < sizeLine) : DPut H a (kV k) v (upd H a (.dK (putK kvs k v))) := .inl ⟨kvs, k, e, rfl, hl, rfl⟩
theorem DPut.t {H : Hp} {a b : Addr} {kvs : List (List Key × V)} {k : List Key} {v : V} (e : H a = some (.dT kvs)) (eb : H b = some (.tup (k.map kV))) (hl : kvs.length < sizeLine) :
    DPut H a (.ref b) v (upd H a (.dT (putK kvs k v))) := .inr ⟨kvs, k, b, e, rfl, eb, hl, rfl⟩
section
variable {X : Cx} {pins : List (Addr × Obj)} {σ : St} {H : Hp} {s : Shared} {a : Addr} {y v : V} {u r : Value} {o : Option V} {A : Around} {E : Value → Shared → Prop}
theorem Inv.big (I : Inv X pins σ H s) : sysModules < s.heap.objs.size := by
  have h : mainGlobals < s.heap.objs.size := (I.mod.glob.keeps I.bk).lt
  exact Nat.lt_trans (by decide) h
theorem d_getItem {Q : Value → Shared → Prop} (hu : A.units + 1 < cLine) (I : Inv X pins σ H s) (g : DGet H a y (some v)) (ry : RelV y u) (h : ∀ w' s', Inv X pins σ H s' → RelV v w' → Q w' s') :
    wpAny (model X.prog X.w) A (getItem (.ref a) u) Q E s := by
  rcases g with ⟨kvs, k, e, ey, l⟩ | ⟨kvs, k, b, e, ey, eb, l⟩
  · subst ey
    obtain ⟨z, hd, vs, rel, dd⟩ := dk_rd I.hok e
    obtain ⟨w', hw, rw'⟩ := RelO.some_of (v := v) (o := valueAt vs k) (by rw [l]; exact rel.val k)
    exact wpAny_getItem_of (kV_is ry) dd.mapOf hw (h w' _ (I.tok _) rw')
  · subst ey
    cases (show u = Value.ref b from ry)
    obtain ⟨z, hd, xs, rel, dd⟩ := dt_rd I.hok e
    obtain ⟨w', hw, rw'⟩ := RelO.some_of (v := v) (o := (atKey xs k).map (·.2)) (by rw [l]; exact rel.val k)
    obtain ⟨p, hp, hp2⟩ := Option.map_eq_some_iff.mp hw
    refine wpAny_getItem_heap (tupleKind_room_in1 hu) (key_of I.hok eb) dd hp ?_
    rw [hp2]
    exact h w' _ (I.tok _) rw'
theorem d_in {Q : Value → Shared → Prop} (hu : A.units + 1 < cLine) (I : Inv X pins σ H s) (g : DGet H a y o) (ry : RelV y u) (h : ∀ s', Inv X pins σ H s' → Q (.bool o.isSome) s') :
    wpAny (model X.prog X.w) A (compareOp .In u (.ref a)) Q E s := by
  rcases g with ⟨kvs, k, e, ey, l⟩ | ⟨kvs, k, b, e, ey, eb, l⟩
  · subst ey
    obtain ⟨z, hd, vs, rel, dd⟩ := dk_rd I.hok e
    refine wpAny_in_of (kV_is ry) hd dd.mapOf ?_
    rw [← (rel.val k).isSome_eq, ← l]
    exact h _ (I.tok _)
  · subst ey
    cases (show u = Value.ref b from ry)
    obtain ⟨z, hd, xs, rel, dd⟩ := dt_rd I.hok e
    refine wpAny_in_heap (tupleKind_room_in1 hu) (key_of I.hok eb) hd dd ?_
    have q := (rel.val k).isSome_eq
    rw [Option.isSome_map] at q
    rw [← q, ← l]
    exact h _ (I.tok _)
theorem d_notIn {Q : Value → Shared → Prop} (hu : A.units + 1 < cLine) (I : Inv X pins σ H s) (g : DGet H a y o) (ry : RelV y u) (h : ∀ s', Inv X pins σ H s' → Q (.bool (!o.isSome)) s') :
    wpAny (model X.prog X.w) A (compareOp .NotIn u (.ref a)) Q E s := by
  rcases g with ⟨kvs, k, e, ey, l⟩ | ⟨kvs, k, b, e, ey, eb, l⟩
  · subst ey
    obtain ⟨z, hd, vs, rel, dd⟩ := dk_rd I.hok e
    refine wpAny_notIn_of (kV_is ry) hd dd.mapOf ?_
    rw [← (rel.val k).isSome_eq, ← l]
    exact h _ (I.tok _)
  · subst ey
    cases (show u = Value.ref b from ry)
    obtain ⟨z, hd, xs, rel, dd⟩ := dt_rd I.hok e
    refine wpAny_notIn_heap (tupleKind_room_in1 hu) (key_of I.hok eb) hd dd ?_
    have q := (rel.val k).isSome_eq
    rw [Option.isSome_map] at q
    rw [← q, ← l]
    exact h _ (I.tok _)
theorem d_write {h' : Heap} {t' : Nat} {ob : HO} (I : Inv X pins σ H s) (mu : Mut (H a)) (hs : Heap.SameBut a s.heap h') (he : ∃ q, h'.get? a = some q) (new : ObjOk X.prog X.w (upd H a ob) h' a ob) :
    Inv X pins σ (upd H a ob) { s with heap := h', toks := t' } :=
  I.write (x := a) (e := a) mu (.inl rfl) (fun b q hb z => (hs.2 b hb).trans z) he new
theorem dk_new {P : Program} {w : World} {H' : Hp} {h' : Heap} {kvs : List (Key × V)} {vs : List (Key × Value)} (z : kvs.length ≤ sizeLine) (hd : (a == sysModules) = false) (rel : KV kvs vs) (dd : h'.DictOf (mixKind P w) a vs) :
    ObjOk P w H' h' a (.dK kvs) := ⟨z, hd, vs, rel, dd⟩
theorem d_setItem {H' : Hp} {Q : Unit → Shared → Prop} (hu : A.units + 1 < cLine) (I : Inv X pins σ H s) (g : DPut H a y v H') (ry : RelV y u) (rv : RelV v r) (h : ∀ s', Inv X pins σ H' s' → Q () s') :
    wpAny (model X.prog X.w) A (setItem (.ref a) u r) Q E s := by
  rcases g with ⟨kvs, k, e, ey, l, eH⟩ | ⟨kvs, k, b, e, ey, eb, l, eH⟩
  · subst ey eH
    obtain ⟨z, hd, vs, rel, dd⟩ := dk_of I.hok e
    have hz : vs.length ≤ sizeLine := by rw [← rel.length]; exact z
    have hl : (putK kvs k v).length ≤ sizeLine := by have := length_putK kvs k v; omega
    refine wpAny_setItem_pairs (hsz := hz) (kV_is ry) dd fun h' dd' hs => h _ ?_
    have he : ∃ q, h'.get? a = some q := let ⟨q, _, _, hq, _⟩ := dd'; ⟨q, hq⟩
    exact d_write I (by rw [e]; exact True.intro) hs he (dk_new hl hd (rel.put k rv) dd')
  · subst ey eH
    cases (show u = Value.ref b from ry)
    obtain ⟨z, hd, xs, rel, dd⟩ := dt_of I.hok e
    have hz : xs.length ≤ sizeLine := by rw [← Paired.length rel]; exact z
    have hl : (putK kvs k v).length ≤ sizeLine := by have := length_putK kvs k v; omega
    refine wpAny_setItem_heap (hsz := hz) (tupleKind_room_in1 hu) (key_of I.hok eb) dd fun h' dd' hs => h _ ?_
    obtain ⟨q, es, ep, hq, h2, h3, h4, _, h5⟩ := dd'
    refine d_write I (by rw [e]; exact True.intro) hs ⟨q, hq⟩ ⟨hl, hd, _, (rel.put k eb rv).keeps fun c ys ec => ?_, q, es, ep, hq, h2, h3, h4, h5⟩
    rw [upd_ne (ne_of ec e (fun z => nomatch z))]
    exact ec
end
section
variable {X : Cx} {pins : List (Addr × Obj)} {σ : St} {H : Hp} {s : Shared} {a : Addr} {kvs : List (Key × V)} {k : Key} {u : Value} {A : Around} {E : Value → Shared → Prop}
end
def NoSl (i : Expr) : Prop := ∀ ov iv, subscripted i false ov iv = operate [ov, iv] (getItem ov iv)
theorem subD_of {prog : Program} {w : World} {A : Around} {E : Value → Shared → Prop} {s : Shared} {env : Env} {value slice : Expr} {pos : Pos} {T id : String} {Q : Value → Shared → Prop}
    (hl : typeLookup (.type T) "__getitem__" = pure (some (.builtin id))) (hs : NoSl slice)
    (h : wpAny (model prog w) A (eval value env) (fun o s₁ => wpAny (model prog w) A (eval slice env) (fun i s₂ => s₂.TypeIs o T ∧ wpAny (model prog w) A (getItem o i) Q E s₂) E s₁) E s) :
    wpAny (model prog w) A (eval (.Subscript value slice pos) env) Q E s := by
  refine Subscript_ (wpAny_mono h (fun o s₁ h₁ => wpAny_mono h₁ (fun i s₂ h₂ => ?_) fun _ _ x => x) fun _ _ x => x)
  obtain ⟨hT, h₂⟩ := h₂
  unfold subscriptTail
  refine wpAny_bind ?_
  rw [getitemInPython_of_ne hT.not_modules]
  refine wpAny_bind (wpAny_specialOf hT hl ?_)
  have fin : wpAny (model prog w) A (subscripted slice false o i) (fun r s₃ => wpAny (model prog w) A (letTemporaryGo value o r >>= fun _ => pure r) Q E s₃) E s₂ := by
    rw [hs o i]
    exact wpAny_operating (wpAny_mono h₂ (fun r s₃ h₃ => wpAny_bind (wpAny_letTemporaryGo (wpAny_pure h₃))) fun _ _ x => x)
  first
    | exact wpAny_pure (wpAny_bind fin)
    | exact wpAny_bind (wpAny_pure (wpAny_bind fin))
    | exact wpAny_bind fin
theorem dict_typeIs {X : Cx} {pins : List (Addr × Obj)} {σ : St} {H : Hp} {s : Shared} {a : Addr} {y : V} {o : Option V} (I : Inv X pins σ H s) (g : DGet H a y o) : s.TypeIs (.ref a) "dict" := by
  rcases g with ⟨kvs, k, e, _, _⟩ | ⟨kvs, k, b, e, _, _, _⟩
  · obtain ⟨_, _, vs, _, dd⟩ := dk_rd I.hok e
    exact dd.typeIs
  · obtain ⟨_, _, xs, _, dd⟩ := dt_rd I.hok e
    exact dd.typeIs
def tDGet (td ty : TE) : TE := fun σ H Q => td σ H fun x H1 => ty σ H1 fun y H2 => ∃ a v, x = .ref a ∧ DGet H2 a y (some v) ∧ Q v H2
def tDIn (ty td : TE) : TE := fun σ H Q => ty σ H fun y H1 => td σ H1 fun x H2 => ∃ a o, x = .ref a ∧ DGet H2 a y o ∧ Q (.bl o.isSome) H2
def tDNotIn (ty td : TE) : TE := fun σ H Q => ty σ H fun y H1 => td σ H1 fun x H2 => ∃ a o, x = .ref a ∧ DGet H2 a y o ∧ Q (.bl (!o.isSome)) H2
def sDPut (td ty tv : TE) : TS := fun D σ H => tv σ H fun v H1 => td σ H1 fun x H2 => ty σ H2 fun y H3 => ∃ a H4, x = .ref a ∧ DPut H3 a y v H4 ∧ D.nx σ H4
section
variable {X : Cx} {o i e value : Expr} {pos pos' tpos : Pos} {td ty tv : TE}
theorem pe_dget (hu : X.A.units + 1 < cLine) (ho : PE X o td) (hi : PE X i ty) (hs : NoSl i) : PE X (.Subscript o i pos) (tDGet td ty) := by
  intro pins s σ H Q I h
  refine subD_of PySem.F.slot_dict_getitem.lookup hs (thn (ho pins s σ H _ I h) fun u s1 ⟨x, H1, I1, rx, q1⟩ => thn (hi pins s1 σ H1 _ I1 q1) fun iv s2 ⟨y, H2, I2, ry, a, v, ex, g, q2⟩ => ?_)
  subst ex
  obtain rfl : u = Value.ref a := rx
  exact ⟨dict_typeIs I2 g, d_getItem hu I2 g ry fun w' s3 I3 rw' => ⟨v, H2, I3, rw', q2⟩⟩
theorem pc_din (hu : X.A.units + 1 < cLine) (hi : PE X i ty) (ho : PE X o td) : PC X .In i o (tDIn ty td) := by
  intro pins s σ H Q I h
  refine thn (hi pins s σ H _ I h) fun iv s1 ⟨y, H1, I1, ry, q1⟩ => thn (ho pins s1 σ H1 _ I1 q1) fun u s2 ⟨x, H2, I2, rx, a, ov, ex, g, q2⟩ => ?_
  subst ex
  obtain rfl : u = Value.ref a := rx
  exact d_in hu I2 g ry fun s3 I3 => ⟨.bl ov.isSome, H2, I3, rfl, q2⟩
theorem pc_dnotin (hu : X.A.units + 1 < cLine) (hi : PE X i ty) (ho : PE X o td) : PC X .NotIn i o (tDNotIn ty td) := by
  intro pins s σ H Q I h
  refine thn (hi pins s σ H _ I h) fun iv s1 ⟨y, H1, I1, ry, q1⟩ => thn (ho pins s1 σ H1 _ I1 q1) fun u s2 ⟨x, H2, I2, rx, a, ov, ex, g, q2⟩ => ?_
  subst ex
  obtain rfl : u = Value.ref a := rx
  exact d_notIn hu I2 g ry fun s3 I3 => ⟨.bl (!ov.isSome), H2, I3, rfl, q2⟩
theorem ps_dput (hu : X.A.units + 1 < cLine) (ho : PE X o td) (hi : PE X i ty) (hv : PE X value tv) (hs : swapsWith value (some (.Subscript o i pos')) pos.line X.env = pure false) :
    PS X (.Assign [.Subscript o i pos'] value pos) (sDPut td ty tv) := by
  intro pins s σ H D I h
  refine wpAny_Assign_Subscript (thn (hv pins s σ H _ I h) fun r s1 ⟨v, H1, I1, rv, q1⟩ => thn (ho pins s1 σ H1 _ I1 q1) fun u s2 ⟨x, H2, I2, rx, q2⟩ => thn (hi pins s2 σ H2 _ I2 q2) fun iv s3 ⟨y, H3, I3, ry, a, H4, ex, g, q3⟩ => ?_) hs
  subst ex
  obtain rfl : u = Value.ref a := rx
  exact d_setItem hu I3 g ry rv fun s4 I4 => ⟨σ, H4, I4, q3⟩
end
theorem dk_empty {P : Program} {w : World} {H : Hp} (h : Heap) (hb : sysModules < h.objs.size) : ObjOk P w H (h.push { cls := .type "dict", data := .dict #[] }) h.objs.size (.dK []) :=
  ⟨Nat.zero_le _, beq_eq_false_iff_ne.mpr (Ne.symm (Nat.ne_of_lt hb)), [], .nil, Heap.DictOf.new h⟩
theorem dt_empty {P : Program} {w : World} {H : Hp} (h : Heap) (hb : sysModules < h.objs.size) : ObjOk P w H (h.push { cls := .type "dict", data := .dict #[] }) h.objs.size (.dT []) :=
  ⟨Nat.zero_le _, beq_eq_false_iff_ne.mpr (Ne.symm (Nat.ne_of_lt hb)), [], .nil, _, #[], 0, Heap.get?_push_size _ rfl, ⟨rfl, rfl, rfl⟩, rfl, rfl, List.nodup_nil⟩
def tDNewK : TE := fun _ H Q => ∀ p, H p = none → Q (.ref p) (upd H p (.dK []))
def tDNewT : TE := fun _ H Q => ∀ p, H p = none → Q (.ref p) (upd H p (.dT []))
section
variable {X : Cx} {pos : Pos}
theorem pe_dnewK : PE X (.Dict [] [] pos) tDNewK := fun pins s σ H Q I h =>
  wpAny_Dict_empty ⟨.ref s.heap.objs.size, _, I.laid (a := s.heap.objs.size) (o := .dK []) (t' := s.toks) (fun _ _ q => Heap.get?_push_of_some _ q) (Nat.le_refl _) (dk_empty s.heap I.big), rfl, h _ (I.hok.fresh (Nat.le_refl _))⟩
theorem pe_dnewT : PE X (.Dict [] [] pos) tDNewT := fun pins s σ H Q I h =>
  wpAny_Dict_empty ⟨.ref s.heap.objs.size, _, I.laid (a := s.heap.objs.size) (o := .dT []) (t' := s.toks) (fun _ _ q => Heap.get?_push_of_some _ q) (Nat.le_refl _) (dt_empty s.heap I.big), rfl, h _ (I.hok.fresh (Nat.le_refl _))⟩
end
section
variable {X : Cx} {pins : List (Addr × Obj)} {σ : St} {H : Hp} {s : Shared} {a : Addr} {y d : V} {u r : Value} {o : Option V} {A : Around} {E : Value → Shared → Prop}
end
section
variable {X : Cx} {o e f : Expr} {apos cpos : Pos} {td ty tx : TE}
end
section
variable {X : Cx} {pins : List (Addr × Obj)} {σ : St} {H : Hp} {s : Shared} {a : Addr} {kvs : List (Key × V)} {A : Around} {E : Value → Shared → Prop}
end
section
variable {X : Cx} {pins : List (Addr × Obj)} {σ : St} {H : Hp} {s : Shared} {a : Addr} {y : V} {u : Value} {A : Around} {E : Value → Shared → Prop}
end
end L2
namespace Att
open PySem PySem.W PySem.Calls PyProof.Rows
section
variable {prog : Program} {w : World} {A : Around} {E : Value → Shared → Prop} {s : Shared} {K : Frag}
end
end Att
namespace L2
open PySem PySem.Spec PyProof.Rows
end L2
namespace L2
open PySem PySem.Spec PyProof.Rows
end L2
namespace L2
open PySem PySem.Spec PyProof.Rows
section
variable {P : Program} {w : World} {K : PySem.W.Frag} {mg : Str → Option Value} {base : Heap}
end
section
variable {X : Cx}
end
section
variable {κ : Type} [DecidableEq κ]
end
end L2

namespace L2
open PySem PySem.Spec PyProof.Rows
/-! ### a list comprehension of one clause without a test -/
/-- the cells that the block is handed -/
def clOf (env : Env) (fr : List (Str × Nat)) : List (Str × Addr) := fr.map fun p => (p.1, (env.cells.lookup p.1).getD 0)
/-- what the names from outside are worth -/
def frOf (fr : List (Str × Nat)) (σ : St) : St := fr.map fun p => (σ[p.2]?).join
/-- the context of the block -/
def cxComp (X : Cx) (scope : Scope) (fr : List (Str × Nat)) (x : Str) (C : Addr) (ex : List Addr) (s : Shared) (H : Hp) : Cx where
  prog := X.prog
  w := X.w
  K := X.K
  mg := X.mg
  base := X.base
  A := X.A
  N := x :: fr.map (·.1)
  s₀ := s
  H₀ := H
  env := compEnvC scope (clOf X.env fr) C X.env
  outer := X.stack
  stack := X.stack
  ex := ex
  fn := fun _ => false
  calm := X.calm
  pn := []
  xe := fun _ _ => False
/-- what the text must show of the block's names -/
structure CompOk (X : Cx) (scope : Scope) (fr : List (Str × Nat)) (x : Str) : Prop where
  clos : closureFor scope X.env = pure (clOf X.env fr)
  cell : ∀ y ∈ scope.names, y.2 ≠ .cell
  kind : scope.kind = .function
  names : ∀ y ∈ scope.names, y.2 = .local → scope.names.lookup y.1 = some .local
  xl : scope.names.lookup x = some .local
  nd : (x :: fr.map (·.1)).Nodup
  slot : ∀ p ∈ fr, X.N[p.2]? = some p.1 ∧ X.env.kindOf p.1 = some .cell
  has : ∀ y ∈ (relabel scope X.env).names, (y.2 = .cell ∨ y.2 = .free) → y.1 ∈ fr.map (·.1)
  frk : ∀ p ∈ fr, (relabel scope X.env).names.lookup p.1 = some .cell
theorem CompOk.plain {X : Cx} {scope : Scope} {x : Str} (clos : closureFor scope X.env = pure []) (cell : ∀ y ∈ scope.names, y.2 ≠ .cell) (kind : scope.kind = .function) (names : ∀ y ∈ scope.names, y.2 = .local → scope.names.lookup y.1 = some .local)
    (hx : scope.names.lookup x = some .local) (nf : ∀ y ∈ scope.names, y.2 ≠ .free) : CompOk X scope [] x where
  clos := clos
  cell := cell
  kind := kind
  names := names
  xl := hx
  nd := by simp
  slot := fun p hp => nomatch hp
  has := fun y hy hk => by
    obtain ⟨⟨n, k⟩, hz, e⟩ := List.mem_map.mp (show y ∈ scope.names.map _ from hy)
    have h1 := nf _ hz
    have h2 := cell _ hz
    dsimp only at e h1 h2
    have hf : (k == NameKind.free) = false := by simpa using h1
    rw [hf] at e
    simp only [Bool.false_and, Bool.false_eq_true, if_false] at e
    subst e
    exact (hk.elim h2 h1).elim
  frk := fun p hp => nomatch hp
theorem CompOk.one {X : Cx} {scope : Scope} {x y : Str} {j : Nat} (clos : closureFor scope X.env = pure (clOf X.env [(y, j)])) (cell : ∀ y ∈ scope.names, y.2 ≠ .cell) (kind : scope.kind = .function) (names : ∀ y ∈ scope.names, y.2 = .local → scope.names.lookup y.1 = some .local)
    (hx : scope.names.lookup x = some .local) (nd : ([x, y] : List Str).Nodup) (hN : X.N[j]? = some y) (hk : X.env.kindOf y = some .cell) (nf : ∀ z ∈ scope.names, z.2 = .free → z.1 = y) (hr : (relabel scope X.env).names.lookup y = some .cell) : CompOk X scope [(y, j)] x where
  clos := clos
  cell := cell
  kind := kind
  names := names
  xl := hx
  nd := nd
  slot := fun p hp => by
    have e : p = (y, j) := by simpa using hp
    subst e
    exact ⟨hN, hk⟩
  has := fun z hz hk => by
    obtain ⟨⟨n, k⟩, hm, e⟩ := List.mem_map.mp (show z ∈ scope.names.map _ from hz)
    have h2 := cell _ hm
    dsimp only at e h2
    have hn : z.1 = n := by rw [← e]; split <;> rfl
    have hf : k = .free := by
      by_cases q : k = .free
      · exact q
      · have hb : (k == NameKind.free) = false := by simpa using q
        rw [hb] at e
        simp only [Bool.false_and, Bool.false_eq_true, if_false] at e
        subst e
        exact (hk.elim h2 q).elim
    have := nf _ hm hf
    rw [hn]
    simp [← this]
  frk := fun p hp => by
    have e : p = (y, j) := by simpa using hp
    subst e
    exact hr
theorem lookup_map_fst {env : Env} : ∀ {fr : List (Str × Nat)} {y : Str} {c : Addr}, (clOf env fr).lookup y = some c → y ∈ fr.map (·.1) ∧ c = (env.cells.lookup y).getD 0
  | [], _, _, h => by cases h
  | p :: r, y, c, h => by
    unfold clOf at h
    rw [List.map_cons, List.lookup_cons] at h
    cases e : y == p.1 with
    | true =>
      rw [e] at h
      have ey : y = p.1 := eq_of_beq e
      cases h
      exact ⟨by rw [ey]; exact List.mem_cons_self, by rw [ey]⟩
    | false =>
      rw [e] at h
      obtain ⟨a, b⟩ := lookup_map_fst (env := env) (fr := r) h
      exact ⟨List.mem_cons_of_mem _ a, b⟩
theorem lookup_map_some {env : Env} : ∀ {fr : List (Str × Nat)} {y : Str}, y ∈ fr.map (·.1) → (clOf env fr).lookup y = some ((env.cells.lookup y).getD 0)
  | [], _, h => by cases h
  | p :: r, y, h => by
    unfold clOf
    rw [List.map_cons, List.lookup_cons]
    cases e : y == p.1 with
    | true =>
      have ey : y = p.1 := eq_of_beq e
      rw [ey]
    | false =>
      have ny : y ≠ p.1 := fun z => by rw [z] at e; simp at e
      rcases List.mem_cons.mp h with z | z
      · exact absurd z ny
      · exact lookup_map_some (env := env) (fr := r) z
section
variable {X : Cx} {pins : List (Addr × Obj)} {σ : St} {H : Hp} {s : Shared} {scope : Scope} {fr : List (Str × Nat)} {x : Str}
/-- a cell of the block is a cell of the body around -/
theorem CompOk.cells (O : CompOk X scope fr x) (I : Inv X pins σ H s) {y : Str} {c : Addr} (h : (clOf X.env fr).lookup y = some c) : X.env.cells.lookup y = some c := by
  obtain ⟨hm, e⟩ := lookup_map_fst h
  obtain ⟨p, hp, ep⟩ := List.mem_map.mp hm
  have k := (O.slot p hp).2
  rw [ep] at k
  obtain ⟨c', e'⟩ := I.ok.has y (.inl k)
  rw [e'] at e
  rw [e', e]
  rfl
/-- the state at the block's head -/
theorem inv_comp {fp : List Addr} (O : CompOk X scope fr x) (I : Inv X pins σ H s) (hf : ∀ b ∈ fp, FpOk X pins H b) (hfs : ∀ b ∈ fp, b < s.heap.objs.size) {g h' : Heap} {tk : Nat} (hg : g = s.heap.push (LCg.lst []))
    (hk : ∀ b o, g.get? b = some o → h'.get? b = some o) (hC : h'.Ns g.objs.size fun _ => none) :
    Inv (cxComp X scope fr x g.objs.size (s.heap.objs.size :: fp) { s with heap := g } H) (X.pn ++ pins ++ [(s.heap.objs.size, LCg.lst [])]) (none :: frOf fr σ) H { s with heap := h', toks := tk } := by
  have hsz : g.objs.size = s.heap.objs.size + 1 := by rw [hg, Heap.size_push]
  have kp : ∀ b o, s.heap.get? b = some o → g.get? b = some o := fun b o e => by rw [hg]; exact Heap.get?_push_of_some _ e
  have hk0 : ∀ b o, s.heap.get? b = some o → h'.get? b = some o := fun b o e => hk b o (kp b o e)
  have hDo : h'.get? s.heap.objs.size = some (LCg.lst []) := hk _ _ (by rw [hg]; exact Heap.get?_push_size _ rfl)
  have neC : ∀ b, b < s.heap.objs.size → b ≠ g.objs.size := fun b e => by rw [hsz]; exact Nat.ne_of_lt (Nat.lt_succ_of_lt e)
  have hDC : s.heap.objs.size ≠ g.objs.size := by rw [hsz]; exact Nat.ne_of_lt (Nat.lt_succ_self _)
  have hfr : H g.objs.size = none := I.hok.fresh (by rw [hsz]; exact Nat.le_succ _)
  have hfD : H s.heap.objs.size = none := I.hok.fresh (Nat.le_refl _)
  have cne : ∀ y c, X.env.cells.lookup y = some c → c < s.heap.objs.size := fun y c e => by
    obtain ⟨v, q⟩ := I.cell y c e
    exact q.lt
  have nst : ∀ b, b ≠ X.env.locals → b ∉ X.fs → b ∉ frs X.stack := fun b h1 h2 z => (List.mem_cons.mp (I.stkSub b z)).elim h1 h2
  have nstD : s.heap.objs.size ∉ frs X.stack := nst _ (Nat.ne_of_gt I.lt) (I.nofs (Nat.le_refl _))
  refine ⟨⟨I.ok.mod, O.kind, I.ok.glob, I.ok.blt, Nat.le_refl _, ?_, ?_, fun _ _ z _ => (by cases z), I.ok.hd, I.ok.frames, .inl rfl, ?_, ?_, ?_, ?_, ?_, ?_, I.stkFree⟩, rfl, I.bare, Un.kept hk, ?_, ?_, hfr, ?_, ?_, I.hok.kept hk0, ?_⟩
  · intro y z c h1 h2
    exact I.ok.inj y z c (O.cells I h1) (O.cells I h2)
  · intro y hy
    have hm : y ∈ fr.map (·.1) := by
      rcases hy with hy | hy
      · exact O.has (y, _) (PySem.mem_of_lookup hy) (.inl rfl)
      · exact O.has (y, _) (PySem.mem_of_lookup hy) (.inr rfl)
    exact ⟨_, lookup_map_some hm⟩
  · intro b hb
    rcases List.mem_cons.mp hb with rfl | hb
    · exact ⟨hDC, fun y c e => Nat.ne_of_lt (cne y c (O.cells I e))⟩
    · exact ⟨neC b (hfs b hb), fun y c e => (hf b hb).2.2.2.2.1 y c (O.cells I e)⟩
  · intro b o e
    exact ⟨kp b o (I.bs b o e).1, (I.bs b o e).2⟩
  · show X.base.objs.size ≤ g.objs.size
    rw [hsz]
    exact Nat.le_succ_of_le (Nat.le_trans I.ok.bsz I.sz)
  · intro b o e hb
    rcases List.mem_cons.mp hb with z | hb
    · have := Heap.lt_size (I.bs b o e).1
      rw [z] at this
      exact Nat.lt_irrefl _ this
    · rcases (hf b hb).2.2.2.1 with z | z
      · exact I.ok.noex b o e z
      · exact absurd (Nat.lt_of_lt_of_le (Heap.lt_size (I.ok.bs b o e).1) z) (Nat.lt_irrefl _)
  · intro b hb
    rcases List.mem_cons.mp hb with z | hb
    · rw [z]; exact nstD
    · exact nst b (hf b hb).2.1 (hf b hb).2.2.1
  · exact (I.kept (h' := g) (t' := s.toks) kp).stack
  · refine ⟨_, hC, fun i y v e1 e2 e3 => ?_⟩
    cases i with
    | zero => cases e2
    | succ k =>
      have e1' : (fr.map (·.1))[k]? = some y := e1
      have e2' : (frOf fr σ)[k]? = some (some v) := e2
      unfold frOf at e2'
      rw [List.getElem?_map] at e1' e2'
      cases q : fr[k]? with
      | none => rw [q] at e1'; cases e1'
      | some p =>
        rw [q] at e1' e2'
        have ey : p.1 = y := Option.some.inj e1'
        have ev : (σ[p.2]?).join = some v := Option.some.inj e2'
        have hp : p ∈ fr := List.mem_of_getElem? q
        obtain ⟨hN, hK⟩ := O.slot p hp
        have hkk := O.frk p hp
        rw [ey] at hN hK hkk
        have ev' : σ[p.2]? = some (some v) := by
          cases q2 : σ[p.2]? with
          | none => rw [q2] at ev; cases ev
          | some w => rw [q2] at ev; exact congrArg some ev
        obtain ⟨m, hn, hl⟩ := I.loc
        obtain ⟨u, r, l⟩ := hl p.2 y v hN ev' (.inr (.inl hK))
        refine ⟨u, r, ?_⟩
        rcases l with ⟨k1, _⟩ | ⟨_, c, ec, z⟩
        · rw [hK] at k1; cases k1
        · have hm : y ∈ fr.map (·.1) := by rw [← ey]; exact List.mem_map.mpr ⟨p, hp, rfl⟩
          have el := lookup_map_some (env := X.env) hm
          rw [ec] at el
          exact .inr ⟨.inl hkk, c, el, by obtain ⟨o, ho, hd⟩ := z; exact ⟨o, hk0 _ _ ho, hd⟩⟩
  · intro y c e
    obtain ⟨v, o, ho, hd⟩ := I.cell y c (O.cells I e)
    exact ⟨v, o, hk0 _ _ ho, hd⟩
  · intro y c e
    exact I.freeC y c (O.cells I e)
  · intro p hp
    rcases List.mem_append.mp hp with hp | hp
    · cases hp
    · rcases List.mem_append.mp hp with hp | hp
      · obtain ⟨e, n, ne, nf, d⟩ := I.pin p hp
        exact ⟨hk0 _ _ e, n, neC _ (Heap.lt_size e), nst _ ne nf, d⟩
      · have ep : p = (s.heap.objs.size, LCg.lst []) := by simpa using hp
        subst ep
        exact ⟨hDo, hfD, hDC, nstD, fun v z => by cases z⟩
  · show (none :: frOf fr σ).length = (x :: fr.map (·.1)).length
    unfold frOf
    simp
/-- from the block's end back to the body around: the list is tracked, the block's names at C may still change -/
theorem inv_comp_end {fp : List Addr} {g : Heap} {s' : Shared} {H' : Hp} {σ' : St} {ys : List V} {us : List Value} (I : Inv X pins σ H s) (hf : ∀ b ∈ fp, FpOk X pins H b) (hg : g = s.heap.push (LCg.lst []))
    (J : Inv (cxComp X scope fr x g.objs.size (s.heap.objs.size :: fp) { s with heap := g } H) (X.pn ++ pins ++ [(s.heap.objs.size, LCg.lst us)]) σ' H' s') (hv : Vals ys us) (hl : ys.length ≤ sizeLine) :
    Inv X pins σ (upd H' s.heap.objs.size (.lst ys)) s' ∧ H' s.heap.objs.size = none ∧ FpOk X pins (upd H' s.heap.objs.size (.lst ys)) g.objs.size ∧ ∃ m, s'.heap.Ns g.objs.size m := by
  have hsz : g.objs.size = s.heap.objs.size + 1 := by rw [hg, Heap.size_push]
  have kp : ∀ b o, s.heap.get? b = some o → g.get? b = some o := fun b o e => by rw [hg]; exact Heap.get?_push_of_some _ e
  obtain ⟨eD, nD, _, _, _⟩ := J.pin (s.heap.objs.size, LCg.lst us) (by simp)
  have hDC : g.objs.size ≠ s.heap.objs.size := by rw [hsz]; exact Nat.ne_of_gt (Nat.lt_succ_self _)
  have nD' : ∀ b u, H' b = some u → b ≠ s.heap.objs.size := fun b u e z => by rw [z] at e; rw [e] at nD; cases nD
  have hx : ∀ b o, s.heap.get? b = some o → b ∉ fp → b ∉ s.heap.objs.size :: fp := fun b o e hb z => by
    rcases List.mem_cons.mp z with z | z
    · have := Heap.lt_size e
      rw [z] at this
      exact Nat.lt_irrefl _ this
    · exact hb z
  have bU : Un (frs X.stack) (s.heap.objs.size :: fp) H H' g s'.heap := J.base
  have ltD : ∀ b o, s.heap.get? b = some o → b ≠ s.heap.objs.size := fun b o e => Nat.ne_of_lt (Heap.lt_size e)
  have un : Un (frs X.stack) fp H (upd H' s.heap.objs.size (.lst ys)) s.heap s'.heap := by
    refine ⟨fun b o e n hb he => bU.keep b o (kp b o e) n hb (hx b o e he), fun b o e n hb he => bU.slot b o (kp b o e) n hb (hx b o e he), fun b o e n he => ?_, fun b o e he => bU.there b o (kp b o e) (hx b o e he), fun b xs e => ?_, fun b o u e => ?_, fun b ps e => ?_⟩
    · rw [upd_ne (ltD b o e)]; exact bU.free b o (kp b o e) n (hx b o e he)
    · have q := bU.tups b xs e
      rw [upd_ne (nD' b _ q)]; exact q
    · have q := bU.frzs b o u e
      rw [upd_ne (nD' b _ q)]; exact q
    · obtain ⟨more, q⟩ := bU.tbls b ps e
      exact ⟨more, by rw [upd_ne (nD' b _ q)]; exact q⟩
  have hok : HOk X.prog X.w (upd H' s.heap.objs.size (.lst ys)) s'.heap := fun b u e => by
    by_cases hb : b = s.heap.objs.size
    · rw [hb, upd_same] at e
      cases e
      rw [hb]
      exact ⟨hl, us, us.length, hv, eD⟩
    · rw [upd_ne hb] at e
      exact (J.hok b u e).stay (fun c v _ q => q) (fun c q => by rw [upd_ne (nD' c _ q)]; exact q) fun c xs q => by rw [upd_ne (nD' c _ q)]; exact q
  have os : s'.os = s.os := J.os
  refine ⟨I.call' os un hok J.bare fun b hb => ⟨(hf b hb).2.2.2.1, (hf b hb).2.1, (hf b hb).2.2.2.2⟩, nD, ?_, ?_⟩
  · refine I.fpOk (H' := upd H' s.heap.objs.size (.lst ys)) (b := g.objs.size) (by rw [hsz]; exact Nat.le_succ _) ?_
    rw [upd_ne hDC]
    exact J.free
  · obtain ⟨m, hn, _⟩ := J.loc
    exact ⟨m, hn⟩
end
/-- the reading: W by the turn, a measure, the items so far, the heap -/
def tCompR (te : TE) (fv : St) (J : It) (H1 : Hp) (QQ : List V → Hp → Prop) : Prop :=
  ∃ W : Nat → Nat → List V → Hp → Prop, (∃ m, W 0 m [] H1) ∧ ∀ i m ys H, W i m ys H → ys.length ≤ sizeLine ∧
    ((J.stop i H ∧ QQ ys H) ∨ (J.go i H ∧ ∃ N : V → Hp → Prop, (∀ y H2, N y H2 → ∃ m', m' < m ∧ W (i + 1) m' (ys ++ [y]) H2) ∧ ∀ x H', J.yld i H x H' → te (some x :: fv) H' N))
section
variable {X : Cx} {scope : Scope} {fr : List (Str × Nat)} {x : Str} {elt iter : Expr} {px pos : Pos} {te : TE} {wi : TI}
theorem comp_core {pins : List (Addr × Obj)} {σ : St} {H : Hp} {s : Shared} {E : Value → Shared → Prop} {it : Addr} {fp : List Addr} {tn : Nat → Heap → Prop} {J : It} {RR : Value → Addr → Result → Shared → Prop} {QQ : List V → Hp → Prop} (hc : X.calm = true) (O : CompOk X scope fr x)
    (he : ∀ C ex s H, PE (cxComp X scope fr x C ex s H) elt te) (I : Inv X pins σ H s) (T : Turn X.prog X.w X.K (.Name x px) J fp it tn) (st : tn 0 s.heap) (hf : ∀ b ∈ fp, FpOk X pins H b) (hq : tCompR te (frOf fr σ) J H QQ)
    (fin : ∀ D C H4 ys s4 m, Inv X pins σ (upd H4 D (.lst ys)) s4 → H4 D = none → FpOk X pins (upd H4 D (.lst ys)) C → s4.heap.Ns C m → QQ ys H4 → RR (.ref D) C (.ok .next) s4) :
    wpAny (model X.prog X.w) X.A (newList []) (fun acc s₃ => wpAny (model X.prog X.w) X.A (newFunctionEnv scope X.env.globals (clOf X.env fr) [] X.env.qual none .none (some X.env)) (fun cenv s₄ =>
      codeAny (model X.prog X.w) X.A (.compStart (.ListComp elt [⟨.Name x px, iter, [], 0⟩] scope pos) 0 (.ref it) acc { cenv with scope := relabel scope X.env }) (RR acc cenv.locals) s₄) E s₃) E s := by
  obtain ⟨W, ⟨m0, w0⟩, turn⟩ := hq
  have hfs : ∀ b ∈ fp, b < s.heap.objs.size := fun b hb => by
    obtain ⟨o, e, _⟩ := T.obj 0 s.heap st b hb
    exact Heap.lt_size e
  refine wpAny_newObj_type (wpAny_newFunctionEnv O.cell (by intro y hy; simp at hy) (fun h₁ hns₁ hsb₁ => ?_) O.kind)
  dsimp only at hns₁ hsb₁ ⊢
  generalize hH2 : s.heap.push { cls := .type "list", dict := none, data := .seq ([] : List Value).toArray } = g at hns₁ hsb₁ ⊢
  have hg : g = s.heap.push (LCg.lst []) := hH2.symm
  have hsz : g.objs.size = s.heap.objs.size + 1 := by rw [hg, Heap.size_push]
  have hk : ∀ b o, g.get? b = some o → h₁.get? b = some o := fun b o e => hsb₁.extBut b o (Nat.ne_of_lt (Heap.lt_size e)) (Heap.get?_push_of_some _ e)
  have kp : ∀ b o, s.heap.get? b = some o → h₁.get? b = some o := fun b o e => hk b o (by rw [hg]; exact Heap.get?_push_of_some _ e)
  have J0 := inv_comp (h' := h₁) (tk := s.toks + ([] : List (Str × Value)).length) O I hf hfs hg hk hns₁
  have stat : ∀ {H' : Hp} {us : List Value}, (∀ b ∈ fp, H' b = none) → ∀ b ∈ fp, FpOk (cxComp X scope fr x g.objs.size (s.heap.objs.size :: fp) { s with heap := g } H) (X.pn ++ pins ++ [(s.heap.objs.size, LCg.lst us)]) H' b := fun {H' us} hn b hb => by
    obtain ⟨_, f1, f2, f3, f4, f5⟩ := hf b hb
    refine ⟨hn b hb, ?_, fun z => (List.mem_cons.mp (I.stkSub b z)).elim f1 f2, .inl (List.mem_cons_of_mem _ hb), fun y c e => f4 y c (O.cells I e), fun p hp => ?_⟩
    · show b ≠ g.objs.size
      rw [hsz]; exact Nat.ne_of_lt (Nat.lt_succ_of_lt (hfs b hb))
    · rcases List.mem_append.mp hp with hp | hp
      · cases hp
      · rcases List.mem_append.mp hp with hp | hp
        · exact f5 p hp
        · have ep : p = (s.heap.objs.size, LCg.lst us) := by simpa using hp
          rw [ep]
          exact Nat.ne_of_gt (hfs b hb)
  have loop : codeAny (model X.prog X.w) X.A (.compLoop (.ListComp elt [⟨.Name x px, iter, [], 0⟩] scope pos) 0 (.ref it) (.ref s.heap.objs.size) (compEnvC scope (clOf X.env fr) g.objs.size X.env))
      (RR (.ref s.heap.objs.size) g.objs.size) { s with heap := h₁, toks := s.toks + ([] : List (Str × Value)).length } := by
    refine codeAny_compLoop_tests (fun n s' => ∃ i ys us H', Inv (cxComp X scope fr x g.objs.size (s.heap.objs.size :: fp) { s with heap := g } H) (X.pn ++ pins ++ [(s.heap.objs.size, LCg.lst us)]) (none :: frOf fr σ) H' s' ∧ Vals ys us ∧ tn i s'.heap ∧ (∀ b ∈ fp, H' b = none) ∧ W i n ys H') ?_ m0
      ⟨0, [], [], H, J0, .nil, T.keep 0 s.heap h₁ st fun b _ o e => kp b o e, fun b hb => (hf b hb).1, w0⟩
    rintro n s3 ⟨i, ys, us, H3, J3, hv, st3, fr3, w3⟩
    obtain ⟨hlen, hh⟩ := turn i n ys H3 w3
    have none_err : ∀ {α : Type} {t : Sem α} {Q : α → Shared → Prop} {E' : Value → Shared → Prop} {s : Shared}, wpAny (model X.prog X.w) X.A t Q (fun _ _ => False) s → wpAny (model X.prog X.w) X.A t Q E' s := fun h => wpAny_mono h (fun _ _ q => q) fun _ _ z => z.elim
    rcases hh with ⟨stop, qn⟩ | ⟨go, N, hN, step⟩
    · refine none_err (thn (T.done (cxComp X scope fr x g.objs.size (s.heap.objs.size :: fp) { s with heap := g } H) rfl rfl rfl hc i _ s3 _ H3 _ J3 (stat fr3) st3 stop) fun r s4 ⟨hr, J4⟩ => ?_)
      subst hr
      obtain ⟨I4, nD, fC, m, hn⟩ := inv_comp_end I hf hg J4 hv hlen
      exact fin _ _ H3 ys s4 m I4 nD fC hn qn
    · refine none_err (thn (T.item (cxComp X scope fr x g.objs.size (s.heap.objs.size :: fp) { s with heap := g } H) rfl rfl rfl hc i _ s3 _ H3 _ J3 (stat fr3) st3 go) fun r s4 ⟨u, hr, h4⟩ => ?_)
      subst hr
      have h4' := wpAny_bind (f := fun _ => assign (.Name x px) (compEnvC scope (clOf X.env fr) g.objs.size X.env) u) (thn h4 (Q' := fun _ s5 => wpAny (model X.prog X.w) X.A (assign (.Name x px) (compEnvC scope (clOf X.env fr) g.objs.size X.env) u) (fun _ s6 => ∃ (σ6 : St) (H6 : Hp) (v : V) (s5' : Shared) (H5 : Hp), Inv (cxComp X scope fr x g.objs.size (s.heap.objs.size :: fp) { s with heap := g } H) (X.pn ++ pins ++ [(s.heap.objs.size, LCg.lst us)] ++ pinsAt fp s5'.heap) σ6 H6 s6 ∧ σ6 = some v :: frOf fr σ ∧ H6 = H5 ∧ J.yld i H3 v H5 ∧ tn (i + 1) s5'.heap) (fun _ _ => False) s5) fun _ s5 ⟨v, H5, J5, r5, y5, st5, fr5⟩ => by
        have J5' := J5.pinned (stat fr5) (T.obj _ _ st5)
        have hNd : (cxComp X scope fr x g.objs.size (s.heap.objs.size :: fp) { s with heap := g } H).N.Nodup := O.nd
        have hxl : (cxComp X scope fr x g.objs.size (s.heap.objs.size :: fp) { s with heap := g } H).env.scope.names.lookup x = some .local := lookup_relabel_local O.xl
        exact thn (pg_name (X := cxComp X scope fr x g.objs.size (s.heap.objs.size :: fp) { s with heap := g } H) (i := 0) hNd rfl (.inl hxl) (.inr hxl) _ s5 _ H5 v u (fun σ6 H6 => σ6 = some v :: frOf fr σ ∧ H6 = H5) J5' r5 ⟨rfl, rfl⟩) fun _ s6 ⟨σ6, H6, J6, e6, e7⟩ => ⟨σ6, H6, v, s5, H5, J6, e6, e7, y5, st5⟩)
      refine none_err (thn h4' fun _ s6 ⟨σ6, H6, v, s5, H5, J6, e6, e7, y5, st5⟩ => ?_)
      subst e6 e7
      refine wpAny_tests_nil ?_
      rw [if_pos rfl]
      refine none_err (thn (he _ _ _ _ _ s6 _ H6 _ J6 (step v H6 y5)) fun u7 s7 ⟨v7, H7, J7, r7, q7⟩ => ?_)
      obtain ⟨m', hm, w7⟩ := hN v7 H7 q7
      obtain ⟨eD, nD, dC, dF, dd⟩ := J7.pin (s.heap.objs.size, LCg.lst us) (List.mem_append_right _ (List.mem_append_left _ (List.mem_append_right _ (by simp))))
      have hvl := hv.length
      refine append_at (hsz := by show us.toArray.size ≤ sizeLine; rw [List.size_toArray, ← hvl]; exact hlen) eD fun h8 hs8 hD8 => ?_
      have pinD : ∀ p ∈ X.pn ++ pins, p.1 ≠ s.heap.objs.size := fun p hp z => by
        have := Heap.lt_size (I.pin p hp).1
        rw [z] at this
        exact Nat.lt_irrefl _ this
      have J7a : Inv (cxComp X scope fr x g.objs.size (s.heap.objs.size :: fp) { s with heap := g } H) (X.pn ++ pins) _ H7 s7 := J7.pins_of fun p hp => J7.pin p (List.mem_append_right _ (List.mem_append_left _ (List.mem_append_left _ hp)))
      have J8 : Inv (cxComp X scope fr x g.objs.size (s.heap.objs.size :: fp) { s with heap := g } H) (X.pn ++ pins) _ H7 { s7 with heap := h8 } := J7a.turned (t' := s7.toks) (fun b o hb e => (hs8.2 b hb).trans e) nD dC (.inl List.mem_cons_self) (fun y c e z => by
        obtain ⟨w', q⟩ := I.cell y c (O.cells I e)
        have := q.lt
        rw [z] at this
        exact Nat.lt_irrefl _ this) (fun p hp => (List.mem_append.mp hp).elim (fun z => by cases z) (pinD p))
      have J9 : Inv (cxComp X scope fr x g.objs.size (s.heap.objs.size :: fp) { s with heap := g } H) (X.pn ++ pins ++ [(s.heap.objs.size, LCg.lst (us ++ [u7]))]) _ H7 { s7 with heap := h8 } := J8.pins_of fun p hp => by
        rcases List.mem_append.mp hp with hp | hp
        · exact J8.pin p (List.mem_append_right _ hp)
        · have ep : p = (s.heap.objs.size, LCg.lst (us ++ [u7])) := by simpa using hp
          subst ep
          exact ⟨hD8.trans (congrArg some (LCg.lst_snoc us u7)), nD, dC, dF, fun v z => by cases z⟩
      have J10 := J9.weak (σ' := none :: frOf fr σ) rfl fun i v e => by
        cases i with
        | zero => cases e
        | succ k => exact e
      have pinF : ∀ b ∈ fp, ∀ o, s5.heap.get? b = some o → s7.heap.get? b = some o ∧ H7 b = none := fun b hb o e => by
        obtain ⟨q1, q2, _⟩ := J7.pin (b, o) (List.mem_append_right _ (List.mem_append_right _ (mem_pinsAt hb e)))
        exact ⟨q1, q2⟩
      refine ⟨m', hm, i + 1, ys ++ [v7], us ++ [u7], H7, J10, hv.append (.cons r7 .nil), T.keep _ _ _ st5 fun b hb o e => (hs8.2 b (Nat.ne_of_lt (hfs b hb))).trans (pinF b hb o e).1, fun b hb => ?_, w7⟩
      obtain ⟨o, e, _⟩ := T.obj _ _ st5 b hb
      exact (pinF b hb o e).2
  exact codeAny_compStart_list loop (T.self X.A 0 _ _ _ (T.keep 0 s.heap h₁ st fun b _ o e => kp b o e) loop)
/-- [elt for x in iter] -/
def tComp (wi : TI) (te : TE) (fr : List (Str × Nat)) : TE := fun σ H Q => wi σ H fun J H1 => tCompR te (frOf fr σ) J H1 fun ys H2 => ∀ D, H2 D = none → Q (.ref D) (upd H2 D (.lst ys))
theorem pe_comp (hc : X.calm = true) (O : CompOk X scope fr x) (hi : PI X (.Name x px) iter wi) (he : ∀ C ex s H, PE (cxComp X scope fr x C ex s H) elt te) (hs : ∀ x, foldedSetIterable iter X.env x = pure x := by intro _; rfl) :
    PE X (.ListComp elt [⟨.Name x px, iter, [], 0⟩] scope pos) (tComp wi te fr) := by
  intro pins s σ H Q I h
  rw [eval_ListComp]
  refine wpAny_comprehension_free (use := none) rfl hs O.clos O.kind O.names (thn (hi pins s σ H _ I h) fun xv s1 h1 => thn h1 fun itv s2 h2 => ?_)
  obtain ⟨it, fp, tn, J, H2, e, I2, T, st2, f2, q2⟩ := h2
  subst e
  refine comp_core (RR := fun acc C => compPost (model X.prog X.w) X.A X.xe none (EP X pins σ Q) acc C) hc O he I2 T st2 f2 q2 ?_
  intro D C H4 ys s4 m I4 nD fC hn q4
  refine ⟨m, hn, fun h' hs' => ?_⟩
  obtain ⟨g0, g1, g2, g3, g4, g5⟩ := fC
  exact ⟨.ref D, _, I4.turned (t' := s4.toks) (fun b o hb e => (hs'.2 b hb).trans e) g0 g1 g3 g4 g5, rfl, q4 D nD⟩
/-- y = [elt for x in iter], y a plain local name -/
def tAsgComp (i : Nat) (wi : TI) (te : TE) (fr : List (Str × Nat)) : TS := fun D σ H => wi σ H fun J H1 => tCompR te (frOf fr σ) J H1 fun ys H2 => ∀ a, H2 a = none → D.nx (σ.set i (some (.ref a))) (upd H2 a (.lst ys))
theorem ps_setComp {i : Nat} {y : Str} {py spos : Pos} (hc : X.calm = true) (hN : X.N.Nodup) (hi' : X.N[i]? = some y) (hy : X.env.scope.names.lookup y = some .local) (O : CompOk X scope fr x) (hi : PI X (.Name x px) iter wi) (he : ∀ C ex s H, PE (cxComp X scope fr x C ex s H) elt te)
    (hsw : swapsWith (.ListComp elt [⟨.Name x px, iter, [], 0⟩] scope pos) (some (.Name y py)) spos.line X.env = pure true := by rfl) (hs : ∀ x, foldedSetIterable iter X.env x = pure x := by intro _; rfl) :
    PS X (.Assign [.Name y py] (.ListComp elt [⟨.Name x px, iter, [], 0⟩] scope pos) spos) (tAsgComp i wi te fr) := by
  intro pins s σ H D I h
  rw [exec_Assign_Name_used _ _ _ _ hsw]
  refine wpAny_bind (wpAny_standAt (wpAny_bind ?_))
  show wpAny _ X.A (do let _ ← comprehension (.ListComp elt [⟨.Name x px, iter, [], 0⟩] scope pos) scope X.env _ (newList []) false (eval iter X.env) (some (assign (.Name y py) X.env))) _ _ s
  refine wpAny_bind (thn (wpAny_comprehension_free (use := some (assign (.Name y py) X.env)) (Q := fun _ s' => SP X pins D .next s') rfl hs O.clos O.kind O.names (thn (hi pins s σ H _ I h) fun xv s1 h1 => thn h1 fun itv s2 h2 => ?_)) fun _ s' hq => wpAny_pure (wpAny_pure hq))
  obtain ⟨it, fp, tn, J, H2, e, I2, T, st2, f2, q2⟩ := h2
  subst e
  refine comp_core (RR := fun acc C => compPost (model X.prog X.w) X.A X.xe (some (assign (.Name y py) X.env)) (fun _ s' => SP X pins D .next s') acc C) hc O he I2 T st2 f2 q2 ?_
  intro a C H4 ys s4 m I4 nD fC hn q4
  obtain ⟨g0, g1, g2, g3, g4, g5⟩ := fC
  obtain ⟨oC, eC, hoC⟩ := LCg.ns_obj hn
  have I5 : Inv X (pins ++ [(C, oC)]) σ (upd H4 a (.lst ys)) s4 := I4.pins_of fun p hp => by
    rcases List.mem_append.mp hp with hp | hp
    · exact I4.pin p (List.mem_append_right _ hp)
    · have ep : p = (C, oC) := by simpa using hp
      subst ep
      obtain ⟨es, epp, hd, _⟩ := hoC
      exact ⟨eC, g0, g1, g2, fun v z => by rw [hd] at z; cases z⟩
  show wpAny _ X.A (assign (.Name y py) X.env (.ref a)) _ _ _
  refine wpAny_assign_Name (store_ok I5 hN hi' (.inl hy) (v := .ref a) rfl (fun s6 I6 => ?_) (.inr hy))
  obtain ⟨e6, _⟩ := I6.pin (C, oC) (List.mem_append_right _ (List.mem_append_right _ (by simp)))
  refine ⟨m, hoC.ns e6, fun h' hs' => ?_⟩
  exact ⟨_, _, I6.unpinned.turned (t' := s6.toks) (fun b o hb e => (hs'.2 b hb).trans e) g0 g1 g3 g4 g5, q4 a nD⟩
end
/-! ### the forms one uses -/
/-- over a list that stays as it is -/
theorem comp_list {K : PySem.W.Frag} {a : Addr} {xs : List V} {te : TE} {fv : St} {H1 : Hp} {QQ : List V → Hp → Prop} (Pv : Nat → List V → Hp → Prop) (hz : xs.length ≤ sizeLine) (h0 : Pv 0 [] H1) (hl : ∀ i ys H, i ≤ xs.length → Pv i ys H → SqL K H a xs)
    (hs : ∀ i x ys H, xs[i]? = some x → Pv i ys H → te (some x :: fv) H fun y H2 => Pv (i + 1) (ys ++ [y]) H2) (hd : ∀ ys H, ys.length = xs.length → Pv xs.length ys H → QQ ys H)
    : tCompR te fv (Itl K a) H1 QQ := by
  refine ⟨fun i m ys H => m = xs.length - i ∧ i ≤ xs.length ∧ ys.length = i ∧ Pv i ys H, ⟨xs.length, by simp, Nat.zero_le _, rfl, h0⟩, ?_⟩
  rintro i m ys H ⟨rfl, hi, hy, p⟩
  have q := hl i ys H hi p
  refine ⟨by omega, ?_⟩
  by_cases hlt : i < xs.length
  · refine .inr ⟨⟨xs, xs[i], q, by simp [hlt]⟩, fun y H2 => Pv (i + 1) (ys ++ [y]) H2, fun y H2 p2 => ⟨xs.length - (i + 1), by omega, rfl, hlt, by rw [List.length_append, hy]; rfl, p2⟩, fun x H' y => ?_⟩
    obtain ⟨e, y⟩ := y
    subst e
    exact hs i x ys _ (y xs q) p
  · have e : i = xs.length := by omega
    subst e
    exact .inl ⟨⟨xs, q, Nat.le_refl _⟩, hd ys H hy p⟩
theorem comp_range {lo : Int} {n : Nat} {te : TE} {fv : St} {H1 : Hp} {QQ : List V → Hp → Prop} (Pv : Nat → List V → Hp → Prop) (hz : n ≤ sizeLine) (h0 : Pv 0 [] H1)
    (hs : ∀ i ys H, i < n → Pv i ys H → te (some (.int (lo + i)) :: fv) H fun y H2 => Pv (i + 1) (ys ++ [y]) H2) (hd : ∀ ys H, ys.length = n → Pv n ys H → QQ ys H)
    : tCompR te fv (Itr lo n) H1 QQ := by
  refine ⟨fun i m ys H => m = n - i ∧ i ≤ n ∧ ys.length = i ∧ Pv i ys H, ⟨n, by simp, Nat.zero_le _, rfl, h0⟩, ?_⟩
  rintro i m ys H ⟨rfl, hi, hy, p⟩
  refine ⟨by omega, ?_⟩
  by_cases hlt : i < n
  · refine .inr ⟨hlt, fun y H2 => Pv (i + 1) (ys ++ [y]) H2, fun y H2 p2 => ⟨n - (i + 1), by omega, rfl, hlt, by rw [List.length_append, hy]; rfl, p2⟩, fun x H' y => ?_⟩
    obtain ⟨e, y⟩ := y
    subst e y
    exact hs i ys _ hlt p
  · have e : i = n := by omega
    subst e
    exact .inl ⟨Nat.le_refl _, hd ys H hy p⟩
end L2

namespace L2
open PySem PySem.Spec PyProof.Rows
theorem bt_int : bootBuiltins "int" = some (.type "int") := by decide +kernel
theorem bt_bool : bootBuiltins "bool" = some (.type "bool") := by decide +kernel
theorem bt_list : bootBuiltins "list" = some (.type "list") := by decide +kernel
theorem bt_tuple : bootBuiltins "tuple" = some (.type "tuple") := by decide +kernel
theorem bt_len : bootBuiltins "len" = some (.builtin "len") := by decide +kernel
theorem bt_range : bootBuiltins "range" = some (.type "range") := by decide +kernel
theorem bt_isinstance : bootBuiltins "isinstance" = some (.builtin "isinstance") := by decide +kernel
theorem bt_reversed : bootBuiltins "reversed" = some (.type "reversed") := by decide +kernel
theorem bt_enumerate : bootBuiltins "enumerate" = some (.type "enumerate") := by decide +kernel
/-! ### a callee, all that a call asks -/
structure Cal (P : Program) (w : World) (K : PySem.W.Frag) (mg : Str → Option Value) (base : Heap) (k : Nat) (x : Str) (ps : List Str) (sp : Sp) (f : Addr) (fd : FuncData) : Prop where
  ok : FnOk P w K mg base CX0 k f fd ps sp
  bn : Binds K fd ps []
  mg : mg x = some (.ref f)
  kp : PySem.W.keepIn K (.ref f) = true
/-! ### a block by what one asks of it -/
theorem pss_imp {X : Cx} {sts : List Stmt} {t t2 : TS} (h : PSs X sts t) (i : ∀ D σ H, t2 D σ H → t D σ H) : PSs X sts t2 := fun pins s σ H D I q => h pins s σ H D I (i D σ H q)
/-! ### isinstance(x, c), c one class -/
section
variable {X : Cx}
def rIsi (K : PySem.W.Frag) : List V → Hp → VK → Prop := fun xs H Q => ∃ x c t b u, xs = [x, c] ∧ TyOf K H x t ∧ ((∃ n, c = .ty n ∧ u = Value.type n) ∨ ∃ a, c = .ref a ∧ u = Value.ref a) ∧ PySem.W.kitOne K t u = some b ∧ Q (.bl b) H
theorem call_isi : CallR X (.builtin "isinstance") (rIsi X.K) := by
  intro pins s σ H xs us Q I r h
  obtain ⟨x, c, t, b, u, rfl, ty, hu, e, q⟩ := h
  obtain ⟨v1, v2, rfl, r1, r2⟩ := vals2 r
  have e2 : v2 = u := by
    rcases hu with ⟨n, rfl, rfl⟩ | ⟨a, rfl, rfl⟩
    · exact r2
    · exact r2
  subst e2
  exact isinst_ok I r1 ty e fun tk => ⟨.bl b, H, I.tok tk, rfl, q⟩
theorem kit_ii (K : PySem.W.Frag) : PySem.W.kitOne K (.type "int") (.type "int") = some true := by with_unfolding_all rfl
theorem kit_ib (K : PySem.W.Frag) : PySem.W.kitOne K (.type "int") (.type "bool") = some false := by with_unfolding_all rfl
theorem kit_ll (K : PySem.W.Frag) : PySem.W.kitOne K (.type "list") (.type "list") = some true := by with_unfolding_all rfl
theorem kit_tt (K : PySem.W.Frag) : PySem.W.kitOne K (.type "tuple") (.type "tuple") = some true := by with_unfolding_all rfl
end
/-! ### == of two things that hold the same data: lists and tuples of ints, bools, texts, at any depth -/
inductive RdD (K : PySem.W.Frag) (H : Hp) : V → PyData → Prop where
  | non : RdD K H .non .none
  | bl (b : Bool) : RdD K H (.bl b) (.bool b)
  | int (i : Int) : RdD K H (.int i) (.int i)
  | lst {a : Addr} {xs : List V} {ds : List PyData} (h : SqL K H a xs) (hl : xs.length = ds.length) (r : ∀ (i : Nat) (x : V) (d : PyData), xs[i]? = some x → ds[i]? = some d → RdD K H x d) : RdD K H (.ref a) (.list ds)
  | tup {a : Addr} {xs : List V} {ds : List PyData} (h : SqT K H a xs) (hl : xs.length = ds.length) (r : ∀ (i : Nat) (x : V) (d : PyData), xs[i]? = some x → ds[i]? = some d → RdD K H x d) : RdD K H (.ref a) (.tuple ds)
theorem readsAll_of {h : Heap} : ∀ {xs : List V} {us : List Value} {ds : List PyData}, Vals xs us → xs.length = ds.length → (∀ (i : Nat) x d, xs[i]? = some x → ds[i]? = some d → ∀ u, RelV x u → ∃ as, Reads h u d as) → ∃ as, ReadsAll h us ds as
  | _, _, [], .nil, _, _ => ⟨_, .nil⟩
  | _, _, _ :: _, .nil, e, _ => by cases e
  | _, _, [], .cons _ _, e, _ => by cases e
  | _, _, d :: ds, .cons r rr, e, k => by
    obtain ⟨a1, q1⟩ := k 0 _ d rfl rfl _ r
    obtain ⟨a2, q2⟩ := readsAll_of rr (Nat.succ.inj e) fun i x d' e1 e2 => k (i + 1) x d' e1 e2
    exact ⟨_, .cons q1 q2⟩
section
variable {X : Cx}
theorem RdD.reads {pins : List (Addr × Obj)} {σ : St} {H : Hp} {s : Shared} (I : Inv X pins σ H s) {x : V} {d : PyData} (r : RdD X.K H x d) : ∀ u, RelV x u → ∃ as, Reads s.heap u d as := by
  induction r with
  | non => intro u hu; cases hu; exact ⟨_, .none⟩
  | bl b => intro u hu; cases hu; exact ⟨_, .bool b⟩
  | int i => intro u hu; obtain ⟨t, rfl⟩ := hu; exact ⟨_, .int i t⟩
  | lst h hl r ih =>
    intro u hu
    cases hu
    obtain ⟨its, rv, p, _⟩ := I.list h
    obtain ⟨as, q⟩ := readsAll_of (h := s.heap) rv hl ih
    obtain ⟨o, n, e, c, _, d⟩ := p
    exact ⟨_, .list e c d (by simpa using q)⟩
  | tup h hl r ih =>
    intro u hu
    cases hu
    obtain ⟨its, rv, p, _⟩ := I.tuple h
    obtain ⟨as, q⟩ := readsAll_of (h := s.heap) rv hl ih
    obtain ⟨o, e, c, n, d⟩ := p
    exact ⟨_, .tuple e c d (by simpa using q)⟩
def rSame (b : Bool) (K : PySem.W.Frag) : R2 := fun x y H Q => ∃ d, RdD K H x d ∧ RdD K H y d ∧ SeqAt.shaped d = true ∧ Q (.bl b) H
theorem op_neD (hu : X.A.units + 64 < cLine) : OpR X (compareOp .NotEq) (rSame false X.K) := by
  intro pins s σ H x y v u Q I rx ry h
  obtain ⟨d, r1, r2, hs, q⟩ := h
  obtain ⟨as, q1⟩ := r1.reads I v rx
  obtain ⟨bs, q2⟩ := r2.reads I u ry
  refine ne_dataH q1 q2 hs hs hu ?_
  rw [SeqAt.eqv_refl d (SeqAt.canLay_of_shaped hs)]
  exact ⟨.bl false, H, I, rfl, q⟩
end
/-! ### range(a, b, c), c above nought -/
def Itr3 (lo c : Int) (n : Nat) : It := ⟨fun i _ => i < n, fun i H x H' => H' = H ∧ x = .int (lo + i * c), fun i _ => n ≤ i⟩
theorem turn_range3 {P : Program} {w : World} {K : PySem.W.Frag} {tg : Expr} (it : Addr) (lo c : Int) (n : Nat) : Turn P w K tg (Itr3 lo c n) [it] it (fun i h => IsRangeIter h it (lo + (i : Nat) * c) ((n : Int) - (i : Nat)) c) where
  mem := by simp
  obj := fun i h st b hb => by
    have e : b = it := by simpa using hb
    subst e
    exact ⟨_, st, fun v z => by
      have z' : Data.fields _ = Data.cell v := z
      cases z'⟩
  keep := fun i h h' st k => k it (by simp) _ st
  item := by
    intro X hP hw hK hc i pins s σ H E I hf st hg
    subst hP hw hK
    obtain ⟨f0, f1, f2, f3, f4, f5⟩ := hf it (by simp)
    have W := Walks.range (prog := X.prog) (w := X.w) (I.ok.hd hc) it lo c n
    refine W.item i s _ _ hg st fun v h' tk hv st' kk => ?_
    obtain ⟨t, rfl⟩ := hv
    have I1 : Inv X pins σ H { s with heap := h', toks := tk } := I.turned (fun b o hb e => kk b o (by simpa using hb) e) f0 f1 f3 f4 f5
    exact ⟨_, rfl, go_of (s := { s with heap := h', toks := tk }) (n := "range_iterator") st' rfl rfl (by decide) ⟨.int (lo + i * c), H, I1, ⟨t, rfl⟩, ⟨rfl, rfl⟩, st', fun b hb => (hf b hb).1⟩⟩
  done := by
    intro X hP hw hK hc i pins s σ H E I hf st hg
    subst hP hw hK
    obtain ⟨f0, f1, f2, f3, f4, f5⟩ := hf it (by simp)
    exact wpAny_pyNext_range_end (I.ok.hd hc) st (by have : n ≤ i := hg; omega) fun h' eb => ⟨rfl, I.turned (t' := s.toks) (fun b o hb e => eb b o hb e) f0 f1 f3 f4 f5⟩
  self := fun _ _ _ _ _ st h => wpAny_pyIter_rangeiter st h
section
variable {X : Cx} {tg : Expr}
end
theorem for_range3 {lo c : Int} {n : Nat} {g : TG} {tb : TS} {D : Ends} {σ : St} {H : Hp} (Pv : Nat → St → Hp → Prop) (h0 : Pv 0 σ H)
    (hs : ∀ i σ H, i < n → Pv i σ H → g (.int (lo + i * c)) σ H fun σ2 H2 => tb { D with nx := Pv (i + 1), ct := Pv (i + 1), bk := D.nx } σ2 H2) (hd : ∀ σ H, Pv n σ H → D.nx σ H) :
    ∃ W : Nat → Nat → St → Hp → Prop, (∃ m, W 0 m σ H) ∧ ∀ i m σ H, W i m σ H →
      ((Itr3 lo c n).stop i H ∧ D.nx σ H) ∨ ((Itr3 lo c n).go i H ∧ ∃ N : St → Hp → Prop, (∀ σ' H', N σ' H' → ∃ m', m' < m ∧ W (i + 1) m' σ' H') ∧ ∀ x H', (Itr3 lo c n).yld i H x H' → g x σ H' fun σ2 H2 => tb { D with nx := N, ct := N, bk := D.nx } σ2 H2) := by
  refine ⟨fun i m σ H => m = n - i ∧ i ≤ n ∧ Pv i σ H, ⟨n, by simp, Nat.zero_le _, h0⟩, ?_⟩
  rintro i m σ H ⟨rfl, hi, p⟩
  by_cases hlt : i < n
  · refine .inr ⟨hlt, Pv (i + 1), fun σ' H' p' => ⟨n - (i + 1), by omega, rfl, hlt, p'⟩, fun x H' y => ?_⟩
    obtain ⟨e, y⟩ := y
    subst e y
    exact hs i σ _ hlt p
  · have e : i = n := by omega
    subst e
    exact .inl ⟨Nat.le_refl _, hd σ H p⟩
end L2

namespace L2
open PySem PySem.Spec PyProof.Rows
/-! ## exceptions of own classes: raised, passed on, caught -/
section
variable {P : Program} {w : World} {H : Hp} {h : Heap} {a : Addr} {o : HO}
end

section
variable {X : Cx} {pins : List (Addr × Obj)} {σ : St} {H H' : Hp} {s s' : Shared} {b : Addr}
end

section
variable {X : Cx} {pins : List (Addr × Obj)} {σ : St} {H : Hp} {s : Shared} {x : Addr} {C : Value} {E : Value → Shared → Prop}
end


section
variable {X : Cx} {k : Nat} {f C : Addr} {fd : FuncData} {ps : List Str} {sp : Sp} {dvs : List V} {ds : List Value} {W : WK} {x m : Str} {p pos apos : Pos} {e o : Expr} {es : List Expr} {ta : TE} {t : TA}
end
end L2

namespace L2
open PySem PySem.Spec PyProof.Rows
/-! ## exceptions, second part: raise, try, what was caught -/
section
variable {X : Cx} {pins : List (Addr × Obj)} {σ : St} {H : Hp} {s : Shared} {x : Addr} {C : Value}
end
section
variable {M : Model} {A : Around} {E : Value → Shared → Prop} {h : Heap} {g : Array GenState} {d : Drawn} {t : Nat} {os : OsState}
end
section
variable {X : Cx} {pins pins' : List (Addr × Obj)} {σ : St} {H : Hp} {s : Shared} {E : Value → Shared → Prop} {b : Addr}
end
section
variable {X : Cx} {k : Nat} {f : Addr} {fd : FuncData} {ps : List Str} {sp : Sp} {dvs : List V} {ds : List Value} {W : WK} {x : Str} {p pos : Pos} {e : Expr} {es : List Expr} {t : TA}
end
/-! ### isinstance of what was caught, of its very class -/
end L2
namespace L2
open PySem PySem.Spec PyProof.Rows
end L2

namespace L2
open PySem PySem.Spec PyProof.Rows
section
variable {prog : Program} {w : World} {A : Around} {E : Value → Shared → Prop} {s : Shared}
theorem lri_nolen : typeLookup (.type "list_reverseiterator") "__len__" = pure none := by rw [typeLookup_type, builtinLookup_eq_fast]; kernel_rfl
theorem lri_hint : typeLookup (.type "list_reverseiterator") "__length_hint__" = pure (some (.builtin "list_reverseiterator.__length_hint__")) := by rw [typeLookup_type, builtinLookup_eq_fast]; kernel_rfl
theorem hint_rev {r : Addr} {Q : Bool → Shared → Prop} (hT : s.TypeIs (.ref r) "list_reverseiterator") (h : Q false s) : wpAny (model prog w) A (Builtin.List.listLengthHint (.ref r)) Q E s := by
  unfold Builtin.List.listLengthHint
  refine wpAny_bind (wpAny_specialOf hT lri_nolen ?_)
  wp_delta
  refine wpAny_ite_split (fun hab => absurd hab (by decide)) (fun _ => ?_)
  refine wpAny_ite_split (fun hab => absurd hab (by decide)) (fun _ => ?_)
  refine wpAny_bind (wpAny_specialOf hT lri_hint ?_)
  generalize hid : ("list_reverseiterator.__length_hint__" : String) = id0
  wp_delta
  rw [show splitId id0 = some ("list_reverseiterator", "__length_hint__") from by subst hid; decide +kernel]
  subst hid
  refine wpAny_bind (wpAny_isInstance (T := "list_reverseiterator") (b := true) hT (by rw [isSubtype_type]; kernel_rfl) ?_)
  refine wpAny_ite_split (fun hab => absurd hab (by decide)) (fun _ => ?_)
  refine wpAny_ite_split (fun _ => ?_) (fun hab => absurd (by decide +kernel) hab)
  refine wpAny_ite_split (fun hab => absurd hab (by decide +kernel)) (fun _ => ?_)
  exact wpAny_pure h
end
end L2

namespace L2
open PySem PySem.Spec PyProof.Rows
section
variable {prog : Program} {w : World} {A : Around} {E : Value → Shared → Prop} {s : Shared}
theorem extend_rev {R : Result → Shared → Prop} {r l S : Addr} {items : Array Value} (hh : A.handled = none) (hit : s.heap.IsRevIter r l ((items.size : Int) - 1)) (hl : s.heap.IsList l items) (hSr : S ≠ r) (hSl : S ≠ l) (hrl : l ≠ r) (res : Value) (c0 : Nat)
    (hS : s.heap.get? S = some { cls := .type "list", data := .seq #[] c0 })
    (hR : ∀ h' tk acc' c', (∀ b o, b ≠ S → b ≠ r → s.heap.get? b = some o → h'.get? b = some o) → h'.get? S = some { cls := .type "list", dict := none, data := .seq acc' c', slots := #[] } → ItemsOf (fun i v => items[items.size - 1 - i]? = some v) acc' items.size → R (.ok (.ret res)) { s with heap := h', toks := tk }) (hn : items.size ≤ sizeLine) :
    wpAny (model prog w) A.in1 (Builtin.List.listExtendWith (.ref S) (.ref r) res)
      (fun fin s' => match fin with | .done f => R (.ok f) s' | .again c' => c'.quiet = true ∧ codeAny (model prog w) A c' R s') (fun e s' => R (.error e) s') s := by
  have W := Walks.listRev (prog := prog) (w := w) (A := A.in1) hh r l hrl items
  have hSf : S ∉ [r, l] := by simp only [List.mem_cons, List.not_mem_nil, or_false, not_or]; exact ⟨hSr, hSl⟩
  have key : ∀ (h : Heap) (c1 tk : Nat), (0 ≤ items.size ∧ h.IsRevIter r l ((items.size : Int) - 1 - ((0 : Nat) : Int)) ∧ h.IsList l items) → (∀ b o, b ≠ S → b ≠ r → s.heap.get? b = some o → h.get? b = some o) →
      h.get? S = some { cls := .type "list", data := .seq #[] c1 } → codeAny (model prog w) A (.builtin "list.extend.loop" ⟨[.ref S, .ref r, res], []⟩) R { s with heap := h, toks := tk } := by
    intro h c1 tk hst hk hS1
    refine codeAny_extend_loopS W.toS hn S hSf res items.size 0 _ #[] c1 rfl (Nat.zero_le _) hst hS1 (ItemsOf.nil _) fun s' acc' c' hm hS' hacc => ?_
    rw [Moved.eq_with hm]
    refine hR s'.heap s'.toks acc' c' (fun b o hb hbr e => hm.heap b o (fun hmem => ?_) (hk b o hb hbr e)) hS' hacc
    rcases List.mem_cons.mp hmem with e' | hmem
    · exact hb e'
    · exact hbr (List.mem_singleton.mp hmem)
  have hit0 : s.heap.IsRevIter r l ((items.size : Int) - 1 - ((0 : Nat) : Int)) := by
    have e : (items.size : Int) - 1 - ((0 : Nat) : Int) = (items.size : Int) - 1 := by omega
    rw [e]; exact hit
  unfold Builtin.List.listExtendWith
  refine wpAny_bind (wpAny_typeOf (T := "list_reverseiterator") hit.typeIs ?_)
  have h1 : Builtin.List.listSameRef (.ref S) (.ref r) = false := by simp [Builtin.List.listSameRef, hSr]
  have h2 : (Value.type "list_reverseiterator" == Value.type "list") = false := by decide
  have h3 : (Value.type "list_reverseiterator" == Value.type "tuple") = false := by decide
  simp only [h1, h2, h3, Bool.or_false, Bool.false_eq_true, if_false]
  refine wpAny_bind (wpAny_pyIter_revIter hit ?_)
  refine wpAny_bind (wpAny_holding (hint_rev hit.typeIs ?_))
  refine wpAny_ite_split (fun _ => ?_) (fun _ => wpAny_pure ⟨plainId_quiet PySem.F.plain_extend_loop _, key _ c0 _ ⟨Nat.zero_le _, hit0, hl⟩ (fun b o _ _ e => e) hS⟩)
  refine wpAny_bind (wpAny_rule ?_)
  refine wpAny_bind ?_
  show wpAny _ _ (updateSeq S (·.push .none) >>= fun _ => updateSeq S (·.pop)) _ _ _
  refine wpAny_bind (wpAny_updateSeq hS rfl ?_)
  have hS2 := Heap.get?_update_self (Obj.mapSeq (·.push Value.none)) hS rfl
  refine wpAny_updateSeq (hz := by seq_fits) hS2 rfl ?_
  have hS3 := Heap.get?_update_self (Obj.mapSeq (·.pop)) hS2 rfl
  have oth : ∀ b o, b ≠ S → s.heap.get? b = some o → ((s.heap.update S (Obj.mapSeq (·.push Value.none))).update S (Obj.mapSeq (·.pop))).get? b = some o := fun b o hb e => (Heap.get?_update_other _ _ (Ne.symm hb)).trans ((Heap.get?_update_other _ _ (Ne.symm hb)).trans e)
  refine wpAny_pure ⟨plainId_quiet PySem.F.plain_extend_loop _, key _ _ _ ⟨Nat.zero_le _, hit0.at fun o e => oth r o (Ne.symm hSr) e, hl.at fun o e => oth l o (Ne.symm hSl) e⟩ (fun b o hb _ e => oth b o hb e) hS3⟩
theorem init_rev {R : Result → Shared → Prop} {r l S : Addr} {items : Array Value} (hh : A.handled = none) (hit : s.heap.IsRevIter r l ((items.size : Int) - 1)) (hl : s.heap.IsList l items) (hSr : S ≠ r) (hSl : S ≠ l) (hrl : l ≠ r)
    (hS : s.heap.get? S = some { cls := .type "list", data := .seq #[] })
    (hR : ∀ h' tk acc' c', (∀ b o, b ≠ S → b ≠ r → s.heap.get? b = some o → h'.get? b = some o) → h'.get? S = some { cls := .type "list", dict := none, data := .seq acc' c', slots := #[] } → ItemsOf (fun i v => items[items.size - 1 - i]? = some v) acc' items.size → R (.ok (.ret .none)) { s with heap := h', toks := tk }) (hn : items.size ≤ sizeLine) :
    wpAny (model prog w) A.in1 (Builtin.«list.__init__» ⟨[.ref S, .ref r], []⟩)
      (fun fin s' => match fin with | .done f => R (.ok f) s' | .again c' => c'.quiet = true ∧ codeAny (model prog w) A c' R s') (fun e s' => R (.error e) s') s := by
  show wpAny _ _ (do let old ← Builtin.List.listItems (.ref S); Builtin.List.listUpdate (.ref S) (fun _ => #[]); letGo old.toList.reverse; Builtin.List.listExtendWith (.ref S) (.ref r) .none) _ _ s
  refine wpAny_bind ?_
  unfold Builtin.List.listItems
  refine wpAny_bind (wpAny_seqItems hS rfl (wpAny_pure ?_))
  show wpAny _ _ (updateSeq S (fun _ => #[]) >>= fun _ => letGo (#[] : Array Value).toList.reverse >>= fun _ => Builtin.List.listExtendWith (.ref S) (.ref r) .none) _ _ s
  refine wpAny_bind (wpAny_updateSeq hS rfl ?_)
  have hS2 := Heap.get?_update_self (Obj.mapSeq (fun _ => (#[] : Array Value))) hS rfl
  have oth : ∀ b o, b ≠ S → s.heap.get? b = some o → (s.heap.update S (Obj.mapSeq (fun _ => (#[] : Array Value)))).get? b = some o := fun b o hb e => (Heap.get?_update_other _ _ (Ne.symm hb)).trans e
  refine wpAny_bind (wpAny_letGo ?_)
  refine extend_rev hh (hit.at fun o e => oth r o (Ne.symm hSr) e) (hl.at fun o e => oth l o (Ne.symm hSl) e) hSr hSl hrl .none _ hS2 (fun h' tk acc' c' hk hS' hacc => ?_) hn
  exact hR h' tk acc' c' (fun b o hb hbr e => hk b o hb hbr (oth b o hb e)) hS' hacc
theorem list_of_rev {r l : Addr} {items : Array Value} {Q : Value → Shared → Prop} (hh : A.handled = none) (hit : s.heap.IsRevIter r l ((items.size : Int) - 1)) (hl : s.heap.IsList l items) (hrl : l ≠ r) (hn : items.size ≤ sizeLine)
    (hQ : ∀ h' tk acc' c', (∀ b o, b ≠ r → s.heap.get? b = some o → h'.get? b = some o) → h'.get? s.heap.objs.size = some { cls := .type "list", dict := none, data := .seq acc' c', slots := #[] } → ItemsOf (fun i v => items[items.size - 1 - i]? = some v) acc' items.size → Q (.ref s.heap.objs.size) { s with heap := h', toks := tk }) :
    wpAny (model prog w) A (call (.type "list") [.ref r]) Q E s := by
  refine callType_codes (Q₁ := fun obj s₁ => obj = .ref s.heap.objs.size ∧ s₁ = { s with heap := s.heap.push { cls := .type "list", data := .seq #[] } }) PySem.F.called_list (PySem.F.typeCall_list_1 _) PySem.F.entry_list_init
    (code_list_new _ ⟨rfl, rfl⟩) fun obj s₁ h₁ => ?_
  obtain ⟨rfl, rfl⟩ := h₁
  have hS : (s.heap.push { cls := .type "list", data := .seq #[] }).get? s.heap.objs.size = some { cls := .type "list", data := .seq #[] } := Heap.get?_push_size _ rfl
  have hr : r < s.heap.objs.size := let ⟨_, ho, _⟩ := hit; Heap.lt_size ho
  have hl' : l < s.heap.objs.size := let ⟨_, ho, _⟩ := hl; Heap.lt_size ho
  refine ⟨⟨_, hS, rfl⟩, PySem.F.args_list_init_2 _ _, init_rev (A := A.in1) hh (hit.at fun o e => Heap.get?_push_of_some _ e) (hl.push _) (Nat.ne_of_gt hr) (Nat.ne_of_gt hl') hrl hS (fun h' tk acc' c' hk hS' hacc => ?_) hn⟩
  exact ⟨rfl, hQ h' tk acc' c' (fun b o hb e => hk b o (Nat.ne_of_lt (Heap.lt_size e)) hb (Heap.get?_push_of_some _ e)) hS' hacc⟩
end
section
variable {X : Cx}
/-- an object of ours that lies there untracked is tracked from here on -/
theorem Inv.track {pins : List (Addr × Obj)} {σ : St} {H : Hp} {s : Shared} {a : Addr} {o : HO} (I : Inv X pins σ H s) (f : FpOk X pins H a) (new : ObjOk X.prog X.w (upd H a o) s.heap a o) : Inv X pins σ (upd H a o) s := by
  obtain ⟨f0, f1, f2, f3, f4, f5⟩ := f
  have ne : ∀ b u, H b = some u → b ≠ a := fun b u e => ne_of_none e f0
  refine I.step (g' := s.gens) (t' := s.toks) (d' := s.drawn) (h' := s.heap) (ch := [a]) (fun b hb => ?_) (fun b o _ _ _ e _ => e) (fun b o _ _ _ e _ => ⟨o.slots, e⟩) (fun b o hc e n => ?_) (fun b o _ e => ⟨o, e⟩) (fun b xs e => by rw [upd_ne (ne b _ e)]; exact e) (fun b o u e => by rw [upd_ne (ne b _ e)]; exact e)
    (fun b ps e => ⟨#[], by rw [upd_ne (ne b _ e), e]; simp⟩) (fun m hm => hm) (fun b u e => ?_) I.bare
  · have eb : b = a := by simpa using hb
    rw [eb]
    exact ⟨f3, f1, f4, f5⟩
  · rw [upd_ne (fun z => hc (by simp [z]))]
    exact n
  · by_cases hb : b = a
    · rw [hb, upd_same] at e
      cases e
      rw [hb]
      exact new
    · rw [upd_ne hb] at e
      exact (I.hok b u e).stay (fun c v _ q => q) (fun c q => by rw [upd_ne (ne c _ q)]; exact q) fun c xs q => by rw [upd_ne (ne c _ q)]; exact q
theorem vals_rev {ys : List V} {its : List Value} {acc : Array Value} (rv : Vals ys its) (h : ItemsOf (fun i v => its.toArray[its.toArray.size - 1 - i]? = some v) acc its.toArray.size) : Vals ys.reverse acc.toList := by
  have e : acc.toList = its.reverse := by
    apply List.ext_getElem?
    intro i
    by_cases hi : i < its.length
    · have hacc : i < acc.size := by rw [h.1]; simpa using hi
      have q := h.2 i acc[i] (Array.getElem?_eq_getElem hacc)
      rw [Array.getElem?_toList, Array.getElem?_eq_getElem hacc, List.getElem?_reverse hi, ← q]
      simp
    · rw [List.getElem?_eq_none (by rw [Array.length_toList, h.1]; simpa using hi), List.getElem?_eq_none (by rw [List.length_reverse]; omega)]
  rw [e]
  exact rv.reverse
/-- list(reversed(e)) -/
theorem pe_listrev {e : Expr} {te : TE} {p p2 pos pos2 : Pos} (hc : X.calm = true) (hg : Gl X "list") (hm : X.mg "list" = none) (hg2 : Gl X "reversed") (hm2 : X.mg "reversed" = none) (he : PE X e te)
    (h1 : starEach [.Call (.Name "reversed" p2) [e] [] pos2] X.env = [(false, eval (.Call (.Name "reversed" p2) [e] [] pos2) X.env)] := by rfl) (h2 : starEach [e] X.env = (false, eval e X.env) :: starEach [] X.env := by rfl) :
    PE X (.Call (.Name "list" p) [.Call (.Name "reversed" p2) [e] [] pos2] [] pos) (fun σ H Q => te σ H fun x H1 => ∃ l ys, x = .ref l ∧ SqL X.K H1 l ys ∧ ∀ q, H1 q = none → Q (.ref q) (upd H1 q (.lst ys.reverse))) := by
  intro pins s σ H Q I h
  refine wpAny_Call_Name_kw (ld_blt I hg hm bt_list ?_)
  refine PyProof.Rows.callWith_type1 ?_ h1 rfl
  rw [h1]
  refine Calls.spliced_cons ?_
  refine wpAny_Call_Name_kw (ld_blt I hg2 hm2 bt_reversed ?_)
  refine PyProof.Rows.callWith_type1 ?_ h2 rfl
  rw [h2]
  refine Calls.spliced_cons (thn (he pins s σ H _ I h) fun u s1 ⟨x, H1, I1, r1, q1⟩ => ?_)
  obtain ⟨l, ys, rfl, hq, q⟩ := q1
  cases r1
  refine Calls.spliced_nil ?_
  obtain ⟨its, rv, pl, hz⟩ := I1.list hq
  have hn : its.toArray.size = ys.length := by rw [List.size_toArray, rv.length]
  refine call_reversed_list pl.isList ?_
  refine Calls.spliced_nil ?_
  have hlt : l < s1.heap.objs.size := by
    obtain ⟨o, n, e1, _⟩ := pl
    exact Heap.lt_size e1
  have I2 : Inv X pins σ H1 { s1 with heap := s1.heap.push (revObj l ((its.toArray.size : Int) - 1)) } := I1.kept (t' := s1.toks) fun b o e => Heap.get?_push_of_some _ e
  have hit : (s1.heap.push (revObj l ((its.toArray.size : Int) - 1))).IsRevIter s1.heap.objs.size l ((its.toArray.size : Int) - 1) := ⟨_, Heap.get?_push_size _ rfl, rfl, rfl⟩
  refine list_of_rev (I.ok.hd hc) hit (pl.isList.push _) (Nat.ne_of_lt hlt) (by rw [hn]; exact hz) fun h' tk acc' c' hk hS hacc => ?_
  obtain ⟨f0, f1, f2, f3, f4, f5⟩ := I1.fpOk (H' := H1) (Nat.le_refl _) (I1.hok.fresh (Nat.le_refl _))
  have I3 : Inv X pins σ H1 { s1 with heap := h', toks := tk } := I2.turned (t' := tk) (fun b o hb e => hk b o hb e) f0 f1 f3 f4 f5
  have fS := I2.fpOk (H' := H1) (Nat.le_refl _) (I2.hok.fresh (Nat.le_refl _))
  have I4 := I3.track (o := .lst ys.reverse) fS ⟨by rw [List.length_reverse]; exact hz, acc'.toList, c', vals_rev rv hacc, by rw [Array.toArray_toList]; exact hS⟩
  exact ⟨.ref _, _, I4, rfl, q _ fS.1⟩
end
end L2

namespace L2
open PySem PySem.Spec PyProof.Rows
section
variable {X : Cx}
end
end L2

namespace L2
open PySem PySem.Spec PyProof.Rows
/-! ### several records of ours turned -/
theorem Inv.turnedL {X : Cx} {pins : List (Addr × Obj)} {σ : St} {H : Hp} {s : Shared} {h' : Heap} {t' : Nat} {fp : List Addr} (I : Inv X pins σ H s) (k : ∀ b o, b ∉ fp → s.heap.get? b = some o → h'.get? b = some o) (hf : ∀ b ∈ fp, FpOk X pins H b) : Inv X pins σ H { s with heap := h', toks := t' } := by
  have nit : ∀ b u, H b = some u → b ∉ fp := fun b u e z => by rw [(hf b z).1] at e; cases e
  refine I.step (g' := s.gens) (d' := s.drawn) (ch := fp) (fun b hb => ?_) (fun b o _ _ hc e _ => k b o hc e) (fun b o _ _ hc e _ => ⟨o.slots, k b o hc e⟩) (fun _ _ _ _ n => n)
    (fun b o hc e => ⟨o, k b o hc e⟩) (fun _ _ e => e) (fun _ _ _ e => e) (fun b ps e => ⟨#[], by rw [e]; simp⟩) (fun m hm => ?_) (fun b u e => ?_) I.bare
  · obtain ⟨f0, f1, f2, f3, f4, f5⟩ := hf b hb
    exact ⟨f3, f1, f4, f5⟩
  · obtain ⟨o, es, ep, ho, r⟩ := hm
    exact ⟨o, es, ep, k _ o (fun z => (hf _ z).2.1 rfl) ho, r⟩
  · refine (I.hok b u e).stay (fun c v hc q => k c v ?_ q) (fun _ q => q) fun _ _ q => q
    rcases hc with z | z
    · rw [z]; exact nit b u e
    · exact nit c _ z
/-! ### enumerate(list), walked by a pair of names -/
def Ite (K : PySem.W.Frag) (a : Addr) : It :=
  ⟨fun i H => ∃ xs x, SqL K H a xs ∧ xs[i]? = some x, fun i H v H' => ∃ T x, H T = none ∧ v = .ref T ∧ H' = upd H T (.tup [.int (i : Int), x]) ∧ ∀ xs, SqL K H a xs → xs[i]? = some x, fun i H => ∃ xs, SqL K H a xs ∧ xs.length ≤ i⟩
theorem turn_enum {P : Program} {w : World} {K : PySem.W.Frag} {es : List Expr} {k : Nat} {pos : Pos} (a e it : Addr) (hei : e ≠ it) : Turn P w K (.Tuple es k pos) (Ite K a) [e, it] e (fun i h => (∃ old, IsEnum h e it ((i : Nat) : Int) old) ∧ h.IsListIter it a i) where
  mem := by simp
  obj := fun i h st b hb => by
    obtain ⟨⟨old, he⟩, o, e2, c, d⟩ := st
    rcases List.mem_cons.mp hb with rfl | hb
    · exact ⟨_, he, fun v z => by
        have z' : Data.fields _ = Data.cell v := z
        cases z'⟩
    · have e3 : b = it := by simpa using hb
      subst e3
      exact ⟨o, e2, fun v z => by rw [d] at z; cases z⟩
  keep := fun i h h' st kk => by
    obtain ⟨⟨old, he⟩, hit⟩ := st
    exact ⟨⟨old, kk e (by simp) _ he⟩, hit.at fun o q => kk it (by simp) o q⟩
  item := by
    intro X hP hw hK hc i pins s σ H E I hf st hg
    subst hP hw hK
    obtain ⟨xs, x, hq, hx⟩ := hg
    obtain ⟨its, rv, p, hz⟩ := I.list hq
    obtain ⟨u, hu, ru⟩ := rv.get hx
    obtain ⟨⟨old, he⟩, hit⟩ := st
    refine wpAny_pyNext_enum_item he hit p.isList (x := u) (by simpa using hu) hei fun h' ho hit' hT hsz hk => ?_
    refine ⟨_, rfl, ?_⟩
    refine wpAny_letOwnedTupleGo_enum ho fun h2 he2 hs2 => ?_
    have hs2' : Heap.SameBut e h' h2 := hs2
    have hel : e < s.heap.objs.size := Heap.lt_size he
    have hil : it < s.heap.objs.size := by obtain ⟨_, q, _⟩ := hit; exact Heap.lt_size q
    have hfr : H s.heap.objs.size = none := I.hok.fresh (Nat.le_refl _)
    have I0 : Inv X pins σ (upd H s.heap.objs.size (.tup [.int (i : Int), x])) { s with heap := s.heap.push { cls := .type "tuple", data := .seq #[.int (i : Int) s.toks, u] }, toks := s.toks + 1 } :=
      I.laid (t' := s.toks + 1) (fun b u e => Heap.get?_push_of_some _ e) (Nat.le_refl _) ⟨by show 2 ≤ sizeLine; decide, [.int (i : Int) s.toks, u], .cons ⟨_, rfl⟩ (.cons ru .nil), ⟨_, Heap.get?_push_size _ rfl, rfl, _, rfl⟩⟩
    have hfb : ∀ b ∈ [e, it], b < s.heap.objs.size := fun b hb => by
      rcases List.mem_cons.mp hb with rfl | hb
      · exact hel
      · have e3 : b = it := by simpa using hb
        rw [e3]; exact hil
    have hn : ∀ b ∈ [e, it], upd H s.heap.objs.size (.tup [.int (i : Int), x]) b = none := fun b hb => by
      rw [upd_ne (Nat.ne_of_lt (hfb b hb))]
      exact (hf b hb).1
    have I2 : Inv X pins σ (upd H s.heap.objs.size (.tup [.int (i : Int), x])) { s with heap := h2, toks := s.toks + 1 } := Inv.turnedL (s := { s with heap := s.heap.push { cls := .type "tuple", data := .seq #[.int (i : Int) s.toks, u] }, toks := s.toks + 1 }) (h' := h2) I0 (t' := s.toks + 1) (fp := [e, it]) (fun b o hb q => by
      have nb : b ≠ e := fun z => hb (by simp [z])
      have nb2 : b ≠ it := fun z => hb (by simp [z])
      refine (hs2'.2 b nb).trans ?_
      rcases Heap.get?_push_cases q with ⟨z1, z2⟩ | q
      · rw [z1, z2]; exact hT
      · exact hk b o nb nb2 q) fun b hb => ⟨hn b hb, (hf b hb).2⟩
    refine ⟨.ref s.heap.objs.size, _, I2, rfl, ⟨s.heap.objs.size, x, hfr, rfl, rfl, fun ys hy => by rw [I.list_inj hy hq]; exact hx⟩, ?_, hn⟩
    refine ⟨⟨u, ?_⟩, hit'.at fun o q => (hs2'.2 it (Ne.symm hei)).trans q⟩
    have e4 : (((i + 1 : Nat) : Nat) : Int) = (i : Int) + 1 := by omega
    rw [e4]
    exact he2
  done := by
    intro X hP hw hK hc i pins s σ H E I hf st hg
    subst hP hw hK
    obtain ⟨xs, hq, hx⟩ := hg
    obtain ⟨its, rv, p, hz⟩ := I.list hq
    obtain ⟨⟨old, he⟩, hit⟩ := st
    have hl := rv.length
    obtain ⟨f0, f1, f2, f3, f4, f5⟩ := hf it (by simp)
    exact wpAny_pyNext_enum_end (I.ok.hd hc) he hit p.isList (by simp; omega) fun h' eb => ⟨rfl, I.turned (t' := s.toks) (fun b o hb e => eb b o hb e) f0 f1 f3 f4 f5⟩
  self := fun _ _ _ _ _ st h => by
    obtain ⟨⟨old, he⟩, _⟩ := st
    exact wpAny_pyIter_enum he h
section
variable {X : Cx}
def iEnum (K : PySem.W.Frag) (ta : TA) : TI := fun σ H R => ta σ H fun vs H1 => ∃ a, vs = [.ref a] ∧ (∃ xs, SqL K H1 a xs) ∧ R (Ite K a) H1
theorem pi_enum {l : Expr} {ta : TA} {es : List Expr} {k : Nat} {tp p pos : Pos} (hg : Gl X "enumerate") (hm : X.mg "enumerate" = none) (ha : PA X [l] ta) (hs : starEach [l] X.env = [(false, eval l X.env)] := by rfl) :
    PI X (.Tuple es k tp) (.Call (.Name "enumerate" p) [l] [] pos) (iEnum X.K ta) := by
  intro pins s σ H R I h
  refine Call_ (ld_blt I hg hm bt_enumerate (PyProof.Rows.callWith_type1 (thn (ha pos pins s σ H _ I h) fun us s1 ⟨vs, H1, I1, r1, q1⟩ => ?_) hs rfl))
  obtain ⟨a, e, ⟨xs, hq⟩, q⟩ := q1
  subst e
  obtain ⟨u, rfl, ru⟩ := vals1 r1
  cases ru
  obtain ⟨its, rv, p, hz⟩ := I1.list hq
  refine call_enumerate_list p.isList fun h' he hit hsz hk => ?_
  refine wpAny_pyIter_enum he ?_
  refine ⟨s1.heap.objs.size + 1, [s1.heap.objs.size + 1, s1.heap.objs.size], _, _, H1, rfl, I1.kept (t' := s1.toks) hk, turn_enum a _ _ (Nat.succ_ne_self _), ⟨⟨_, he⟩, hit⟩, fun b hb => ?_, q⟩
  have hb' : s1.heap.objs.size ≤ b := by
    rcases List.mem_cons.mp hb with rfl | hb
    · exact Nat.le_succ _
    · have e3 : b = s1.heap.objs.size := by simpa using hb
      rw [e3]; exact Nat.le_refl _
  exact I1.fpOk hb' (I1.hok.fresh hb')
end
theorem for_enum {K : PySem.W.Frag} {a : Addr} {xs : List V} {g : TG} {tb : TS} {D : Ends} {σ : St} {H : Hp} (Pv : Nat → St → Hp → Prop) (h0 : Pv 0 σ H) (hl : ∀ i σ H, i ≤ xs.length → Pv i σ H → SqL K H a xs)
    (hs : ∀ i x σ H T, xs[i]? = some x → Pv i σ H → H T = none → g (.ref T) σ (upd H T (.tup [.int (i : Int), x])) fun σ2 H2 => tb { D with nx := Pv (i + 1), ct := Pv (i + 1), bk := D.nx } σ2 H2) (hd : ∀ σ H, Pv xs.length σ H → D.nx σ H) :
    ∃ W : Nat → Nat → St → Hp → Prop, (∃ m, W 0 m σ H) ∧ ∀ i m σ H, W i m σ H →
      ((Ite K a).stop i H ∧ D.nx σ H) ∨ ((Ite K a).go i H ∧ ∃ N : St → Hp → Prop, (∀ σ' H', N σ' H' → ∃ m', m' < m ∧ W (i + 1) m' σ' H') ∧ ∀ x H', (Ite K a).yld i H x H' → g x σ H' fun σ2 H2 => tb { D with nx := N, ct := N, bk := D.nx } σ2 H2) := by
  refine ⟨fun i m σ H => m = xs.length - i ∧ i ≤ xs.length ∧ Pv i σ H, ⟨xs.length, by simp, Nat.zero_le _, h0⟩, ?_⟩
  rintro i m σ H ⟨rfl, hi, p⟩
  have q := hl i σ H hi p
  by_cases hlt : i < xs.length
  · refine .inr ⟨⟨xs, xs[i], q, by simp [hlt]⟩, Pv (i + 1), fun σ' H' p' => ⟨xs.length - (i + 1), by omega, rfl, hlt, p'⟩, fun v H' y => ?_⟩
    obtain ⟨T, x, hT, rfl, rfl, y⟩ := y
    exact hs i x σ _ T (y xs q) p hT
  · have e : i = xs.length := by omega
    subst e
    exact .inl ⟨⟨xs, q, Nat.le_refl _⟩, hd σ H p⟩
end L2
namespace L2
open PySem PySem.Spec PyProof.Rows
section
variable {X : Cx}
end
end L2
namespace L2
open PySem PySem.Spec PyProof.Rows
theorem canLayAll_of : ∀ {ds : List PyData}, (∀ d ∈ ds, d.canLay0 = true) → PyData.canLayAll0 ds = true
  | [], _ => by simp [PyData.canLayAll0]
  | d :: ds, h => by
    rw [PyData.canLayAll0, h d (by simp), canLayAll_of fun x hx => h x (by simp [hx])]
    rfl
theorem depthAll_of {n : Nat} : ∀ {ds : List PyData}, (∀ d ∈ ds, d.depth ≤ n) → PyData.depthAll ds ≤ n
  | [], _ => by simp [PyData.depthAll]
  | d :: ds, h => by
    have h1 := h d (by simp)
    have h2 := depthAll_of (ds := ds) fun x hx => h x (List.mem_cons_of_mem _ hx)
    rw [PyData.depthAll]
    omega
theorem shaped_flat {ds : List PyData} (h : ∀ d ∈ ds, d.canLay0 = true ∧ d.depth ≤ 10) : SeqAt.shaped (.list ds) = true := by
  have h1 := canLayAll_of fun d hd => (h d hd).1
  have h2 := depthAll_of fun d hd => (h d hd).2
  have h3 : PyData.depth (.list ds) ≤ 64 := by simp only [PyData.depth]; omega
  show (PyData.canLay0 (.list ds) && decide (PyData.depth (.list ds) ≤ 64)) = true
  rw [Bool.and_eq_true]
  exact ⟨by simp only [PyData.canLay0]; exact h1, decide_eq_true h3⟩
end L2

namespace L2
open PySem PySem.Spec PyProof.Rows
/-! ### a list comprehension of one clause, by names or a tuple of names, with or without a test -/
def cxG (X : Cx) (scope : Scope) (fr : List (Str × Nat)) (xs : List Str) (C : Addr) (ex : List Addr) (s : Shared) (H : Hp) : Cx where
  prog := X.prog
  w := X.w
  K := X.K
  mg := X.mg
  base := X.base
  A := X.A
  N := xs ++ fr.map (·.1)
  s₀ := s
  H₀ := H
  env := compEnvC scope (clOf X.env fr) C X.env
  outer := X.stack
  stack := X.stack
  ex := ex
  fn := fun _ => false
  calm := X.calm
  pn := []
  xe := fun _ _ => False
structure CompG (X : Cx) (scope : Scope) (fr : List (Str × Nat)) (xs : List Str) : Prop where
  clos : closureFor scope X.env = pure (clOf X.env fr)
  cell : ∀ y ∈ scope.names, y.2 ≠ .cell
  kind : scope.kind = .function
  names : ∀ y ∈ scope.names, y.2 = .local → scope.names.lookup y.1 = some .local
  slot : ∀ p ∈ fr, X.N[p.2]? = some p.1 ∧ X.env.kindOf p.1 = some .cell
  has : ∀ y ∈ (relabel scope X.env).names, (y.2 = .cell ∨ y.2 = .free) → y.1 ∈ fr.map (·.1)
  frk : ∀ p ∈ fr, (relabel scope X.env).names.lookup p.1 = some .cell
theorem CompG.of {X : Cx} {scope : Scope} {fr : List (Str × Nat)} {xs : List Str} (clos : closureFor scope X.env = pure (clOf X.env fr)) (cell : ∀ y ∈ scope.names, y.2 ≠ .cell) (kind : scope.kind = .function) (names : ∀ y ∈ scope.names, y.2 = .local → scope.names.lookup y.1 = some .local)
    (slot : ∀ p ∈ fr, X.N[p.2]? = some p.1 ∧ X.env.kindOf p.1 = some .cell) (nf : ∀ z ∈ scope.names, z.2 = .free → z.1 ∈ fr.map (·.1)) (frk : ∀ p ∈ fr, (relabel scope X.env).names.lookup p.1 = some .cell) : CompG X scope fr xs where
  clos := clos
  cell := cell
  kind := kind
  names := names
  slot := slot
  has := fun z hz hk => by
    obtain ⟨⟨n, k⟩, hm, e⟩ := List.mem_map.mp (show z ∈ scope.names.map _ from hz)
    have h2 := cell _ hm
    dsimp only at e h2
    have hn : z.1 = n := by rw [← e]; split <;> rfl
    have hf : k = .free := by
      by_cases q : k = .free
      · exact q
      · have hb : (k == NameKind.free) = false := by simpa using q
        rw [hb] at e
        simp only [Bool.false_and, Bool.false_eq_true, if_false] at e
        subst e
        exact (hk.elim h2 q).elim
    have := nf _ hm hf
    rw [hn]
    exact this
  frk := frk
/-- nothing yet -/
abbrev nons (xs : List Str) : St := List.replicate xs.length none
section
variable {X : Cx} {pins : List (Addr × Obj)} {σ : St} {H : Hp} {s : Shared} {scope : Scope} {fr : List (Str × Nat)} {xs : List Str}
theorem CompG.cells (O : CompG X scope fr xs) (I : Inv X pins σ H s) {y : Str} {c : Addr} (h : (clOf X.env fr).lookup y = some c) : X.env.cells.lookup y = some c := by
  obtain ⟨hm, e⟩ := lookup_map_fst h
  obtain ⟨p, hp, ep⟩ := List.mem_map.mp hm
  have k := (O.slot p hp).2
  rw [ep] at k
  obtain ⟨c', e'⟩ := I.ok.has y (.inl k)
  rw [e'] at e
  rw [e', e]
  rfl
theorem inv_compG {fp : List Addr} (O : CompG X scope fr xs) (I : Inv X pins σ H s) (hf : ∀ b ∈ fp, FpOk X pins H b) (hfs : ∀ b ∈ fp, b < s.heap.objs.size) {g h' : Heap} {tk : Nat} (hg : g = s.heap.push (LCg.lst []))
    (hk : ∀ b o, g.get? b = some o → h'.get? b = some o) (hC : h'.Ns g.objs.size fun _ => none) :
    Inv (cxG X scope fr xs g.objs.size (s.heap.objs.size :: fp) { s with heap := g } H) (X.pn ++ pins ++ [(s.heap.objs.size, LCg.lst [])]) (nons xs ++ frOf fr σ) H { s with heap := h', toks := tk } := by
  have hsz : g.objs.size = s.heap.objs.size + 1 := by rw [hg, Heap.size_push]
  have kp : ∀ b o, s.heap.get? b = some o → g.get? b = some o := fun b o e => by rw [hg]; exact Heap.get?_push_of_some _ e
  have hk0 : ∀ b o, s.heap.get? b = some o → h'.get? b = some o := fun b o e => hk b o (kp b o e)
  have hDo : h'.get? s.heap.objs.size = some (LCg.lst []) := hk _ _ (by rw [hg]; exact Heap.get?_push_size _ rfl)
  have neC : ∀ b, b < s.heap.objs.size → b ≠ g.objs.size := fun b e => by rw [hsz]; exact Nat.ne_of_lt (Nat.lt_succ_of_lt e)
  have hDC : s.heap.objs.size ≠ g.objs.size := by rw [hsz]; exact Nat.ne_of_lt (Nat.lt_succ_self _)
  have hfr : H g.objs.size = none := I.hok.fresh (by rw [hsz]; exact Nat.le_succ _)
  have hfD : H s.heap.objs.size = none := I.hok.fresh (Nat.le_refl _)
  have cne : ∀ y c, X.env.cells.lookup y = some c → c < s.heap.objs.size := fun y c e => by
    obtain ⟨v, q⟩ := I.cell y c e
    exact q.lt
  have nst : ∀ b, b ≠ X.env.locals → b ∉ X.fs → b ∉ frs X.stack := fun b h1 h2 z => (List.mem_cons.mp (I.stkSub b z)).elim h1 h2
  have nstD : s.heap.objs.size ∉ frs X.stack := nst _ (Nat.ne_of_gt I.lt) (I.nofs (Nat.le_refl _))
  refine ⟨⟨I.ok.mod, O.kind, I.ok.glob, I.ok.blt, Nat.le_refl _, ?_, ?_, fun _ _ z _ => (by cases z), I.ok.hd, I.ok.frames, .inl rfl, ?_, ?_, ?_, ?_, ?_, ?_, I.stkFree⟩, rfl, I.bare, Un.kept hk, ?_, ?_, hfr, ?_, ?_, I.hok.kept hk0, ?_⟩
  · intro y z c h1 h2
    exact I.ok.inj y z c (O.cells I h1) (O.cells I h2)
  · intro y hy
    have hm : y ∈ fr.map (·.1) := by
      rcases hy with hy | hy
      · exact O.has (y, _) (PySem.mem_of_lookup hy) (.inl rfl)
      · exact O.has (y, _) (PySem.mem_of_lookup hy) (.inr rfl)
    exact ⟨_, lookup_map_some hm⟩
  · intro b hb
    rcases List.mem_cons.mp hb with rfl | hb
    · exact ⟨hDC, fun y c e => Nat.ne_of_lt (cne y c (O.cells I e))⟩
    · exact ⟨neC b (hfs b hb), fun y c e => (hf b hb).2.2.2.2.1 y c (O.cells I e)⟩
  · intro b o e
    exact ⟨kp b o (I.bs b o e).1, (I.bs b o e).2⟩
  · show X.base.objs.size ≤ g.objs.size
    rw [hsz]
    exact Nat.le_succ_of_le (Nat.le_trans I.ok.bsz I.sz)
  · intro b o e hb
    rcases List.mem_cons.mp hb with z | hb
    · have := Heap.lt_size (I.bs b o e).1
      rw [z] at this
      exact Nat.lt_irrefl _ this
    · rcases (hf b hb).2.2.2.1 with z | z
      · exact I.ok.noex b o e z
      · exact absurd (Nat.lt_of_lt_of_le (Heap.lt_size (I.ok.bs b o e).1) z) (Nat.lt_irrefl _)
  · intro b hb
    rcases List.mem_cons.mp hb with z | hb
    · rw [z]; exact nstD
    · exact nst b (hf b hb).2.1 (hf b hb).2.2.1
  · exact (I.kept (h' := g) (t' := s.toks) kp).stack
  · refine ⟨_, hC, fun i y v e1 e2 e3 => ?_⟩
    have e1a : (xs ++ fr.map (·.1))[i]? = some y := e1
    by_cases hi : i < xs.length
    · rw [List.getElem?_append_left (by simpa using hi)] at e2
      rw [List.getElem?_replicate, if_pos hi] at e2
      cases e2
    · have e1' : (fr.map (·.1))[i - xs.length]? = some y := by
        rw [List.getElem?_append_right (by omega)] at e1a
        exact e1a
      have e2' : (frOf fr σ)[i - xs.length]? = some (some v) := by
        rw [List.getElem?_append_right (by simp; omega)] at e2
        simpa using e2
      generalize i - xs.length = k at e1' e2'
      unfold frOf at e2'
      rw [List.getElem?_map] at e1' e2'
      cases q : fr[k]? with
      | none => rw [q] at e1'; cases e1'
      | some p =>
        rw [q] at e1' e2'
        have ey : p.1 = y := Option.some.inj e1'
        have ev : (σ[p.2]?).join = some v := Option.some.inj e2'
        have hp : p ∈ fr := List.mem_of_getElem? q
        obtain ⟨hN, hK⟩ := O.slot p hp
        have hkk := O.frk p hp
        rw [ey] at hN hK hkk
        have ev' : σ[p.2]? = some (some v) := by
          cases q2 : σ[p.2]? with
          | none => rw [q2] at ev; cases ev
          | some w => rw [q2] at ev; exact congrArg some ev
        obtain ⟨m, hn, hl⟩ := I.loc
        obtain ⟨u, r, l⟩ := hl p.2 y v hN ev' (.inr (.inl hK))
        refine ⟨u, r, ?_⟩
        rcases l with ⟨k1, _⟩ | ⟨_, c, ec, z⟩
        · rw [hK] at k1; cases k1
        · have hm : y ∈ fr.map (·.1) := by rw [← ey]; exact List.mem_map.mpr ⟨p, hp, rfl⟩
          have el := lookup_map_some (env := X.env) hm
          rw [ec] at el
          exact .inr ⟨.inl hkk, c, el, by obtain ⟨o, ho, hd⟩ := z; exact ⟨o, hk0 _ _ ho, hd⟩⟩
  · intro y c e
    obtain ⟨v, o, ho, hd⟩ := I.cell y c (O.cells I e)
    exact ⟨v, o, hk0 _ _ ho, hd⟩
  · intro y c e
    exact I.freeC y c (O.cells I e)
  · intro p hp
    rcases List.mem_append.mp hp with hp | hp
    · cases hp
    · rcases List.mem_append.mp hp with hp | hp
      · obtain ⟨e, n, ne, nf, d⟩ := I.pin p hp
        exact ⟨hk0 _ _ e, n, neC _ (Heap.lt_size e), nst _ ne nf, d⟩
      · have ep : p = (s.heap.objs.size, LCg.lst []) := by simpa using hp
        subst ep
        exact ⟨hDo, hfD, hDC, nstD, fun v z => by cases z⟩
  · show (nons xs ++ frOf fr σ).length = (xs ++ fr.map (·.1)).length
    unfold frOf
    simp
theorem inv_comp_endG {fp : List Addr} {g : Heap} {s' : Shared} {H' : Hp} {σ' : St} {ys : List V} {us : List Value} (I : Inv X pins σ H s) (hf : ∀ b ∈ fp, FpOk X pins H b) (hg : g = s.heap.push (LCg.lst []))
    (J : Inv (cxG X scope fr xs g.objs.size (s.heap.objs.size :: fp) { s with heap := g } H) (X.pn ++ pins ++ [(s.heap.objs.size, LCg.lst us)]) σ' H' s') (hv : Vals ys us) (hl : ys.length ≤ sizeLine) :
    Inv X pins σ (upd H' s.heap.objs.size (.lst ys)) s' ∧ H' s.heap.objs.size = none ∧ FpOk X pins (upd H' s.heap.objs.size (.lst ys)) g.objs.size ∧ ∃ m, s'.heap.Ns g.objs.size m := by
  have hsz : g.objs.size = s.heap.objs.size + 1 := by rw [hg, Heap.size_push]
  have kp : ∀ b o, s.heap.get? b = some o → g.get? b = some o := fun b o e => by rw [hg]; exact Heap.get?_push_of_some _ e
  obtain ⟨eD, nD, _, _, _⟩ := J.pin (s.heap.objs.size, LCg.lst us) (by simp)
  have hDC : g.objs.size ≠ s.heap.objs.size := by rw [hsz]; exact Nat.ne_of_gt (Nat.lt_succ_self _)
  have nD' : ∀ b u, H' b = some u → b ≠ s.heap.objs.size := fun b u e z => by rw [z] at e; rw [e] at nD; cases nD
  have hx : ∀ b o, s.heap.get? b = some o → b ∉ fp → b ∉ s.heap.objs.size :: fp := fun b o e hb z => by
    rcases List.mem_cons.mp z with z | z
    · have := Heap.lt_size e
      rw [z] at this
      exact Nat.lt_irrefl _ this
    · exact hb z
  have bU : Un (frs X.stack) (s.heap.objs.size :: fp) H H' g s'.heap := J.base
  have ltD : ∀ b o, s.heap.get? b = some o → b ≠ s.heap.objs.size := fun b o e => Nat.ne_of_lt (Heap.lt_size e)
  have un : Un (frs X.stack) fp H (upd H' s.heap.objs.size (.lst ys)) s.heap s'.heap := by
    refine ⟨fun b o e n hb he => bU.keep b o (kp b o e) n hb (hx b o e he), fun b o e n hb he => bU.slot b o (kp b o e) n hb (hx b o e he), fun b o e n he => ?_, fun b o e he => bU.there b o (kp b o e) (hx b o e he), fun b xs e => ?_, fun b o u e => ?_, fun b ps e => ?_⟩
    · rw [upd_ne (ltD b o e)]; exact bU.free b o (kp b o e) n (hx b o e he)
    · have q := bU.tups b xs e
      rw [upd_ne (nD' b _ q)]; exact q
    · have q := bU.frzs b o u e
      rw [upd_ne (nD' b _ q)]; exact q
    · obtain ⟨more, q⟩ := bU.tbls b ps e
      exact ⟨more, by rw [upd_ne (nD' b _ q)]; exact q⟩
  have hok : HOk X.prog X.w (upd H' s.heap.objs.size (.lst ys)) s'.heap := fun b u e => by
    by_cases hb : b = s.heap.objs.size
    · rw [hb, upd_same] at e
      cases e
      rw [hb]
      exact ⟨hl, us, us.length, hv, eD⟩
    · rw [upd_ne hb] at e
      exact (J.hok b u e).stay (fun c v _ q => q) (fun c q => by rw [upd_ne (nD' c _ q)]; exact q) fun c xs q => by rw [upd_ne (nD' c _ q)]; exact q
  have os : s'.os = s.os := J.os
  refine ⟨I.call' os un hok J.bare fun b hb => ⟨(hf b hb).2.2.2.1, (hf b hb).2.1, (hf b hb).2.2.2.2⟩, nD, ?_, ?_⟩
  · refine I.fpOk (H' := upd H' s.heap.objs.size (.lst ys)) (b := g.objs.size) (by rw [hsz]; exact Nat.le_succ _) ?_
    rw [upd_ne hDC]
    exact J.free
  · obtain ⟨m, hn, _⟩ := J.loc
    exact ⟨m, hn⟩
end
/-- the tests of a clause -/
def PTs (X : Cx) (ifs : List Expr) (t : TT) : Prop :=
  ∀ (pins : List (Addr × Obj)) (s : Shared) (σ : St) (H : Hp) (Q : Bool → Hp → Prop), Inv X pins σ H s → t σ H Q →
    wpAny (model X.prog X.w) X.A (forIn ifs true fun c r => if r = true then do let ok ← isTrue c X.env (eval c X.env); pure (ForInStep.yield ok) else pure (ForInStep.yield r)) (fun b s' => ∃ H', Inv X pins σ H' s' ∧ Q b H') X.xe s
def tYes : TT := fun _ H Q => Q true H
theorem pts_nil {X : Cx} : PTs X [] tYes := fun _ _ _ H _ I h => wpAny_tests_nil ⟨H, I, h⟩
theorem pts_one {X : Cx} {c : Expr} {t : TT} (h : PT X c t) : PTs X [c] t := fun pins s σ H Q I q => wpAny_tests_one (h pins s σ H Q I q)
section
variable {prog : Program} {w : World} {A : Around} {s : Shared}
theorem compLoopG {elt target iter : Expr} {ifs : List Expr} {scope : Scope} {pos : Pos} {it acc : Value} {env : Env} {R : Result → Shared → Prop} (I : Nat → Shared → Prop)
    (turn : ∀ n s, I n s → wpAny (model prog w) A (pyNext it) (fun r s₁ => match r with
      | none => R (.ok .next) s₁
      | some v => wpAny (model prog w) A (letOwnedTupleGo target it v) (fun _ s₀ => wpAny (model prog w) A (assign target env v) (fun _ s₂ =>
          wpAny (model prog w) A (forIn ifs true fun c r => if r = true then do let ok ← isTrue c env (eval c env); pure (ForInStep.yield ok) else pure (ForInStep.yield r)) (fun ok s₃ => if ok = true then wpAny (model prog w) A (eval elt env) (fun x s₄ =>
            wpAny (model prog w) A (call (.builtin "list.append") [acc, x]) (fun _ s₅ => ∃ m, m < n ∧ I m s₅) (notedBy (model prog w) A env fun e s' => R (.error e) s') s₄) (notedBy (model prog w) A env fun e s' => R (.error e) s') s₃
            else ∃ m, m < n ∧ I m s₃) (notedBy (model prog w) A env fun e s' => R (.error e) s') s₂)
          (notedBy (model prog w) A env fun e s' => R (.error e) s') s₀) (notedBy (model prog w) A env fun e s' => R (.error e) s') s₁) (notedBy (model prog w) A env fun e s' => R (.error e) s') s)
    (n : Nat) (h : I n s) : codeAny (model prog w) A (.compLoop (.ListComp elt [⟨target, iter, ifs, 0⟩] scope pos) 0 it acc env) R s := by
  refine codeAny_loop rfl I (fun n s hI => ?_) n h
  show wpAny _ A ((compTurn (.ListComp elt [⟨target, iter, ifs, 0⟩] scope pos) 0 it acc env).onRaise (fun x => do noteFrame x env; theTreesLotGoes x)) _ _ s
  refine wpAny_noted ?_
  rw [compTurn_list]
  refine wpAny_bind (wpAny_standAt (wpAny_bind (wpAny_mono (turn n s hI) (fun r s₁ h₁ => ?_) fun _ _ h' => h')))
  cases r with
  | none => exact wpAny_pure h₁
  | some v =>
    refine wpAny_bind (wpAny_mono h₁ (fun _ s₀ h₀' => ?_) fun _ _ h' => h')
    refine wpAny_bind (wpAny_mono h₀' (fun _ s₂ h₂ => ?_) fun _ _ h' => h')
    refine wpAny_bind (wpAny_mono h₂ (fun okb s₃ h₃ => ?_) fun _ _ h' => h')
    cases okb with
    | false => exact wpAny_pure ⟨rfl, h₃⟩
    | true => exact wpAny_bind (wpAny_bind (wpAny_mono h₃ (fun x s₄ h₄ => wpAny_bind (wpAny_mono h₄ (fun _ s₅ h₅ => wpAny_pure (wpAny_pure ⟨rfl, h₅⟩)) fun _ _ h' => h')) fun _ _ h' => h'))
end
/-- the reading: W by the turn, a measure, the items so far, the heap -/
def tCompG (g : TG) (tt : TT) (te : TE) (n : Nat) (fv : St) (J : It) (H1 : Hp) (QQ : List V → Hp → Prop) : Prop :=
  ∃ W : Nat → Nat → List V → Hp → Prop, (∃ m, W 0 m [] H1) ∧ ∀ i m ys H, W i m ys H → ys.length ≤ sizeLine ∧
    ((J.stop i H ∧ QQ ys H) ∨ (J.go i H ∧ ∃ N : List V → Hp → Prop, (∀ zs H2, N zs H2 → ∃ m', m' < m ∧ W (i + 1) m' zs H2) ∧
      ∀ x H', J.yld i H x H' → g x (List.replicate n none ++ fv) H' fun σ2 H2 => σ2.drop n = fv ∧ tt σ2 H2 fun b H3 => if b = true then te σ2 H3 (fun y H4 => N (ys ++ [y]) H4) else N ys H3))
section
variable {X : Cx} {scope : Scope} {fr : List (Str × Nat)} {xs : List Str} {elt iter tg : Expr} {ifs : List Expr} {pos : Pos} {te : TE} {tt : TT} {tgt : TG} {wi : TI}
theorem comp_coreG {pins : List (Addr × Obj)} {σ : St} {H : Hp} {s : Shared} {E : Value → Shared → Prop} {it : Addr} {fp : List Addr} {tn : Nat → Heap → Prop} {J : It} {RR : Value → Addr → Result → Shared → Prop} {QQ : List V → Hp → Prop} (hc : X.calm = true) (O : CompG X scope fr xs)
    (hg0 : ∀ C ex s H, PG (cxG X scope fr xs C ex s H) tg tgt) (ht : ∀ C ex s H, PTs (cxG X scope fr xs C ex s H) ifs tt) (he : ∀ C ex s H, PE (cxG X scope fr xs C ex s H) elt te) (I : Inv X pins σ H s) (T : Turn X.prog X.w X.K tg J fp it tn) (st : tn 0 s.heap) (hf : ∀ b ∈ fp, FpOk X pins H b) (hq : tCompG tgt tt te xs.length (frOf fr σ) J H QQ)
    (fin : ∀ D C H4 ys s4 m, Inv X pins σ (upd H4 D (.lst ys)) s4 → H4 D = none → FpOk X pins (upd H4 D (.lst ys)) C → s4.heap.Ns C m → QQ ys H4 → RR (.ref D) C (.ok .next) s4) :
    wpAny (model X.prog X.w) X.A (newList []) (fun acc s₃ => wpAny (model X.prog X.w) X.A (newFunctionEnv scope X.env.globals (clOf X.env fr) [] X.env.qual none .none (some X.env)) (fun cenv s₄ =>
      codeAny (model X.prog X.w) X.A (.compStart (.ListComp elt [⟨tg, iter, ifs, 0⟩] scope pos) 0 (.ref it) acc { cenv with scope := relabel scope X.env }) (RR acc cenv.locals) s₄) E s₃) E s := by
  obtain ⟨W, ⟨m0, w0⟩, turn⟩ := hq
  have hfs : ∀ b ∈ fp, b < s.heap.objs.size := fun b hb => by
    obtain ⟨o, e, _⟩ := T.obj 0 s.heap st b hb
    exact Heap.lt_size e
  refine wpAny_newObj_type (wpAny_newFunctionEnv O.cell (by intro y hy; simp at hy) (fun h₁ hns₁ hsb₁ => ?_) O.kind)
  dsimp only at hns₁ hsb₁ ⊢
  generalize hH2 : s.heap.push { cls := .type "list", dict := none, data := .seq ([] : List Value).toArray } = g at hns₁ hsb₁ ⊢
  have hg : g = s.heap.push (LCg.lst []) := hH2.symm
  have hsz : g.objs.size = s.heap.objs.size + 1 := by rw [hg, Heap.size_push]
  have hk : ∀ b o, g.get? b = some o → h₁.get? b = some o := fun b o e => hsb₁.extBut b o (Nat.ne_of_lt (Heap.lt_size e)) (Heap.get?_push_of_some _ e)
  have kp : ∀ b o, s.heap.get? b = some o → h₁.get? b = some o := fun b o e => hk b o (by rw [hg]; exact Heap.get?_push_of_some _ e)
  have J0 := inv_compG (h' := h₁) (tk := s.toks + ([] : List (Str × Value)).length) O I hf hfs hg hk hns₁
  have stat : ∀ {H' : Hp} {us : List Value}, (∀ b ∈ fp, H' b = none) → ∀ b ∈ fp, FpOk (cxG X scope fr xs g.objs.size (s.heap.objs.size :: fp) { s with heap := g } H) (X.pn ++ pins ++ [(s.heap.objs.size, LCg.lst us)]) H' b := fun {H' us} hn b hb => by
    obtain ⟨_, f1, f2, f3, f4, f5⟩ := hf b hb
    refine ⟨hn b hb, ?_, fun z => (List.mem_cons.mp (I.stkSub b z)).elim f1 f2, .inl (List.mem_cons_of_mem _ hb), fun y c e => f4 y c (O.cells I e), fun p hp => ?_⟩
    · show b ≠ g.objs.size
      rw [hsz]; exact Nat.ne_of_lt (Nat.lt_succ_of_lt (hfs b hb))
    · rcases List.mem_append.mp hp with hp | hp
      · cases hp
      · rcases List.mem_append.mp hp with hp | hp
        · exact f5 p hp
        · have ep : p = (s.heap.objs.size, LCg.lst us) := by simpa using hp
          rw [ep]
          exact Nat.ne_of_gt (hfs b hb)
  have loop : codeAny (model X.prog X.w) X.A (.compLoop (.ListComp elt [⟨tg, iter, ifs, 0⟩] scope pos) 0 (.ref it) (.ref s.heap.objs.size) (compEnvC scope (clOf X.env fr) g.objs.size X.env))
      (RR (.ref s.heap.objs.size) g.objs.size) { s with heap := h₁, toks := s.toks + ([] : List (Str × Value)).length } := by
    refine compLoopG (fun n s' => ∃ i ys us H', Inv (cxG X scope fr xs g.objs.size (s.heap.objs.size :: fp) { s with heap := g } H) (X.pn ++ pins ++ [(s.heap.objs.size, LCg.lst us)]) (nons xs ++ frOf fr σ) H' s' ∧ Vals ys us ∧ tn i s'.heap ∧ (∀ b ∈ fp, H' b = none) ∧ W i n ys H') ?_ m0
      ⟨0, [], [], H, J0, .nil, T.keep 0 s.heap h₁ st fun b _ o e => kp b o e, fun b hb => (hf b hb).1, w0⟩
    rintro n s3 ⟨i, ys, us, H3, J3, hv, st3, fr3, w3⟩
    obtain ⟨hlen, hh⟩ := turn i n ys H3 w3
    have none_err : ∀ {α : Type} {t : Sem α} {Q : α → Shared → Prop} {E' : Value → Shared → Prop} {s : Shared}, wpAny (model X.prog X.w) X.A t Q (fun _ _ => False) s → wpAny (model X.prog X.w) X.A t Q E' s := fun h => wpAny_mono h (fun _ _ q => q) fun _ _ z => z.elim
    have weakN : ∀ {σ6 : St}, σ6.length = (nons xs ++ frOf fr σ).length → σ6.drop xs.length = frOf fr σ → ∀ (i : Nat) v, (nons xs ++ frOf fr σ)[i]? = some (some v) → σ6[i]? = some (some v) := fun {σ6} hl6 e6 i v e => by
      by_cases hi : i < xs.length
      · rw [List.getElem?_append_left (by simpa using hi), List.getElem?_replicate, if_pos hi] at e
        cases e
      · rw [List.getElem?_append_right (by simp; omega), ← e6, List.getElem?_drop] at e
        have : xs.length + (i - (nons xs).length) = i := by simp; omega
        rw [this] at e
        exact e
    rcases hh with ⟨stop, qn⟩ | ⟨go, N, hN, step⟩
    · refine none_err (thn (T.done (cxG X scope fr xs g.objs.size (s.heap.objs.size :: fp) { s with heap := g } H) rfl rfl rfl hc i _ s3 _ H3 _ J3 (stat fr3) st3 stop) fun r s4 ⟨hr, J4⟩ => ?_)
      subst hr
      obtain ⟨I4, nD, fC, m, hn⟩ := inv_comp_endG I hf hg J4 hv hlen
      exact fin _ _ H3 ys s4 m I4 nD fC hn qn
    · refine none_err (thn (T.item (cxG X scope fr xs g.objs.size (s.heap.objs.size :: fp) { s with heap := g } H) rfl rfl rfl hc i _ s3 _ H3 _ J3 (stat fr3) st3 go) fun r s4 ⟨u, hr, h4⟩ => ?_)
      subst hr
      refine none_err (thn h4 fun _ s5 ⟨v, H5, J5, r5, y5, st5, fr5⟩ => ?_)
      have J5' := J5.pinned (stat fr5) (T.obj _ _ st5)
      refine none_err (thn (hg0 _ _ _ _ _ s5 _ H5 v u _ J5' r5 (step v H5 y5)) fun _ s6 ⟨σ6, H6, J6, e6, q6⟩ => ?_)
      refine none_err (thn (ht _ _ _ _ _ s6 σ6 H6 _ J6 q6) fun b s6' ⟨H6', J6', q6'⟩ => ?_)
      have hl6 : σ6.length = (nons xs ++ frOf fr σ).length := J6.len.trans J3.len.symm
      cases b with
      | false =>
        rw [if_neg Bool.false_ne_true] at q6' ⊢
        obtain ⟨m', hm, w7⟩ := hN ys H6' q6'
        have pinF : ∀ b ∈ fp, ∀ o, s5.heap.get? b = some o → s6'.heap.get? b = some o ∧ H6' b = none := fun b hb o e => by
          obtain ⟨q1, q2, _⟩ := J6'.pin (b, o) (List.mem_append_right _ (List.mem_append_right _ (mem_pinsAt hb e)))
          exact ⟨q1, q2⟩
        refine ⟨m', hm, i + 1, ys, us, H6', J6'.unpinned.weak (σ' := nons xs ++ frOf fr σ) hl6.symm (weakN hl6 e6), hv, T.keep _ _ _ st5 fun b hb o e => (pinF b hb o e).1, fun b hb => ?_, w7⟩
        obtain ⟨o, e, _⟩ := T.obj _ _ st5 b hb
        exact (pinF b hb o e).2
      | true =>
        rw [if_pos rfl] at q6' ⊢
        refine none_err (thn (he _ _ _ _ _ s6' _ H6' _ J6' q6') fun u7 s7 ⟨v7, H7, J7, r7, q7⟩ => ?_)
        obtain ⟨m', hm, w7⟩ := hN _ H7 q7
        obtain ⟨eD, nD, dC, dF, dd⟩ := J7.pin (s.heap.objs.size, LCg.lst us) (List.mem_append_right _ (List.mem_append_left _ (List.mem_append_right _ (by simp))))
        have hvl := hv.length
        refine append_at (hsz := by show us.toArray.size ≤ sizeLine; rw [List.size_toArray, ← hvl]; exact hlen) eD fun h8 hs8 hD8 => ?_
        have pinD : ∀ p ∈ X.pn ++ pins, p.1 ≠ s.heap.objs.size := fun p hp z => by
          have := Heap.lt_size (I.pin p hp).1
          rw [z] at this
          exact Nat.lt_irrefl _ this
        have J7a : Inv (cxG X scope fr xs g.objs.size (s.heap.objs.size :: fp) { s with heap := g } H) (X.pn ++ pins) _ H7 s7 := J7.pins_of fun p hp => J7.pin p (List.mem_append_right _ (List.mem_append_left _ (List.mem_append_left _ hp)))
        have J8 : Inv (cxG X scope fr xs g.objs.size (s.heap.objs.size :: fp) { s with heap := g } H) (X.pn ++ pins) _ H7 { s7 with heap := h8 } := J7a.turned (t' := s7.toks) (fun b o hb e => (hs8.2 b hb).trans e) nD dC (.inl List.mem_cons_self) (fun y c e z => by
          obtain ⟨w', q⟩ := I.cell y c (O.cells I e)
          have := q.lt
          rw [z] at this
          exact Nat.lt_irrefl _ this) (fun p hp => (List.mem_append.mp hp).elim (fun z => by cases z) (pinD p))
        have J9 : Inv (cxG X scope fr xs g.objs.size (s.heap.objs.size :: fp) { s with heap := g } H) (X.pn ++ pins ++ [(s.heap.objs.size, LCg.lst (us ++ [u7]))]) _ H7 { s7 with heap := h8 } := J8.pins_of fun p hp => by
          rcases List.mem_append.mp hp with hp | hp
          · exact J8.pin p (List.mem_append_right _ hp)
          · have ep : p = (s.heap.objs.size, LCg.lst (us ++ [u7])) := by simpa using hp
            subst ep
            exact ⟨hD8.trans (congrArg some (LCg.lst_snoc us u7)), nD, dC, dF, fun v z => by cases z⟩
        have J10 := J9.weak (σ' := nons xs ++ frOf fr σ) hl6.symm (weakN hl6 e6)
        have pinF : ∀ b ∈ fp, ∀ o, s5.heap.get? b = some o → s7.heap.get? b = some o ∧ H7 b = none := fun b hb o e => by
          obtain ⟨q1, q2, _⟩ := J7.pin (b, o) (List.mem_append_right _ (List.mem_append_right _ (mem_pinsAt hb e)))
          exact ⟨q1, q2⟩
        refine ⟨m', hm, i + 1, ys ++ [v7], us ++ [u7], H7, J10, hv.append (.cons r7 .nil), T.keep _ _ _ st5 fun b hb o e => (hs8.2 b (Nat.ne_of_lt (hfs b hb))).trans (pinF b hb o e).1, fun b hb => ?_, w7⟩
        obtain ⟨o, e, _⟩ := T.obj _ _ st5 b hb
        exact (pinF b hb o e).2
  exact codeAny_compStart_list loop (T.self X.A 0 _ _ _ (T.keep 0 s.heap h₁ st fun b _ o e => kp b o e) loop)
/-- [elt for tg in iter if ..] -/
def tCompE (wi : TI) (g : TG) (tt : TT) (te : TE) (n : Nat) (fr : List (Str × Nat)) : TE := fun σ H Q => wi σ H fun J H1 => tCompG g tt te n (frOf fr σ) J H1 fun ys H2 => ∀ D, H2 D = none → Q (.ref D) (upd H2 D (.lst ys))
theorem pe_compG (hc : X.calm = true) (O : CompG X scope fr xs) (hi : PI X tg iter wi) (hg0 : ∀ C ex s H, PG (cxG X scope fr xs C ex s H) tg tgt) (ht : ∀ C ex s H, PTs (cxG X scope fr xs C ex s H) ifs tt) (he : ∀ C ex s H, PE (cxG X scope fr xs C ex s H) elt te) (hs : ∀ x, foldedSetIterable iter X.env x = pure x := by intro _; rfl) :
    PE X (.ListComp elt [⟨tg, iter, ifs, 0⟩] scope pos) (tCompE wi tgt tt te xs.length fr) := by
  intro pins s σ H Q I h
  rw [eval_ListComp]
  refine wpAny_comprehension_free (use := none) rfl hs O.clos O.kind O.names (thn (hi pins s σ H _ I h) fun xv s1 h1 => thn h1 fun itv s2 h2 => ?_)
  obtain ⟨it, fp, tn, J, H2, e, I2, T, st2, f2, q2⟩ := h2
  subst e
  refine comp_coreG (RR := fun acc C => compPost (model X.prog X.w) X.A X.xe none (EP X pins σ Q) acc C) hc O hg0 ht he I2 T st2 f2 q2 ?_
  intro D C H4 ys s4 m I4 nD fC hn q4
  refine ⟨m, hn, fun h' hs' => ?_⟩
  obtain ⟨g0, g1, g2, g3, g4, g5⟩ := fC
  exact ⟨.ref D, _, I4.turned (t' := s4.toks) (fun b o hb e => (hs'.2 b hb).trans e) g0 g1 g3 g4 g5, rfl, q4 D nD⟩
/-- y = [elt for ..], y a plain local name -/
def tAsgCompG (i : Nat) (wi : TI) (g : TG) (tt : TT) (te : TE) (n : Nat) (fr : List (Str × Nat)) : TS := fun D σ H => wi σ H fun J H1 => tCompG g tt te n (frOf fr σ) J H1 fun ys H2 => ∀ a, H2 a = none → D.nx (σ.set i (some (.ref a))) (upd H2 a (.lst ys))
theorem ps_setCompG {i : Nat} {y : Str} {py spos : Pos} (hc : X.calm = true) (hN : X.N.Nodup) (hi' : X.N[i]? = some y) (hy : X.env.scope.names.lookup y = some .local) (O : CompG X scope fr xs) (hi : PI X tg iter wi) (hg0 : ∀ C ex s H, PG (cxG X scope fr xs C ex s H) tg tgt) (ht : ∀ C ex s H, PTs (cxG X scope fr xs C ex s H) ifs tt) (he : ∀ C ex s H, PE (cxG X scope fr xs C ex s H) elt te)
    (hsw : swapsWith (.ListComp elt [⟨tg, iter, ifs, 0⟩] scope pos) (some (.Name y py)) spos.line X.env = pure true := by rfl) (hs : ∀ x, foldedSetIterable iter X.env x = pure x := by intro _; rfl) :
    PS X (.Assign [.Name y py] (.ListComp elt [⟨tg, iter, ifs, 0⟩] scope pos) spos) (tAsgCompG i wi tgt tt te xs.length fr) := by
  intro pins s σ H D I h
  rw [exec_Assign_Name_used _ _ _ _ hsw]
  refine wpAny_bind (wpAny_standAt (wpAny_bind ?_))
  show wpAny _ X.A (do let _ ← comprehension (.ListComp elt [⟨tg, iter, ifs, 0⟩] scope pos) scope X.env _ (newList []) false (eval iter X.env) (some (assign (.Name y py) X.env))) _ _ s
  refine wpAny_bind (thn (wpAny_comprehension_free (use := some (assign (.Name y py) X.env)) (Q := fun _ s' => SP X pins D .next s') rfl hs O.clos O.kind O.names (thn (hi pins s σ H _ I h) fun xv s1 h1 => thn h1 fun itv s2 h2 => ?_)) fun _ s' hq => wpAny_pure (wpAny_pure hq))
  obtain ⟨it, fp, tn, J, H2, e, I2, T, st2, f2, q2⟩ := h2
  subst e
  refine comp_coreG (RR := fun acc C => compPost (model X.prog X.w) X.A X.xe (some (assign (.Name y py) X.env)) (fun _ s' => SP X pins D .next s') acc C) hc O hg0 ht he I2 T st2 f2 q2 ?_
  intro a C H4 ys s4 m I4 nD fC hn q4
  obtain ⟨g0, g1, g2, g3, g4, g5⟩ := fC
  obtain ⟨oC, eC, hoC⟩ := LCg.ns_obj hn
  have I5 : Inv X (pins ++ [(C, oC)]) σ (upd H4 a (.lst ys)) s4 := I4.pins_of fun p hp => by
    rcases List.mem_append.mp hp with hp | hp
    · exact I4.pin p (List.mem_append_right _ hp)
    · have ep : p = (C, oC) := by simpa using hp
      subst ep
      obtain ⟨es, epp, hd, _⟩ := hoC
      exact ⟨eC, g0, g1, g2, fun v z => by rw [hd] at z; cases z⟩
  show wpAny _ X.A (assign (.Name y py) X.env (.ref a)) _ _ _
  refine wpAny_assign_Name (store_ok I5 hN hi' (.inl hy) (v := .ref a) rfl (fun s6 I6 => ?_) (.inr hy))
  obtain ⟨e6, _⟩ := I6.pin (C, oC) (List.mem_append_right _ (List.mem_append_right _ (by simp)))
  refine ⟨m, hoC.ns e6, fun h' hs' => ?_⟩
  exact ⟨_, _, I6.unpinned.turned (t' := s6.toks) (fun b o hb e => (hs'.2 b hb).trans e) g0 g1 g3 g4 g5, q4 a nD⟩
end
/-! ### the forms one uses -/
theorem compG_list {K : PySem.W.Frag} {a : Addr} {xs : List V} {g : TG} {tt : TT} {te : TE} {n : Nat} {fv : St} {H1 : Hp} {QQ : List V → Hp → Prop} (Pv : Nat → List V → Hp → Prop) (hz : xs.length ≤ sizeLine) (h0 : Pv 0 [] H1) (hl : ∀ i ys H, i ≤ xs.length → Pv i ys H → SqL K H a xs)
    (hs : ∀ i x ys H, xs[i]? = some x → Pv i ys H → g x (List.replicate n none ++ fv) H fun σ2 H2 => σ2.drop n = fv ∧ tt σ2 H2 fun b H3 => if b = true then te σ2 H3 (fun y H4 => Pv (i + 1) (ys ++ [y]) H4) else Pv (i + 1) ys H3) (hd : ∀ ys H, Pv xs.length ys H → QQ ys H) (hy : ∀ i ys H, Pv i ys H → ys.length ≤ i)
    : tCompG g tt te n fv (Itl K a) H1 QQ := by
  refine ⟨fun i m ys H => m = xs.length - i ∧ i ≤ xs.length ∧ Pv i ys H, ⟨xs.length, by simp, Nat.zero_le _, h0⟩, ?_⟩
  rintro i m ys H ⟨rfl, hi, p⟩
  have q := hl i ys H hi p
  have hyl := hy i ys H p
  refine ⟨by omega, ?_⟩
  by_cases hlt : i < xs.length
  · refine .inr ⟨⟨xs, xs[i], q, by simp [hlt]⟩, fun zs H2 => Pv (i + 1) zs H2, fun zs H2 p2 => ⟨xs.length - (i + 1), by omega, rfl, hlt, p2⟩, fun x H' y => ?_⟩
    obtain ⟨e, y⟩ := y
    subst e
    exact hs i x ys _ (y xs q) p
  · have e : i = xs.length := by omega
    subst e
    exact .inl ⟨⟨xs, q, Nat.le_refl _⟩, hd ys H p⟩
theorem compG_range {lo : Int} {k : Nat} {g : TG} {tt : TT} {te : TE} {n : Nat} {fv : St} {H1 : Hp} {QQ : List V → Hp → Prop} (Pv : Nat → List V → Hp → Prop) (hz : k ≤ sizeLine) (h0 : Pv 0 [] H1)
    (hs : ∀ i ys H, i < k → Pv i ys H → g (.int (lo + i)) (List.replicate n none ++ fv) H fun σ2 H2 => σ2.drop n = fv ∧ tt σ2 H2 fun b H3 => if b = true then te σ2 H3 (fun y H4 => Pv (i + 1) (ys ++ [y]) H4) else Pv (i + 1) ys H3) (hd : ∀ ys H, Pv k ys H → QQ ys H) (hy : ∀ i ys H, Pv i ys H → ys.length ≤ i)
    : tCompG g tt te n fv (Itr lo k) H1 QQ := by
  refine ⟨fun i m ys H => m = k - i ∧ i ≤ k ∧ Pv i ys H, ⟨k, by simp, Nat.zero_le _, h0⟩, ?_⟩
  rintro i m ys H ⟨rfl, hi, p⟩
  have hyl := hy i ys H p
  refine ⟨by omega, ?_⟩
  by_cases hlt : i < k
  · refine .inr ⟨hlt, fun zs H2 => Pv (i + 1) zs H2, fun zs H2 p2 => ⟨k - (i + 1), by omega, rfl, hlt, p2⟩, fun x H' y => ?_⟩
    obtain ⟨e, y⟩ := y
    subst e y
    exact hs i ys _ hlt p
  · have e : i = k := by omega
    subst e
    exact .inl ⟨Nat.le_refl _, hd ys H p⟩
theorem compG_enum {K : PySem.W.Frag} {a : Addr} {xs : List V} {g : TG} {tt : TT} {te : TE} {n : Nat} {fv : St} {H1 : Hp} {QQ : List V → Hp → Prop} (Pv : Nat → List V → Hp → Prop) (hz : xs.length ≤ sizeLine) (h0 : Pv 0 [] H1) (hl : ∀ i ys H, i ≤ xs.length → Pv i ys H → SqL K H a xs)
    (hs : ∀ i x ys H T, xs[i]? = some x → Pv i ys H → H T = none → g (.ref T) (List.replicate n none ++ fv) (upd H T (.tup [.int (i : Int), x])) fun σ2 H2 => σ2.drop n = fv ∧ tt σ2 H2 fun b H3 => if b = true then te σ2 H3 (fun y H4 => Pv (i + 1) (ys ++ [y]) H4) else Pv (i + 1) ys H3) (hd : ∀ ys H, Pv xs.length ys H → QQ ys H) (hy : ∀ i ys H, Pv i ys H → ys.length ≤ i)
    : tCompG g tt te n fv (Ite K a) H1 QQ := by
  refine ⟨fun i m ys H => m = xs.length - i ∧ i ≤ xs.length ∧ Pv i ys H, ⟨xs.length, by simp, Nat.zero_le _, h0⟩, ?_⟩
  rintro i m ys H ⟨rfl, hi, p⟩
  have q := hl i ys H hi p
  have hyl := hy i ys H p
  refine ⟨by omega, ?_⟩
  by_cases hlt : i < xs.length
  · refine .inr ⟨⟨xs, xs[i], q, by simp [hlt]⟩, fun zs H2 => Pv (i + 1) zs H2, fun zs H2 p2 => ⟨xs.length - (i + 1), by omega, rfl, hlt, p2⟩, fun v H' y => ?_⟩
    obtain ⟨T, x, hT, rfl, rfl, y⟩ := y
    exact hs i x ys _ T (y xs q) p hT
  · have e : i = xs.length := by omega
    subst e
    exact .inl ⟨⟨xs, q, Nat.le_refl _⟩, hd ys H p⟩
end L2
namespace L2
open PySem PySem.Spec PyProof.Rows
/-! ### rules whose reading names the part K itself (for the blocks of comprehensions) -/
section
variable {X : Cx} {K : PySem.W.Frag} {pos : Pos}
theorem ixK_list (h : X.K = K) : IxR X (rIxL K) := h ▸ ix_list
theorem ixK_tup (h : X.K = K) : IxR X (rIxT K) := h ▸ ix_tup
theorem pgK_tup {es : List Expr} {k : Nat} {t : TGs} {n : Nat} (hK : X.K = K) (hc : X.calm = true) (h : PGs X es t) (hn : (assignEach es X.env).length = n := by rfl) (hst : (assignEach es X.env).findIdx? (·.1) = none := by rfl) : PG X (.Tuple es k pos) (gTup K n t) := hK ▸ pg_tup hc h hn hst
theorem callK_list (h : X.K = K) : CallR X (.type "list") (fun xs H Q => ∃ p ys, xs = [.ref p] ∧ (SqL K H p ys ∨ SqT K H p ys) ∧ ∀ l, H l = none → Q (.ref l) (upd H l (.lst ys))) := h ▸ call_list_of
end
end L2

namespace L2
open PySem PySem.Spec PyProof.Rows
section
variable {X : Cx}
/-- sum of a list of ints -/
theorem ints_are : ∀ {ns : List Int} {us : List Value}, Vals (ns.map V.int) us → IntsAre us ns
  | [], _, .nil => .nil
  | n :: ns, _, .cons r rr => by
    obtain ⟨t, rfl⟩ := r
    exact .cons n t (ints_are rr)
theorem call_sum (hc : X.calm = true) : CallR X (.builtin "sum") (fun xs H Q => ∃ (p : Addr) (ns : List Int), xs = [.ref p] ∧ SqL X.K H p (ns.map V.int) ∧ Q (.int ns.sum) H) := by
  intro pins s σ H xs us Q I r h
  obtain ⟨p, ns, rfl, hq, q⟩ := h
  obtain ⟨u, rfl, ru⟩ := vals1 r
  cases ru
  obtain ⟨its, rv, pl, hz⟩ := I.list hq
  have hi := ints_are rv
  obtain ⟨zs, e⟩ := hi.allInts.items
  have hns : (numsOf its) = ns := hi.numsOf
  have hl : s.heap.IsList p (intItems zs) := by rw [← e]; exact pl.isList
  refine sum_intListG (I.ok.hd hc) hl fun h' tk t' hk => ⟨.int ns.sum, H, I.kept (t' := tk) hk, ⟨t', ?_⟩, q⟩
  have h2 : numsOf (intItems zs).toList = ns := by rw [← e]; exact hns
  rw [nums_intItems] at h2
  rw [preSum_eq, List.take_of_length_le (by simp), ← h2]
end
end L2
namespace L2
open PySem PySem.Spec PyProof.Rows
section
variable {X : Cx}
end
end L2

namespace L2
open PySem PySem.Spec PyProof.Rows
section
variable {X : Cx}
end
theorem comp_range3 {lo c : Int} {n : Nat} {te : TE} {fv : St} {H1 : Hp} {QQ : List V → Hp → Prop} (Pv : Nat → List V → Hp → Prop) (hz : n ≤ sizeLine) (h0 : Pv 0 [] H1)
    (hs : ∀ i ys H, i < n → Pv i ys H → te (some (.int (lo + i * c)) :: fv) H fun y H2 => Pv (i + 1) (ys ++ [y]) H2) (hd : ∀ ys H, ys.length = n → Pv n ys H → QQ ys H)
    : tCompR te fv (Itr3 lo c n) H1 QQ := by
  refine ⟨fun i m ys H => m = n - i ∧ i ≤ n ∧ ys.length = i ∧ Pv i ys H, ⟨n, by simp, Nat.zero_le _, rfl, h0⟩, ?_⟩
  rintro i m ys H ⟨rfl, hi, hy, p⟩
  refine ⟨by omega, ?_⟩
  by_cases hlt : i < n
  · refine .inr ⟨hlt, fun y H2 => Pv (i + 1) (ys ++ [y]) H2, fun y H2 p2 => ⟨n - (i + 1), by omega, rfl, hlt, by rw [List.length_append, hy]; rfl, p2⟩, fun x H' y => ?_⟩
    obtain ⟨e, y⟩ := y
    subst e y
    exact hs i ys _ hlt p
  · have e : i = n := by omega
    subst e
    exact .inl ⟨Nat.le_refl _, hd ys H hy p⟩
end L2
namespace L2
open PySem PySem.Spec PyProof.Rows
section
variable {X : Cx} {tg : Expr}
/-- range(a, b, c), a not below nought, c above it -/
def iRngL (ta : TA) : TI := fun σ H R => ta σ H fun vs H1 => ∃ (lo m c : Int) (n : Nat), vs = [.int lo, .int m, .int c] ∧ 0 ≤ lo ∧ lo < 1000 ∧ -1000 < m ∧ m < 2 ^ 61 ∧ (0 < c ∧ c < 1000) ∧ Builtin.Range.rangeSize lo m c = (n : Int) ∧ R (Itr3 lo c n) H1
theorem small_lo {lo m c : Int} (h0 : 0 ≤ lo) (h00 : lo < 1000) (h1 : -1000 < m) (h2 : m < 2 ^ 61) (h3 : 0 < c ∧ c < 1000) : Builtin.Range.small lo m c = true := by
  obtain ⟨h3, h4⟩ := h3
  have hs : 0 ≤ Builtin.Range.rangeSize lo m c ∧ Builtin.Range.rangeSize lo m c ≤ 2 ^ 61 := by
    unfold Builtin.Range.rangeSize
    rw [if_pos h3]
    by_cases h : lo < m
    · rw [if_pos h]
      have q1 : 0 ≤ (m - lo - 1) / c := Int.ediv_nonneg (by omega) (by omega)
      have q2 : (m - lo - 1) / c ≤ (m - lo - 1) := Int.ediv_le_self _ (by omega)
      omega
    · rw [if_neg h]; omega
  unfold Builtin.Range.small Builtin.Range.rangeFitsLong
  simp only [gt_iff_lt, h3, if_true]
  simp
  omega
theorem pi_rangeL {a b c : Expr} {ta : TA} {p pos : Pos} (hg : Gl X "range") (hm : X.mg "range" = none) (ha : PA X [a, b, c] ta) (hs : starEach [a, b, c] X.env = (false, eval a X.env) :: starEach [b, c] X.env := by rfl) (hs2 : (backTo pos (starEach [b, c] X.env)).any (·.1) = false := by rfl) :
    PI X tg (.Call (.Name "range" p) [a, b, c] [] pos) (iRngL ta) := by
  intro pins s σ H R I h
  refine Call_ (ld_blt I hg hm bt_range (PyProof.Rows.callWith_type1 (thn (ha pos pins s σ H _ I h) fun us s1 ⟨vs, H1, I1, r1, q1⟩ => ?_) hs hs2))
  obtain ⟨lo, m, c, n, e, h0, h00, h1, h2, h3, hn, q⟩ := q1
  subst e
  cases r1 with
  | cons r rr =>
    cases rr with
    | cons r' rr =>
      cases rr with
      | cons r'' rr =>
        cases rr
        obtain ⟨t, rfl⟩ := r
        obtain ⟨t', rfl⟩ := r'
        obtain ⟨t'', rfl⟩ := r''
        refine call_range_3 (by have := h3.1; omega) ?_ (Or.inl (PyProof.noPylong_small (by have := h3.1; have := h3.2; omega)))
        refine wpAny_pyIter_range (IsRange.new ..) (small_lo h0 h00 h1 h2 h3) ?_
        have I2 : Inv X pins σ H1 { s1 with heap := s1.heap.push { cls := .type "range", data := .fields #[.int lo t, .int m t', .int c t''] }, toks := s1.toks } := I1.kept fun b o e => Heap.get?_push_of_some _ e
        refine ⟨(s1.heap.push { cls := .type "range", data := .fields #[.int lo t, .int m t', .int c t''] }).objs.size, [(s1.heap.push { cls := .type "range", data := .fields #[.int lo t, .int m t', .int c t''] }).objs.size], _, _, H1, rfl,
          I2.kept (t' := s1.toks) fun b o e => Heap.get?_push_of_some _ e, turn_range3 _ lo c n, ?_, fun b hb => ?_, q⟩
        · have e1 : lo + ((0 : Nat) : Int) * c = lo := by simp
          have e2 : ((n : Nat) : Int) - ((0 : Nat) : Int) = Builtin.Range.rangeSize lo m c := by rw [hn]; simp
          show IsRangeIter _ _ (lo + ((0 : Nat) : Int) * c) ((n : Int) - ((0 : Nat) : Int)) c
          rw [e1, e2]
          exact Heap.get?_push_size _ rfl
        · have e : b = (s1.heap.push { cls := .type "range", data := .fields #[.int lo t, .int m t', .int c t''] }).objs.size := by simpa using hb
          subst e
          exact I2.fpOk (Nat.le_refl _) (I2.hok.fresh (Nat.le_refl _))
end
end L2

namespace L2
open PySem PySem.Spec PyProof.Rows
theorem bt_min : bootBuiltins "min" = some (.builtin "min") := by decide +kernel
theorem bt_max : bootBuiltins "max" = some (.builtin "max") := by decide +kernel
section
variable {X : Cx}
theorem op_mulB : OpR X (binaryOp .Mult) (rI IntMulOk fun i j => .int (i * j)) := opI fun _ _ _ _ _ _ _ hc q => mul_int q hc
theorem nums_are : ∀ {ns : List Int} {us : List Value}, Vals (ns.map V.int) us → IntsAre us ns
  | [], _, .nil => .nil
  | n :: ns, _, .cons r rr => by
    obtain ⟨t, rfl⟩ := r
    exact .cons n t (nums_are rr)
end
end L2
namespace L2
open PySem PySem.Spec PyProof.Rows
theorem bt_sum : bootBuiltins "sum" = some (.builtin "sum") := by decide +kernel
theorem yesT {σ : St} {H : Hp} {A B : Hp → Prop} (h : A H) : tYes σ H fun b H3 => if b = true then A H3 else B H3 :=
  show (if true = true then A H else B H) from iteT (B := B H) h
theorem bt_zip : bootBuiltins "zip" = some (.type "zip") := by decide +kernel
/-! ### zip(list, list), walked by a pair of names -/
def Itz (K : PySem.W.Frag) (a b : Addr) : It :=
  ⟨fun i H => ∃ xs ys x y, SqL K H a xs ∧ SqL K H b ys ∧ xs[i]? = some x ∧ ys[i]? = some y,
   fun i H v H' => ∃ T x y, H T = none ∧ v = .ref T ∧ H' = upd H T (.tup [x, y]) ∧ (∀ xs, SqL K H a xs → xs[i]? = some x) ∧ ∀ ys, SqL K H b ys → ys[i]? = some y,
   fun i H => ∃ xs ys, SqL K H a xs ∧ SqL K H b ys ∧ (xs.length ≤ i ∨ ys.length ≤ i)⟩
theorem turn_zip {P : Program} {w : World} {K : PySem.W.Frag} {es : List Expr} {k : Nat} {pos : Pos} (a b z TI TO i1 i2 : Addr) (D : ZipApart z TI TO i1 i2 a b) : Turn P w K (.Tuple es k pos) (Itz K a b) [z, TI, TO, i1, i2] z
    (fun i h => IsZip h z TI TO .none ∧ IsPair h TI (.ref i1) (.ref i2) ∧ (∃ u v, IsPair h TO u v) ∧ h.IsListIter i1 a i ∧ h.IsListIter i2 b i) where
  mem := by simp
  obj := fun i h st c hc => by
    obtain ⟨kz, kI, ⟨u, v, kO⟩, ⟨o1, q1, c1, d1⟩, ⟨o2, q2, c2, d2⟩⟩ := st
    simp only [List.mem_cons, List.not_mem_nil, or_false] at hc
    rcases hc with rfl | rfl | rfl | rfl | rfl
    · exact ⟨_, kz, fun v z => by have z' : Data.fields _ = Data.cell v := z; cases z'⟩
    · exact ⟨_, kI, fun v z => by have z' : Data.seq _ _ = Data.cell v := z; cases z'⟩
    · exact ⟨_, kO, fun v z => by have z' : Data.seq _ _ = Data.cell v := z; cases z'⟩
    · exact ⟨o1, q1, fun v z => by rw [d1] at z; cases z⟩
    · exact ⟨o2, q2, fun v z => by rw [d2] at z; cases z⟩
  keep := fun i h h' st kk => by
    obtain ⟨kz, kI, ⟨u, v, kO⟩, k1, k2⟩ := st
    exact ⟨kk _ (by simp) _ kz, kk _ (by simp) _ kI, ⟨u, v, kk _ (by simp) _ kO⟩, k1.at fun o q => kk i1 (by simp) o q, k2.at fun o q => kk i2 (by simp) o q⟩
  item := by
    intro X hP hw hK hc i pins s σ H E I hf st hg
    subst hP hw hK
    obtain ⟨xs, ys, x, y, hq, hr, hx, hy⟩ := hg
    obtain ⟨its, rv, p, hz⟩ := I.list hq
    obtain ⟨its2, rv2, p2, hz2⟩ := I.list hr
    obtain ⟨u, hu, ru⟩ := rv.get hx
    obtain ⟨u2, hu2, ru2⟩ := rv2.get hy
    obtain ⟨kz, kI, ⟨o1, o2, kO⟩, k1, k2⟩ := st
    refine wpAny_pyNext_zip_item D kz kI kO k1 k2 p.isList p2.isList (x := u) (y := u2) (by simpa using hu) (by simpa using hu2) fun h' a1 a2 a3 a4 a5 a6 hk => ?_
    refine ⟨_, rfl, ?_⟩
    refine wpAny_letOwnedTupleGo_zip a1 fun h2 g1 hs2 => ?_
    have hs2' : Heap.SameBut z h' h2 := hs2
    have lz : z < s.heap.objs.size := Heap.lt_size kz
    have lI : TI < s.heap.objs.size := Heap.lt_size kI
    have lO : TO < s.heap.objs.size := Heap.lt_size kO
    have l1 : i1 < s.heap.objs.size := by obtain ⟨_, q, _⟩ := k1; exact Heap.lt_size q
    have l2 : i2 < s.heap.objs.size := by obtain ⟨_, q, _⟩ := k2; exact Heap.lt_size q
    have hfr : H s.heap.objs.size = none := I.hok.fresh (Nat.le_refl _)
    have I0 : Inv X pins σ (upd H s.heap.objs.size (.tup [x, y])) { s with heap := s.heap.push { cls := .type "tuple", data := .seq #[u, u2] }, toks := s.toks } :=
      I.laid (t' := s.toks) (fun b u e => Heap.get?_push_of_some _ e) (Nat.le_refl _) ⟨by show 2 ≤ sizeLine; decide, [u, u2], .cons ru (.cons ru2 .nil), ⟨_, Heap.get?_push_size _ rfl, rfl, _, rfl⟩⟩
    have hfb : ∀ c ∈ [z, TI, TO, i1, i2], c < s.heap.objs.size := fun c hc => by
      simp only [List.mem_cons, List.not_mem_nil, or_false] at hc
      rcases hc with rfl | rfl | rfl | rfl | rfl <;> assumption
    have hn : ∀ c ∈ [z, TI, TO, i1, i2], upd H s.heap.objs.size (.tup [x, y]) c = none := fun c hc => by
      rw [upd_ne (Nat.ne_of_lt (hfb c hc))]
      exact (hf c hc).1
    have I2 : Inv X pins σ (upd H s.heap.objs.size (.tup [x, y])) { s with heap := h2, toks := s.toks } := Inv.turnedL (s := { s with heap := s.heap.push { cls := .type "tuple", data := .seq #[u, u2] }, toks := s.toks }) (h' := h2) I0 (t' := s.toks) (fp := [z, TI, TO, i1, i2]) (fun c o hc q => by
      have n1 : c ≠ z := fun e => hc (by simp [e])
      have n3 : c ≠ TO := fun e => hc (by simp [e])
      have n4 : c ≠ i1 := fun e => hc (by simp [e])
      have n5 : c ≠ i2 := fun e => hc (by simp [e])
      refine (hs2'.2 c n1).trans ?_
      rcases Heap.get?_push_cases q with ⟨z1, z2⟩ | q
      · rw [z1, z2]; exact a5
      · exact hk c o n1 n3 n4 n5 q) fun c hc => ⟨hn c hc, (hf c hc).2⟩
    refine ⟨.ref s.heap.objs.size, _, I2, rfl, ⟨s.heap.objs.size, x, y, hfr, rfl, rfl, fun zs h => by rw [I.list_inj h hq]; exact hx, fun zs h => by rw [I.list_inj h hr]; exact hy⟩, ?_, hn⟩
    refine ⟨g1, (hs2'.2 TI D.TIz).trans (hk _ _ D.TIz D.TITO D.TIi1 D.TIi2 kI), ⟨_, _, (hs2'.2 TO D.TOz).trans a2⟩, a3.at fun o q => (hs2'.2 i1 D.i1z).trans q, a4.at fun o q => (hs2'.2 i2 D.i2z).trans q⟩
  done := by
    intro X hP hw hK hc i pins s σ H E I hf st hg
    subst hP hw hK
    obtain ⟨xs, ys, hq, hr, hx⟩ := hg
    obtain ⟨its, rv, p, hz⟩ := I.list hq
    obtain ⟨its2, rv2, p2, hz2⟩ := I.list hr
    obtain ⟨kz, kI, ⟨o1, o2, kO⟩, k1, k2⟩ := st
    have hl := rv.length
    have hl2 := rv2.length
    refine wpAny_pyNext_zip_end (I.ok.hd hc) D kz kI kO k1 k2 p.isList p2.isList ?_ fun h' eb => ⟨rfl, Inv.turnedL I (t' := s.toks) (fun c o hc e => eb c o (fun e => hc (by simp [e])) (fun e => hc (by simp [e])) (fun e => hc (by simp [e])) (fun e => hc (by simp [e])) e) hf⟩
    rcases hx with hx | hx
    · exact .inl (by simp; omega)
    · exact .inr (by simp; omega)
  self := fun _ _ _ _ _ st h => wpAny_pyIter_zip st.1 h
theorem ne_nat (x y : Nat) (h : ¬ x = y) : @Ne Addr x y := h
theorem zip_apart (n a b : Nat) (ha : a < n) (hb : b < n) : ZipApart (n + 4) (n + 2) (n + 3) n (n + 1) a b :=
  ⟨ne_nat _ _ (by omega), ne_nat _ _ (by omega), ne_nat _ _ (by omega), ne_nat _ _ (by omega), ne_nat _ _ (by omega), ne_nat _ _ (by omega), ne_nat _ _ (by omega), ne_nat _ _ (by omega), ne_nat _ _ (by omega),
   ne_nat _ _ (by omega), ne_nat _ _ (by omega), ne_nat _ _ (by omega), ne_nat _ _ (by omega), ne_nat _ _ (by omega), ne_nat _ _ (by omega), ne_nat _ _ (by omega), ne_nat _ _ (by omega), ne_nat _ _ (by omega)⟩
section
variable {X : Cx}
def iZip (K : PySem.W.Frag) (ta : TA) : TI := fun σ H R => ta σ H fun vs H1 => ∃ a b, vs = [.ref a, .ref b] ∧ (∃ xs, SqL K H1 a xs) ∧ (∃ ys, SqL K H1 b ys) ∧ R (Itz K a b) H1
theorem pi_zip {l1 l2 : Expr} {ta : TA} {es : List Expr} {k : Nat} {tp p pos : Pos} (hg : Gl X "zip") (hm : X.mg "zip" = none) (ha : PA X [l1, l2] ta) (hs : starEach [l1, l2] X.env = (false, eval l1 X.env) :: starEach [l2] X.env := by rfl) (hs2 : (backTo pos (starEach [l2] X.env)).any (·.1) = false := by rfl) :
    PI X (.Tuple es k tp) (.Call (.Name "zip" p) [l1, l2] [] pos) (iZip X.K ta) := by
  intro pins s σ H R I h
  refine Call_ (ld_blt I hg hm bt_zip (PyProof.Rows.callWith_type1 (thn (ha pos pins s σ H _ I h) fun us s1 ⟨vs, H1, I1, r1, q1⟩ => ?_) hs hs2))
  obtain ⟨a, b, e, ⟨xs, hq⟩, ⟨ys, hr⟩, q⟩ := q1
  subst e
  obtain ⟨u, u2, rfl, ru, ru2⟩ := vals2 r1
  cases ru
  cases ru2
  obtain ⟨its, rv, p, hz⟩ := I1.list hq
  obtain ⟨its2, rv2, p2, hz2⟩ := I1.list hr
  have la : a < s1.heap.objs.size := by obtain ⟨_, _, q, _⟩ := p; exact Heap.lt_size q
  have lb : b < s1.heap.objs.size := by obtain ⟨_, _, q, _⟩ := p2; exact Heap.lt_size q
  refine call_zip_2 p.isList p2.isList fun h' kz kI kO k1 k2 hsz hk => ?_
  refine wpAny_pyIter_zip kz ?_
  refine ⟨s1.heap.objs.size + 4, [s1.heap.objs.size + 4, s1.heap.objs.size + 2, s1.heap.objs.size + 3, s1.heap.objs.size, s1.heap.objs.size + 1], _, _, H1, rfl, I1.kept (t' := s1.toks) hk,
    turn_zip a b (s1.heap.objs.size + 4) (s1.heap.objs.size + 2) (s1.heap.objs.size + 3) s1.heap.objs.size (s1.heap.objs.size + 1) (zip_apart _ a b la lb), ⟨kz, kI, ⟨_, _, kO⟩, k1, k2⟩, fun c hc => ?_, q⟩
  have hb' : s1.heap.objs.size ≤ c := by
    simp only [List.mem_cons, List.not_mem_nil, or_false] at hc
    rcases hc with rfl | rfl | rfl | rfl | rfl
    · exact Nat.le_add_right _ _
    · exact Nat.le_add_right _ _
    · exact Nat.le_add_right _ _
    · exact Nat.le_refl _
    · exact Nat.le_add_right _ _
  exact I1.fpOk hb' (I1.hok.fresh hb')
end
theorem compG_zip {K : PySem.W.Frag} {a b : Addr} {xs zs : List V} {g : TG} {tt : TT} {te : TE} {n : Nat} {fv : St} {H1 : Hp} {QQ : List V → Hp → Prop} (Pv : Nat → List V → Hp → Prop) (hz : xs.length ≤ sizeLine) (he : zs.length = xs.length) (h0 : Pv 0 [] H1) (hl : ∀ i ys H, i ≤ xs.length → Pv i ys H → SqL K H a xs ∧ SqL K H b zs)
    (hs : ∀ i x z ys H T, xs[i]? = some x → zs[i]? = some z → Pv i ys H → H T = none → g (.ref T) (List.replicate n none ++ fv) (upd H T (.tup [x, z])) fun σ2 H2 => σ2.drop n = fv ∧ tt σ2 H2 fun b H3 => if b = true then te σ2 H3 (fun y H4 => Pv (i + 1) (ys ++ [y]) H4) else Pv (i + 1) ys H3) (hd : ∀ ys H, Pv xs.length ys H → QQ ys H) (hy : ∀ i ys H, Pv i ys H → ys.length ≤ i)
    : tCompG g tt te n fv (Itz K a b) H1 QQ := by
  refine ⟨fun i m ys H => m = xs.length - i ∧ i ≤ xs.length ∧ Pv i ys H, ⟨xs.length, by simp, Nat.zero_le _, h0⟩, ?_⟩
  rintro i m ys H ⟨rfl, hi, p⟩
  have q := hl i ys H hi p
  have hyl := hy i ys H p
  refine ⟨by omega, ?_⟩
  by_cases hlt : i < xs.length
  · have hlz : i < zs.length := by omega
    refine .inr ⟨⟨xs, zs, xs[i], zs[i], q.1, q.2, by simp [hlt], by simp [hlz]⟩, fun zs H2 => Pv (i + 1) zs H2, fun zs H2 p2 => ⟨xs.length - (i + 1), by omega, rfl, hlt, p2⟩, fun v H' y => ?_⟩
    obtain ⟨T, x, z, hT, rfl, rfl, y1, y2⟩ := y
    exact hs i x z ys _ T (y1 xs q.1) (y2 zs q.2) p hT
  · have e : i = xs.length := by omega
    subst e
    exact .inl ⟨⟨xs, zs, q.1, q.2, .inl (Nat.le_refl _)⟩, hd ys H p⟩
section
variable {X : Cx}
/-- the least of a list of ints that isn't empty -/
def rMinL (K : PySem.W.Frag) : List V → Hp → VK → Prop := fun xs H Q => ∃ (p : Addr) (ns : List Int), xs = [.ref p] ∧ SqL K H p (ns.map V.int) ∧ 0 < ns.length ∧ ∀ m : Int, m ∈ ns → (∀ x ∈ ns, m ≤ x) → Q (.int m) H
theorem call_minL (hc : X.calm = true) : CallR X (.builtin "min") (rMinL X.K) := by
  intro pins s σ H xs us Q I r h
  obtain ⟨p, ns, rfl, hq, hne, q⟩ := h
  obtain ⟨u, rfl, ru⟩ := vals1 r
  cases ru
  obtain ⟨its, rv, pl, hz⟩ := I.list hq
  have hi := nums_are rv
  obtain ⟨zs, e⟩ := hi.allInts.items
  have hl : s.heap.IsList p (intItems zs) := by rw [← e]; exact pl.isList
  have e1 : ns = zs.toList.map (·.1) := by
    rw [← nums_intItems, ← e]
    exact (show numsOf its.toArray.toList = ns from hi.numsOf).symm
  subst e1
  rw [List.length_map, Array.length_toList] at hne
  refine min_intList (I.ok.hd hc) hl hne fun v h' tk hv hk => ?_
  obtain ⟨t, rfl⟩ := intItems_at hv
  obtain ⟨h1, h2⟩ := argBest_lt (numAt zs) (zs.size - 1)
  refine ⟨.int _, H, I.kept (t' := tk) hk, ⟨t, rfl⟩, q _ ?_ fun a ha => ?_⟩
  · rw [numAt_eq]; exact PySem.getD_mem (by rw [List.length_map, Array.length_toList]; omega)
  · obtain ⟨j, hj, rfl⟩ := PySem.mem_getD ha
    rw [List.length_map, Array.length_toList] at hj
    rw [← numAt_eq]; exact h2 j (by omega)
end
end L2
/-! ### lists of things of one kind -/
namespace L2
open PySem PySem.Spec PyProof.Rows
def LsAt {α : Type} (R : Hp → V → α → Prop) (H : Hp) (ys : List V) (xs : List α) : Prop := ys.length = xs.length ∧ ∀ (i : Nat) (x : α), xs[i]? = some x → ∃ y, ys[i]? = some y ∧ R H y x
theorem LsAt.nil {α : Type} {R : Hp → V → α → Prop} {H : Hp} : LsAt R H [] [] := ⟨rfl, fun i x e => by simp at e⟩
theorem LsAt.imp {α : Type} {R R' : Hp → V → α → Prop} {H H' : Hp} {ys : List V} {xs : List α} (h : LsAt R H ys xs) (m : ∀ y x, R H y x → R' H' y x) : LsAt R' H' ys xs := ⟨h.1, fun i x e => by
  obtain ⟨y, a, b⟩ := h.2 i x e
  exact ⟨y, a, m y x b⟩⟩
theorem LsAt.snoc {α : Type} {R : Hp → V → α → Prop} {H : Hp} {ys : List V} {xs : List α} {y : V} {x : α} (h : LsAt R H ys xs) (r : R H y x) : LsAt R H (ys ++ [y]) (xs ++ [x]) := by
  refine ⟨by rw [List.length_append, List.length_append, h.1]; rfl, fun j k e => ?_⟩
  by_cases hj : j < xs.length
  · rw [List.getElem?_append_left hj] at e
    obtain ⟨p, a1, a2⟩ := h.2 j k e
    exact ⟨p, by rw [List.getElem?_append_left (by rw [h.1]; exact hj)]; exact a1, a2⟩
  · rw [List.getElem?_append_right (by omega)] at e
    have hj2 : j = xs.length := by
      have := (List.getElem?_eq_some_iff.mp e).1
      rw [List.length_singleton] at this
      omega
    subst hj2
    rw [Nat.sub_self] at e
    cases e
    exact ⟨y, by rw [← h.1, List.getElem?_append_right (Nat.le_refl _), Nat.sub_self]; rfl, r⟩
theorem LsAt.get {α : Type} {R : Hp → V → α → Prop} {H : Hp} {ys : List V} {xs : List α} {i : Nat} {y : V} (h : LsAt R H ys xs) (e : ys[i]? = some y) : ∃ x, xs[i]? = some x ∧ R H y x := by
  have hi : i < xs.length := by rw [← h.1]; exact (List.getElem?_eq_some_iff.mp e).1
  obtain ⟨z, a, b⟩ := h.2 i _ (List.getElem?_eq_getElem hi)
  rw [e] at a
  cases a
  exact ⟨_, List.getElem?_eq_getElem hi, b⟩
end L2

namespace L2
open PySem PySem.Spec PyProof.Rows
theorem vals_by : ∀ {ys : List V} {us : List Value}, ys.length = us.length → (∀ (i : Nat) (y : V) (u : Value), ys[i]? = some y → us[i]? = some u → RelV y u) → Vals ys us
  | [], [], _, _ => .nil
  | [], _ :: _, e, _ => by cases e
  | _ :: _, [], e, _ => by cases e
  | y :: ys, u :: us, e, h => .cons (h 0 y u rfl rfl) (vals_by (Nat.succ.inj e) fun i y u a b => h (i + 1) y u a b)
section
variable {X : Cx}
/-- list(range(e)) -/
theorem pe_listrange {e : Expr} {te : TE} {p p2 pos pos2 : Pos} (hc : X.calm = true) (hg : Gl X "list") (hm : X.mg "list" = none) (hg2 : Gl X "range") (hm2 : X.mg "range" = none) (he : PE X e te)
    (h1 : starEach [.Call (.Name "range" p2) [e] [] pos2] X.env = [(false, eval (.Call (.Name "range" p2) [e] [] pos2) X.env)] := by rfl) (h2 : starEach [e] X.env = (false, eval e X.env) :: starEach [] X.env := by rfl) :
    PE X (.Call (.Name "list" p) [.Call (.Name "range" p2) [e] [] pos2] [] pos) (fun σ H Q => te σ H fun x H1 => ∃ n : Nat, x = .int (n : Int) ∧ n ≤ 1000 ∧ ∀ q, H1 q = none → Q (.ref q) (upd H1 q (.lst ((List.range n).map fun (i : Nat) => V.int ((i : Nat) : Int))))) := by
  intro pins s σ H Q I h
  refine wpAny_Call_Name_kw (ld_blt I hg hm bt_list ?_)
  refine PyProof.Rows.callWith_type1 ?_ h1 rfl
  rw [h1]
  refine Calls.spliced_cons ?_
  refine wpAny_Call_Name_kw (ld_blt I hg2 hm2 boot_range ?_)
  refine PyProof.Rows.callWith_type1 ?_ h2 rfl
  rw [h2]
  refine Calls.spliced_cons (thn (he pins s σ H _ I h) fun u s1 ⟨x, H1, I1, r1, q1⟩ => ?_)
  obtain ⟨n, rfl, hn, q⟩ := q1
  obtain ⟨t, rfl⟩ := r1
  refine Calls.spliced_nil ?_
  refine call_range_1 ?_
  refine Calls.spliced_nil ?_
  have I2 : Inv X pins σ H1 { s1 with heap := s1.heap.push { cls := .type "range", data := .fields #[.int 0 s1.toks, .int (n : Int) t, .int 1 (s1.toks + 1)] }, toks := s1.toks + 1 + 1 } := I1.kept fun b o e => Heap.get?_push_of_some _ e
  refine call_list_range (n := n) (I.ok.hd hc) (IsRange.new ..) (small_one (by omega) (by omega) (by omega) (by omega)) (by rw [rangeSize_one]; split <;> omega) (by omega) fun h' tk acc' c' hk hS hacc => ?_
  have I3 : Inv X pins σ H1 { s1 with heap := h', toks := tk } := I2.kept (t' := tk) fun b o e => hk b o e
  have fS := I2.fpOk (H' := H1) (Nat.le_refl _) (I2.hok.fresh (Nat.le_refl _))
  have hz : ((List.range n).map fun (i : Nat) => V.int ((i : Nat) : Int)).length ≤ sizeLine := by
    rw [List.length_map, List.length_range]
    exact Nat.le_trans hn (by decide)
  have hv : Vals ((List.range n).map fun (i : Nat) => V.int ((i : Nat) : Int)) acc'.toList := by
    refine vals_by (by rw [List.length_map, List.length_range, Array.length_toList, hacc.1]) fun i y u a b => ?_
    rw [Array.getElem?_toList] at b
    obtain ⟨tk', e⟩ := hacc.2 i u b
    rw [List.getElem?_map] at a
    obtain ⟨j, a1, a2⟩ := Option.map_eq_some_iff.mp a
    have hi : i < n := by
      have := (List.getElem?_eq_some_iff.mp a1).1
      rwa [List.length_range] at this
    rw [List.getElem?_range hi] at a1
    cases a1
    subst a2
    subst e
    exact ⟨tk', by rw [Int.zero_add, Int.mul_one]⟩
  have I4 := I3.track (o := .lst ((List.range n).map fun (i : Nat) => V.int ((i : Nat) : Int))) fS ⟨hz, acc'.toList, c', hv, by rw [Array.toArray_toList]; exact hS⟩
  exact ⟨.ref _, _, I4, rfl, q _ fS.1⟩
end
/-! ### a for whose iterable may raise, and whose body does not -/
section
variable {X : Cx} {tg : Expr}
end
/-! ### a def with defaults -/
section
variable {P : Program} {w : World} {K : PySem.W.Frag} {mg : Str → Option Value} {base : Heap}
end
end L2

namespace L2
open PySem PySem.Spec PyProof.Rows
section
variable {X : Cx}
end
end L2

namespace L2
open PySem PySem.Spec PyProof.Rows
/-! ### zip walked by one name: its pair may be handed out anew or made anew -/
abbrev Zp (h : Heap) (z TI TO : Addr) (f0 : Value) (f1 : Bool) : Prop := h.get? z = some { cls := .type "zip", dict := none, data := .fields #[f0, .bool f1, .bool false, .ref TI, .ref TO], slots := #[] }
def OkF (f0 : Value) : Prop := f0 = .none ∨ ∃ n t, f0 = .int n t
section
variable {prog : Program} {w : World} {A : Around} {E : Value → Shared → Prop} {s : Shared} {z TI TO i1 i2 l1 l2 : Addr} {f0 : Value} {f1 : Bool}
theorem alive_any {a : Addr} {Q : Option Obj → Shared → Prop} (h : Q (s.heap.get? a) s) : wpAny (model prog w) A (loadIfAlive a) Q E s := fun _ _ _ => h
theorem zp_free {R : Bool → Shared → Prop} (hz : Zp s.heap z TI TO f0 f1) (ok : OkF f0) (h : ∀ (b g1 : Bool) (h' : Heap), Zp h' z TI TO f0 g1 → Heap.SameBut z s.heap h' → R b { s with heap := h' }) :
    wpAny (model prog w) A (Builtin.SmallTypes.ownedTupleIsFree (.ref z)) R E s := by
  have me : R true s ∧ R false s := ⟨h true f1 s.heap hz (Heap.SameBut.refl _ _), h false f1 s.heap hz (Heap.SameBut.refl _ _)⟩
  unfold Builtin.SmallTypes.ownedTupleIsFree
  refine wpAny_bind (wpAny_field hz rfl (x := f0) rfl ?_)
  rcases ok with rfl | ⟨n, t, rfl⟩
  · exact wpAny_pure me.1
  · refine wpAny_bind (alive_any ?_)
    cases s.heap.get? n.toNat with
    | none => exact wpAny_pure me.1
    | some o =>
      refine wpAny_bind (wpAny_field hz rfl (x := .bool f1) rfl ?_)
      cases f1 with
      | true => exact wpAny_pure me.2
      | false => exact wpAny_bind (wpAny_setField_rec hz (by simp) fun h1 z1 s1 => wpAny_pure (h false true h1 z1 s1))
/-- a turn, whatever became of the pair that was handed out -/
theorem zp_item {k1 k2 : Nat} {xs ys : Array Value} {x y a b : Value} {Q : Value → Shared → Prop} (D : ZipApart z TI TO i1 i2 l1 l2) (hz : Zp s.heap z TI TO f0 f1) (ok : OkF f0) (hI : IsPair s.heap TI (.ref i1) (.ref i2)) (hO : IsPair s.heap TO a b)
    (h1 : s.heap.IsListIter i1 l1 k1) (h2 : s.heap.IsListIter i2 l2 k2) (q1 : s.heap.IsList l1 xs) (q2 : s.heap.IsList l2 ys) (hx : xs[k1]? = some x) (hy : ys[k2]? = some y)
    (hQ : ∀ (h' : Heap) (g0 : Value) (g1 : Bool) (c d : Value), Zp h' z TI TO g0 g1 → OkF g0 → IsPair h' TO c d → h'.IsListIter i1 l1 (k1 + 1) → h'.IsListIter i2 l2 (k2 + 1) → IsPair h' s.heap.objs.size x y →
      (∀ c o, c ≠ z → c ≠ TO → c ≠ i1 → c ≠ i2 → s.heap.get? c = some o → h'.get? c = some o) → Q (.ref s.heap.objs.size) { s with heap := h' }) :
    wpAny (model prog w) A (Builtin.«zip.__next__» ⟨[.ref z], []⟩) (fun fin s' => ∃ v, fin = .done (.ret v) ∧ Q v s') E s := by
  show wpAny _ _ (field (.ref z) 2 >>= _) _ _ _
  refine wpAny_bind (wpAny_field hz rfl (x := .bool false) rfl ?_)
  refine wpAny_bind (wpAny_field hz rfl (x := .ref TI) rfl (wpAny_bind (wpAny_seqItems hI rfl ?_)))
  refine wpAny_bind (m := Builtin.SmallTypes.ownedTupleIsFree (.ref z)) (zp_free hz ok fun fr g1 h0 z0 e0 => ?_)
  have I0 := e0.extBut _ _ D.TIz hI
  have O0 := e0.extBut _ _ D.TOz hO
  have a1 := h1.extBut e0.extBut D.i1z
  have a2 := h2.extBut e0.extBut D.i2z
  have b1 := q1.extBut e0.extBut D.l1z
  have b2 := q2.extBut e0.extBut D.l2z
  have n0 : h0.objs.size = s.heap.objs.size := e0.1
  cases fr with
  | true =>
    simp only [if_true]
    refine wpAny_bind (wpAny_rule (wpAny_bind (wpAny_field z0 rfl (x := .ref TO) rfl ?_)))
    refine wpAny_bind (wpAny_setField_rec z0 (by simp) fun hA zA eA => ?_)
    replace zA : Zp hA z TI TO .ellipsis g1 := zA
    refine wpAny_bind ?_
    simp only [List.zipIdx_cons, List.zipIdx_nil, List.forIn_cons, List.forIn_nil]
    refine wpAny_bind (wpAny_bind (wpAny_onRaise ?_))
    refine wpAny_bind (m := Builtin.SmallTypes.nextOf (.ref i1)) (wpAny_nextOf_list_item (a1.extBut eA.extBut D.i1z) (b1.extBut eA.extBut D.l1z) hx fun hB iB eB => wpAny_pure ?_)
    have OB : IsPair hB TO a b := eB.extBut _ _ D.TOi1 (eA.extBut _ _ D.TOz O0)
    refine wpAny_bind (wpAny_seqItems OB rfl (wpAny_bind (wpAny_updateSeq_pair OB fun hC OC eC => ?_)))
    replace OC : IsPair hC TO x b := OC
    refine wpAny_bind (wpAny_letGo (wpAny_pure (wpAny_bind (wpAny_bind (wpAny_onRaise ?_)))))
    refine wpAny_bind (m := Builtin.SmallTypes.nextOf (.ref i2)) (wpAny_nextOf_list_item (((a2.extBut eA.extBut D.i2z).extBut eB.extBut D.i12.symm).extBut eC.extBut D.TOi2.symm) (((b2.extBut eA.extBut D.l2z).extBut eB.extBut D.l2i1).extBut eC.extBut D.l2TO) hy fun hD iD eD => wpAny_pure ?_)
    have OD : IsPair hD TO x b := eD.extBut _ _ D.TOi2 OC
    refine wpAny_bind (wpAny_seqItems OD rfl (wpAny_bind (wpAny_updateSeq_pair OD fun hE OE eE => ?_)))
    replace OE : IsPair hE TO x y := OE
    refine wpAny_bind (wpAny_letGo (wpAny_pure (wpAny_pure (wpAny_bind (wpAny_seqItems OE rfl (wpAny_bind (wpAny_newTuple ?_)))))))
    have nE : hE.objs.size = s.heap.objs.size := by rw [eE.1, eD.1, eC.1, eB.1, eA.1, n0]
    have zE : Zp hE z TI TO .ellipsis g1 := eE.extBut _ _ D.TOz.symm (eD.extBut _ _ D.i2z.symm (eC.extBut _ _ D.TOz.symm (eB.extBut _ _ D.i1z.symm zA)))
    have lz : z < hE.objs.size := Heap.lt_size zE
    have kp : ∀ c o, c ≠ z → c ≠ TO → c ≠ i1 → c ≠ i2 → s.heap.get? c = some o → hE.get? c = some o := fun c o c1 c2 c3 c4 e => eE.extBut _ _ c2 (eD.extBut _ _ c4 (eC.extBut _ _ c2 (eB.extBut _ _ c3 (eA.extBut _ _ c1 (e0.extBut _ _ c1 e)))))
    refine wpAny_bind (m := Builtin.SmallTypes.ownedTupleHandOut (.ref z) (.ref hE.objs.size)) ?_
    unfold Builtin.SmallTypes.ownedTupleHandOut
    have zF : Zp (hE.push { cls := .type "tuple", data := .seq #[x, y] }) z TI TO .ellipsis g1 := Heap.get?_push_of_some _ zE
    refine wpAny_bind (wpAny_setField_rec zF (by simp) fun hG zG eG => wpAny_setField_rec zG (by simp) fun hJ zJ eJ => wpAny_pure ⟨_, rfl, ?_⟩)
    have up : ∀ c o, c ≠ z → hE.get? c = some o → hJ.get? c = some o := fun c o c1 e => eJ.extBut _ _ c1 (eG.extBut _ _ c1 (Heap.get?_push_of_some _ e))
    have TJ : IsPair hJ hE.objs.size x y := eJ.extBut _ _ (Nat.ne_of_gt lz) (eG.extBut _ _ (Nat.ne_of_gt lz) (Heap.get?_push_size _ rfl))
    rw [nE] at TJ zJ
    show Q (.ref hE.objs.size) _
    rw [nE]
    refine hQ hJ _ false x y zJ (.inr ⟨_, _, rfl⟩) (up _ _ D.TOz OE) ?_ ?_ TJ fun c o c1 c2 c3 c4 e => up c o c1 (kp c o c1 c2 c3 c4 e)
    · exact (((iB.extBut eC.extBut D.TOi1.symm).extBut eD.extBut D.i12).extBut eE.extBut D.TOi1.symm).at fun o e => up _ o D.i1z e
    · exact (iD.extBut eE.extBut D.TOi2.symm).at fun o e => up _ o D.i2z e
  | false =>
    simp only [Bool.false_eq_true, if_false]
    refine wpAny_bind ?_
    simp only [List.forIn_toArray, List.forIn_cons, List.forIn_nil]
    refine wpAny_bind (wpAny_bind (wpAny_holding ?_))
    refine wpAny_bind (m := Builtin.SmallTypes.nextOf (.ref i1)) (wpAny_nextOf_list_item a1 b1 hx fun hA iA eA => wpAny_pure ?_)
    refine wpAny_pure ?_
    refine wpAny_bind (wpAny_bind (wpAny_holding ?_))
    refine wpAny_bind (m := Builtin.SmallTypes.nextOf (.ref i2)) (wpAny_nextOf_list_item (a2.extBut eA.extBut D.i12.symm) (b2.extBut eA.extBut D.l2i1) hy fun hB iB eB => wpAny_pure ?_)
    refine wpAny_pure (wpAny_pure ?_)
    refine wpAny_bind (wpAny_newTuple (hsz := by show 2 ≤ sizeLine; decide) (wpAny_pure ⟨_, rfl, ?_⟩))
    have nB : hB.objs.size = s.heap.objs.size := by rw [eB.1, eA.1, n0]
    show Q (.ref hB.objs.size) _
    rw [nB]
    have up : ∀ c o, hB.get? c = some o → (hB.push { cls := .type "tuple", data := .seq #[x, y] }).get? c = some o := fun c o e => Heap.get?_push_of_some _ e
    have TB : IsPair (hB.push { cls := .type "tuple", data := .seq #[x, y] }) hB.objs.size x y := Heap.get?_push_size _ rfl
    rw [nB] at TB
    refine hQ _ f0 g1 a b (up _ _ (eB.extBut _ _ D.i2z.symm (eA.extBut _ _ D.i1z.symm z0))) ok (up _ _ (eB.extBut _ _ D.TOi2 (eA.extBut _ _ D.TOi1 O0))) ?_ ?_ TB fun c o c1 c2 c3 c4 e => up _ _ (eB.extBut _ _ c4 (eA.extBut _ _ c3 (e0.extBut _ _ c1 e)))
    · exact (iA.extBut eB.extBut D.i12).at fun o e => up _ o e
    · exact iB.at fun o e => up _ o e
theorem zp_stop {k1 : Nat} {xs : Array Value} {a b : Value} {Q : Fin → Shared → Prop} (hh : A.handled = none) (D : ZipApart z TI TO i1 i2 l1 l2) (hz : Zp s.heap z TI TO f0 f1) (ok : OkF f0) (hI : IsPair s.heap TI (.ref i1) (.ref i2)) (hO : IsPair s.heap TO a b)
    (h1 : s.heap.IsListIter i1 l1 k1) (q1 : s.heap.IsList l1 xs) (hx : xs[k1]? = none)
    (hE : ∀ h' e, (∀ c o, c ≠ z → c ≠ TO → c ≠ i1 → c ≠ i2 → s.heap.get? c = some o → h'.get? c = some o) → (∃ o, h'.get? e = some o ∧ o.cls = .type "StopIteration") → E (.ref e) { s with heap := h' }) :
    wpAny (model prog w) A (Builtin.«zip.__next__» ⟨[.ref z], []⟩) Q E s := by
  show wpAny _ _ (field (.ref z) 2 >>= _) _ _ _
  refine wpAny_bind (wpAny_field hz rfl (x := .bool false) rfl ?_)
  refine wpAny_bind (wpAny_field hz rfl (x := .ref TI) rfl (wpAny_bind (wpAny_seqItems hI rfl ?_)))
  refine wpAny_bind (m := Builtin.SmallTypes.ownedTupleIsFree (.ref z)) (zp_free hz ok fun fr g1 h0 z0 e0 => ?_)
  have a1 := h1.extBut e0.extBut D.i1z
  have b1 := q1.extBut e0.extBut D.l1z
  cases fr with
  | true =>
    simp only [if_true]
    refine wpAny_bind (wpAny_rule (wpAny_bind (wpAny_field z0 rfl (x := .ref TO) rfl ?_)))
    refine wpAny_bind (wpAny_setField_rec z0 (by simp) fun hA zA eA => ?_)
    replace zA : Zp hA z TI TO .ellipsis g1 := zA
    refine wpAny_bind ?_
    simp only [List.zipIdx_cons, List.zipIdx_nil, List.forIn_cons, List.forIn_nil]
    refine wpAny_bind (wpAny_bind (wpAny_onRaise ?_))
    refine wpAny_bind (m := Builtin.SmallTypes.nextOf (.ref i1)) (wpAny_nextOf_list_end hh (a1.extBut eA.extBut D.i1z) (b1.extBut eA.extBut D.l1z) hx fun hB e eB he => ?_)
    obtain ⟨oe, hoe, hce⟩ := he
    have zB : Zp hB z TI TO .ellipsis g1 := eB _ _ D.i1z.symm zA
    have nez : e ≠ z := fun y => by subst y; rw [zB] at hoe; cases hoe; simp at hce
    exact wpAny_setField_rec zB (by simp) fun hC _ eC => hE hC e (fun c o c1 _ c3 _ y => eC.extBut _ _ c1 (eB _ _ c3 (eA.extBut _ _ c1 (e0.extBut _ _ c1 y)))) ⟨oe, eC.extBut _ _ nez hoe, hce⟩
  | false =>
    simp only [Bool.false_eq_true, if_false]
    refine wpAny_bind ?_
    simp only [List.forIn_toArray, List.forIn_cons, List.forIn_nil]
    refine wpAny_bind (wpAny_bind (wpAny_holding ?_))
    refine wpAny_bind (m := Builtin.SmallTypes.nextOf (.ref i1)) (wpAny_nextOf_list_end hh a1 b1 hx fun hB e eB he => ?_)
    exact hE hB e (fun c o c1 _ c3 _ y => eB _ _ c3 (e0.extBut _ _ c1 y)) he
theorem zp_next {k1 k2 : Nat} {xs ys : Array Value} {x y a b : Value} {Q : Option Value → Shared → Prop} (D : ZipApart z TI TO i1 i2 l1 l2) (hz : Zp s.heap z TI TO f0 f1) (ok : OkF f0) (hI : IsPair s.heap TI (.ref i1) (.ref i2)) (hO : IsPair s.heap TO a b)
    (h1 : s.heap.IsListIter i1 l1 k1) (h2 : s.heap.IsListIter i2 l2 k2) (q1 : s.heap.IsList l1 xs) (q2 : s.heap.IsList l2 ys) (hx : xs[k1]? = some x) (hy : ys[k2]? = some y)
    (hQ : ∀ (h' : Heap) (g0 : Value) (g1 : Bool) (c d : Value), Zp h' z TI TO g0 g1 → OkF g0 → IsPair h' TO c d → h'.IsListIter i1 l1 (k1 + 1) → h'.IsListIter i2 l2 (k2 + 1) → IsPair h' s.heap.objs.size x y →
      (∀ c o, c ≠ z → c ≠ TO → c ≠ i1 → c ≠ i2 → s.heap.get? c = some o → h'.get? c = some o) → Q (some (.ref s.heap.objs.size)) { s with heap := h' }) :
    wpAny (model prog w) A (pyNext (.ref z)) Q E s := by
  have ty : s.TypeIs (.ref z) "zip" := ⟨_, hz, rfl⟩
  unfold pyNext
  exact wpAny_bind (wpAny_attempt (wpAny_callSpecial?_slot (name := Str.ofString "__next__") ty F.slot_zip_next (wpAny_call_entry F.slot_zip_next ty F.entry_zip_next
      (zp_item D hz ok hI hO h1 h2 q1 q2 hx hy fun h' g0 g1 c d b1 b2 b3 b4 b5 b6 b7 => wpAny_pure (hQ h' g0 g1 c d b1 b2 b3 b4 b5 b6 b7)) (F.args_zip_next_1 _))))
theorem zp_done {k1 : Nat} {xs : Array Value} {a b : Value} {Q : Option Value → Shared → Prop} (hh : A.handled = none) (D : ZipApart z TI TO i1 i2 l1 l2) (hz : Zp s.heap z TI TO f0 f1) (ok : OkF f0) (hI : IsPair s.heap TI (.ref i1) (.ref i2)) (hO : IsPair s.heap TO a b)
    (h1 : s.heap.IsListIter i1 l1 k1) (q1 : s.heap.IsList l1 xs) (hx : xs[k1]? = none)
    (hQ : ∀ h', (∀ c o, c ≠ z → c ≠ TO → c ≠ i1 → c ≠ i2 → s.heap.get? c = some o → h'.get? c = some o) → Q none { s with heap := h' }) : wpAny (model prog w) A (pyNext (.ref z)) Q E s := by
  have ty : s.TypeIs (.ref z) "zip" := ⟨_, hz, rfl⟩
  unfold pyNext
  refine wpAny_bind (wpAny_attempt (wpAny_callSpecial?_slot (name := Str.ofString "__next__") ty F.slot_zip_next (wpAny_call_entry F.slot_zip_next ty F.entry_zip_next (zp_stop hh D hz ok hI hO h1 q1 hx fun h' e hk he => ?_) (F.args_zip_next_1 _))))
  obtain ⟨o, ho, hc⟩ := he
  exact wpAny_bind (wpAny_isInstance (T := "StopIteration") (b := true) ⟨o, ho, hc⟩ isSubtype_stop (wpAny_pure (hQ _ hk)))
theorem zp_self {Q : Value → Shared → Prop} (hz : Zp s.heap z TI TO f0 f1) (h : Q (.ref z) s) : wpAny (model prog w) A (pyIter (.ref z)) Q E s := by
  have ty : s.TypeIs (.ref z) "zip" := ⟨_, hz, rfl⟩
  refine wpAny_pyIter_slot ty F.slot_zip_iter (wpAny_call_entry F.slot_zip_iter ty F.entry_zip_iter ?_ (F.args_zip_iter_1 _))
  show wpAny _ _ (ret (.ref z)) _ _ s
  exact wpAny_pure ⟨_, rfl, "zip", _, ty, F.slot_zip_next.lookup, h⟩
end
/-- zip(list, list), walked by one name; the lists as long as one another -/
def Itn (K : PySem.W.Frag) (a b : Addr) : It :=
  ⟨fun i H => ∃ xs ys x y, SqL K H a xs ∧ SqL K H b ys ∧ xs[i]? = some x ∧ ys[i]? = some y,
   fun i H v H' => ∃ T x y, H T = none ∧ v = .ref T ∧ H' = upd H T (.tup [x, y]) ∧ (∀ xs, SqL K H a xs → xs[i]? = some x) ∧ ∀ ys, SqL K H b ys → ys[i]? = some y,
   fun i H => ∃ xs, SqL K H a xs ∧ xs.length ≤ i⟩
theorem turn_zipN {P : Program} {w : World} {K : PySem.W.Frag} {nm : Str} {pos : Pos} (a b z TI TO i1 i2 : Addr) (D : ZipApart z TI TO i1 i2 a b) : Turn P w K (.Name nm pos) (Itn K a b) [z, TI, TO, i1, i2] z
    (fun i h => (∃ g0 g1, Zp h z TI TO g0 g1 ∧ OkF g0) ∧ IsPair h TI (.ref i1) (.ref i2) ∧ (∃ u v, IsPair h TO u v) ∧ h.IsListIter i1 a i ∧ h.IsListIter i2 b i) where
  mem := by simp
  obj := fun i h st c hc => by
    obtain ⟨⟨g0, g1, kz, _⟩, kI, ⟨u, v, kO⟩, ⟨o1, q1, c1, d1⟩, ⟨o2, q2, c2, d2⟩⟩ := st
    simp only [List.mem_cons, List.not_mem_nil, or_false] at hc
    rcases hc with rfl | rfl | rfl | rfl | rfl
    · exact ⟨_, kz, fun v z => by have z' : Data.fields _ = Data.cell v := z; cases z'⟩
    · exact ⟨_, kI, fun v z => by have z' : Data.seq _ _ = Data.cell v := z; cases z'⟩
    · exact ⟨_, kO, fun v z => by have z' : Data.seq _ _ = Data.cell v := z; cases z'⟩
    · exact ⟨o1, q1, fun v z => by rw [d1] at z; cases z⟩
    · exact ⟨o2, q2, fun v z => by rw [d2] at z; cases z⟩
  keep := fun i h h' st kk => by
    obtain ⟨⟨g0, g1, kz, ok⟩, kI, ⟨u, v, kO⟩, k1, k2⟩ := st
    exact ⟨⟨g0, g1, kk _ (by simp) _ kz, ok⟩, kk _ (by simp) _ kI, ⟨u, v, kk _ (by simp) _ kO⟩, k1.at fun o q => kk i1 (by simp) o q, k2.at fun o q => kk i2 (by simp) o q⟩
  item := by
    intro X hP hw hK hc i pins s σ H E I hf st hg
    subst hP hw hK
    obtain ⟨xs, ys, x, y, hq, hr, hx, hy⟩ := hg
    obtain ⟨its, rv, p, hz⟩ := I.list hq
    obtain ⟨its2, rv2, p2, hz2⟩ := I.list hr
    obtain ⟨u, hu, ru⟩ := rv.get hx
    obtain ⟨u2, hu2, ru2⟩ := rv2.get hy
    obtain ⟨⟨g0, g1, kz, ok⟩, kI, ⟨o1, o2, kO⟩, k1, k2⟩ := st
    refine zp_next D kz ok kI kO k1 k2 p.isList p2.isList (x := u) (y := u2) (by simpa using hu) (by simpa using hu2) fun h' e0 e1 c d a1 a2 a3 a4 a5 a6 hk => ?_
    refine ⟨_, rfl, ?_⟩
    unfold letOwnedTupleGo
    refine wpAny_pure ?_
    have lz : z < s.heap.objs.size := Heap.lt_size kz
    have lI : TI < s.heap.objs.size := Heap.lt_size kI
    have lO : TO < s.heap.objs.size := Heap.lt_size kO
    have l1 : i1 < s.heap.objs.size := by obtain ⟨_, q, _⟩ := k1; exact Heap.lt_size q
    have l2 : i2 < s.heap.objs.size := by obtain ⟨_, q, _⟩ := k2; exact Heap.lt_size q
    have hfr : H s.heap.objs.size = none := I.hok.fresh (Nat.le_refl _)
    have I0 : Inv X pins σ (upd H s.heap.objs.size (.tup [x, y])) { s with heap := s.heap.push { cls := .type "tuple", data := .seq #[u, u2] }, toks := s.toks } :=
      I.laid (t' := s.toks) (fun b u e => Heap.get?_push_of_some _ e) (Nat.le_refl _) ⟨by show 2 ≤ sizeLine; decide, [u, u2], .cons ru (.cons ru2 .nil), ⟨_, Heap.get?_push_size _ rfl, rfl, _, rfl⟩⟩
    have hfb : ∀ c ∈ [z, TI, TO, i1, i2], c < s.heap.objs.size := fun c hc => by
      simp only [List.mem_cons, List.not_mem_nil, or_false] at hc
      rcases hc with rfl | rfl | rfl | rfl | rfl <;> assumption
    have hn : ∀ c ∈ [z, TI, TO, i1, i2], upd H s.heap.objs.size (.tup [x, y]) c = none := fun c hc => by
      rw [upd_ne (Nat.ne_of_lt (hfb c hc))]
      exact (hf c hc).1
    have I2 : Inv X pins σ (upd H s.heap.objs.size (.tup [x, y])) { s with heap := h', toks := s.toks } := Inv.turnedL (s := { s with heap := s.heap.push { cls := .type "tuple", data := .seq #[u, u2] }, toks := s.toks }) (h' := h') I0 (t' := s.toks) (fp := [z, TI, TO, i1, i2]) (fun c o hc q => by
      have n1 : c ≠ z := fun e => hc (by simp [e])
      have n3 : c ≠ TO := fun e => hc (by simp [e])
      have n4 : c ≠ i1 := fun e => hc (by simp [e])
      have n5 : c ≠ i2 := fun e => hc (by simp [e])
      rcases Heap.get?_push_cases q with ⟨z1, z2⟩ | q
      · rw [z1, z2]; exact a6
      · exact hk c o n1 n3 n4 n5 q) fun c hc => ⟨hn c hc, (hf c hc).2⟩
    refine ⟨.ref s.heap.objs.size, _, I2, rfl, ⟨s.heap.objs.size, x, y, hfr, rfl, rfl, fun zs h => by rw [I.list_inj h hq]; exact hx, fun zs h => by rw [I.list_inj h hr]; exact hy⟩, ?_, hn⟩
    exact ⟨⟨e0, e1, a1, a2⟩, hk _ _ D.TIz D.TITO D.TIi1 D.TIi2 kI, ⟨_, _, a3⟩, a4, a5⟩
  done := by
    intro X hP hw hK hc i pins s σ H E I hf st hg
    subst hP hw hK
    obtain ⟨xs, hq, hx⟩ := hg
    obtain ⟨its, rv, p, hz⟩ := I.list hq
    obtain ⟨⟨g0, g1, kz, ok⟩, kI, ⟨o1, o2, kO⟩, k1, k2⟩ := st
    have hl := rv.length
    exact zp_done (I.ok.hd hc) D kz ok kI kO k1 p.isList (by simp; omega) fun h' eb => ⟨rfl, Inv.turnedL I (t' := s.toks) (fun c o hc e => eb c o (fun e => hc (by simp [e])) (fun e => hc (by simp [e])) (fun e => hc (by simp [e])) (fun e => hc (by simp [e])) e) hf⟩
  self := fun _ _ _ _ _ st h => by
    obtain ⟨⟨g0, g1, kz, _⟩, _⟩ := st
    exact zp_self kz h
section
variable {X : Cx}
def iZipN (K : PySem.W.Frag) (ta : TA) : TI := fun σ H R => ta σ H fun vs H1 => ∃ a b, vs = [.ref a, .ref b] ∧ (∃ xs, SqL K H1 a xs) ∧ (∃ ys, SqL K H1 b ys) ∧ R (Itn K a b) H1
theorem pi_zipN {l1 l2 : Expr} {ta : TA} {nm : Str} {tp p pos : Pos} (hg : Gl X "zip") (hm : X.mg "zip" = none) (ha : PA X [l1, l2] ta) (hs : starEach [l1, l2] X.env = (false, eval l1 X.env) :: starEach [l2] X.env := by rfl) (hs2 : (backTo pos (starEach [l2] X.env)).any (·.1) = false := by rfl) :
    PI X (.Name nm tp) (.Call (.Name "zip" p) [l1, l2] [] pos) (iZipN X.K ta) := by
  intro pins s σ H R I h
  refine Call_ (ld_blt I hg hm bt_zip (PyProof.Rows.callWith_type1 (thn (ha pos pins s σ H _ I h) fun us s1 ⟨vs, H1, I1, r1, q1⟩ => ?_) hs hs2))
  obtain ⟨a, b, e, ⟨xs, hq⟩, ⟨ys, hr⟩, q⟩ := q1
  subst e
  obtain ⟨u, u2, rfl, ru, ru2⟩ := vals2 r1
  cases ru
  cases ru2
  obtain ⟨its, rv, p, hz⟩ := I1.list hq
  obtain ⟨its2, rv2, p2, hz2⟩ := I1.list hr
  have la : a < s1.heap.objs.size := by obtain ⟨_, _, q, _⟩ := p; exact Heap.lt_size q
  have lb : b < s1.heap.objs.size := by obtain ⟨_, _, q, _⟩ := p2; exact Heap.lt_size q
  refine call_zip_2 p.isList p2.isList fun h' kz kI kO k1 k2 hsz hk => ?_
  refine wpAny_pyIter_zip kz ?_
  refine ⟨s1.heap.objs.size + 4, [s1.heap.objs.size + 4, s1.heap.objs.size + 2, s1.heap.objs.size + 3, s1.heap.objs.size, s1.heap.objs.size + 1], _, _, H1, rfl, I1.kept (t' := s1.toks) hk,
    turn_zipN a b (s1.heap.objs.size + 4) (s1.heap.objs.size + 2) (s1.heap.objs.size + 3) s1.heap.objs.size (s1.heap.objs.size + 1) (zip_apart _ a b la lb), ⟨⟨_, _, kz, .inl rfl⟩, kI, ⟨_, _, kO⟩, k1, k2⟩, fun c hc => ?_, q⟩
  have hb' : s1.heap.objs.size ≤ c := by
    simp only [List.mem_cons, List.not_mem_nil, or_false] at hc
    rcases hc with rfl | rfl | rfl | rfl | rfl
    · exact Nat.le_add_right _ _
    · exact Nat.le_add_right _ _
    · exact Nat.le_add_right _ _
    · exact Nat.le_refl _
    · exact Nat.le_add_right _ _
  exact I1.fpOk hb' (I1.hok.fresh hb')
theorem comp_zipN {K : PySem.W.Frag} {a b : Addr} {xs zs : List V} {te : TE} {fv : St} {H1 : Hp} {QQ : List V → Hp → Prop} (Pv : Nat → List V → Hp → Prop) (hz : xs.length ≤ sizeLine) (he : zs.length = xs.length) (h0 : Pv 0 [] H1) (hl : ∀ i ys H, i ≤ xs.length → Pv i ys H → SqL K H a xs ∧ SqL K H b zs)
    (hs : ∀ i x z ys H T, xs[i]? = some x → zs[i]? = some z → Pv i ys H → H T = none → te (some (.ref T) :: fv) (upd H T (.tup [x, z])) fun y H4 => Pv (i + 1) (ys ++ [y]) H4) (hd : ∀ ys H, ys.length = xs.length → Pv xs.length ys H → QQ ys H)
    : tCompR te fv (Itn K a b) H1 QQ := by
  refine ⟨fun i m ys H => m = xs.length - i ∧ i ≤ xs.length ∧ ys.length = i ∧ Pv i ys H, ⟨xs.length, by simp, Nat.zero_le _, rfl, h0⟩, ?_⟩
  rintro i m ys H ⟨rfl, hi, hy, p⟩
  have q := hl i ys H hi p
  refine ⟨by omega, ?_⟩
  by_cases hlt : i < xs.length
  · have hlz : i < zs.length := by omega
    refine .inr ⟨⟨xs, zs, xs[i], zs[i], q.1, q.2, by simp [hlt], by simp [hlz]⟩, fun y H2 => Pv (i + 1) (ys ++ [y]) H2, fun y H2 p2 => ⟨xs.length - (i + 1), by omega, rfl, hlt, by rw [List.length_append, hy]; rfl, p2⟩, fun v H' y => ?_⟩
    obtain ⟨T, x, z, hT, rfl, rfl, y1, y2⟩ := y
    exact hs i x z ys _ T (y1 xs q.1) (y2 zs q.2) p hT
  · have e : i = xs.length := by omega
    subst e
    exact .inl ⟨⟨xs, q.1, Nat.le_refl _⟩, hd ys H hy p⟩
/-- the least of a tuple of ints that isn't empty -/
def rMinT (K : PySem.W.Frag) : List V → Hp → VK → Prop := fun xs H Q => ∃ (p : Addr) (ns : List Int), xs = [.ref p] ∧ SqT K H p (ns.map V.int) ∧ 0 < ns.length ∧ ∀ m : Int, m ∈ ns → (∀ x ∈ ns, m ≤ x) → Q (.int m) H
theorem call_minT (hc : X.calm = true) : CallR X (.builtin "min") (rMinT X.K) := by
  intro pins s σ H xs us Q I r h
  obtain ⟨p, ns, rfl, hq, hne, q⟩ := h
  obtain ⟨u, rfl, ru⟩ := vals1 r
  cases ru
  obtain ⟨its, rv, pl, hz⟩ := I.tuple hq
  have hi := nums_are rv
  obtain ⟨zs, e⟩ := hi.allInts.items
  obtain ⟨o, ho, hcl, n, hd⟩ := pl
  rw [e] at hd
  have ht : s.heap.IsTuple p (intItems zs) := ⟨o, ho, hcl, n, hd⟩
  have e1 : ns = zs.toList.map (·.1) := by
    rw [← nums_intItems, ← e]
    exact (show numsOf its.toArray.toList = ns from hi.numsOf).symm
  subst e1
  rw [List.length_map, Array.length_toList] at hne
  have lt : p < s.heap.objs.size := Heap.lt_size ho
  refine call_min_walk (wpAny_pyIter_tuple ht ?_)
  refine ⟨_, _, _, _, _, _, _, rfl, Walks.tuple (A := X.A.in1) (I.ok.hd hc) _ p (Nat.ne_of_lt lt) (intItems zs), ⟨⟨_, Heap.get?_push_size _ rfl, rfl, rfl⟩, ⟨o, Heap.get?_push_of_some _ ho, hcl, n, hd⟩⟩, fun b hb => ?_, by simpa [intItems] using hne, CmpOf.ints_lt (numAt zs) (fun _ _ => intItems_at), fun v h' tk hP hk => ?_⟩
  · show b < (s.heap.push _).objs.size
    rw [Heap.size_push]
    simp only [List.mem_cons, List.not_mem_nil, or_false] at hb
    rcases hb with rfl | rfl
    · exact Nat.lt_succ_self _
    · exact Nat.lt_succ_of_lt lt
  · have hv : (intItems zs)[argBest (fun i j => decide (numAt zs i < numAt zs j)) (zs.size - 1)]? = some v := by simpa [intItems] using hP
    obtain ⟨t, rfl⟩ := intItems_at hv
    obtain ⟨h1, h2⟩ := argBest_lt (numAt zs) (zs.size - 1)
    refine ⟨.int _, H, I.kept (t' := tk) fun b o e => hk b o (fun hm => ?_) (Heap.get?_push_of_some _ e), ⟨t, rfl⟩, q _ ?_ fun a ha => ?_⟩
    · simp only [List.mem_cons, List.not_mem_nil, or_false] at hm
      exact absurd (hm ▸ Heap.lt_size e) (Nat.lt_irrefl _)
    · rw [numAt_eq]; exact PySem.getD_mem (by rw [List.length_map, Array.length_toList]; omega)
    · obtain ⟨j, hj, rfl⟩ := PySem.mem_getD ha
      rw [List.length_map, Array.length_toList] at hj
      rw [← numAt_eq]; exact h2 j (by omega)
theorem callK_minT {K : PySem.W.Frag} (h : X.K = K) (hc : X.calm = true) : CallR X (.builtin "min") (rMinT K) := h ▸ call_minT hc
end
end L2

namespace L2
open PySem PySem.Spec PyProof.Rows
section
variable {X : Cx}
theorem bt_all : bootBuiltins "all" = some (.builtin "all") := by decide +kernel
theorem bt_abs : bootBuiltins "abs" = some (.builtin "abs") := by decide +kernel
/-- all of a list of truths that are true -/
def rAllT (K : PySem.W.Frag) : List V → Hp → VK → Prop := fun xs H Q => ∃ (p : Addr) (n : Nat), xs = [.ref p] ∧ SqL K H p ((List.replicate n true).map V.bl) ∧ Q (.bl true) H
theorem call_allT (hc : X.calm = true) : CallR X (.builtin "all") (rAllT X.K) := by
  intro pins s σ H xs us Q I r h
  obtain ⟨p, n, rfl, hq, q⟩ := h
  obtain ⟨u, rfl, ru⟩ := vals1 r
  cases ru
  obtain ⟨its, rv, pl, hz⟩ := I.list hq
  have hln := rv.length
  rw [List.length_map, List.length_replicate] at hln
  have hlt : p < s.heap.objs.size := by obtain ⟨_, _, q, _⟩ := pl; exact Heap.lt_size q
  refine call_all_walk (wpAny_pyIter_list pl.isList ?_)
  refine ⟨s.heap.objs.size, [s.heap.objs.size, p], [s.heap.objs.size], its.toArray.size, _, _, fun _ => true, rfl, Walks.list (A := X.A.in1) (I.ok.hd hc) _ p (Nat.ne_of_lt hlt) its.toArray, ⟨⟨_, Heap.get?_push_size _ rfl, rfl, rfl⟩, pl.isList.push _⟩, fun i v s' Q' E' hP hQ => ?_, fun h' tk hk => ?_⟩
  · have hv : its[i]? = some v := by simpa using hP
    have hi : i < n := by have := (List.getElem?_eq_some_iff.mp hv).1; omega
    obtain ⟨w, hw, rw'⟩ := rv.get (i := i) (x := .bl true) (by rw [List.getElem?_map, List.getElem?_replicate, if_pos hi]; rfl)
    rw [hv] at hw
    cases hw
    cases rw'
    exact wpAny_truthy_bool hQ
  · have ea : ((List.range its.toArray.size).all fun _ => true) = true := by rw [List.all_eq_true]; intro _ _; rfl
    rw [ea]
    refine ⟨.bl _, H, I.kept (t' := tk) (fun b o e => hk b o (fun hm => ?_) (Heap.get?_push_of_some _ e)), rfl, q⟩
    rw [List.mem_singleton.mp hm] at e
    exact Nat.lt_irrefl _ (Heap.lt_size e)
end
end L2

namespace L2
open PySem PySem.Spec PyProof.Rows
/-! ### d.items(), walked by two names: the dict is held still meanwhile -/
section
variable {prog : Program} {w : World} {A : Around} {E : Value → Shared → Prop} {s : Shared} {d : Addr}
/-- a dict's entries as they lie -/
def Ent (h : Heap) (d : Addr) (es : Array DictEntry) (ep : Nat) : Prop := ∃ o, h.get? d = some o ∧ o.ExactDict ∧ o.data = .dict es ep
theorem Ent.ty {es : Array DictEntry} {ep : Nat} (x : Ent s.heap d es ep) : s.TypeIs (.ref d) "dict" := by
  obtain ⟨o, h1, h2, _⟩ := x
  exact ⟨o, h1, h2.1⟩
theorem ent_view (hd : (d == sysModules) = false) : MeetsIn prog w (Builtin.«dict.items» ⟨[.ref d], []⟩) (fun _ R s => (∃ es ep, Ent s.heap d es ep) ∧ R (.ok (.ret (.ref s.heap.objs.size))) { s with heap := s.heap.push { cls := .type "dict_items", data := .fields #[.ref d] } }) :=
  .of_wp fun A R s ⟨⟨es, ep, hm⟩, h⟩ => by
    unfold Builtin.«dict.items» Builtin.Dict.noArgs
    refine wpAny_bind (wpAny_bind (wpAny_notOrdered_dict hm.ty ?_))
    show wpAny _ _ (pure d) _ _ s
    refine wpAny_pure ?_
    show wpAny _ _ (Builtin.Dict.showsAll d >>= _) _ _ s
    unfold Builtin.Dict.showsAll
    rw [if_neg (by simp [hd])]
    exact wpAny_bind (wpAny_pure (wpAny_bind (wpAny_newObj_type (wpAny_pure ⟨_, rfl, h⟩))))
theorem ent_iter {v : Addr} {es : Array DictEntry} {ep : Nat} {Q : Value → Shared → Prop} (hv : s.heap.IsItemsView v d) (hm : Ent s.heap d es ep)
    (hQ : Q (.ref s.heap.objs.size) { s with heap := s.heap.push { cls := .type "dict_itemiterator", data := .fields #[.none, .bool false, .ref d, .int 0 0, .int es.size 0, .int ep 0, .none, .none] } }) :
    wpAny (model prog w) A (pyIter (.ref v)) Q E s := by
  obtain ⟨ov, h1, h2, h3⟩ := id hv
  obtain ⟨o, e1, e2, e3⟩ := hm
  refine wpAny_pyIter_slot hv.typeIs F.slot_dict_items_iter (wpAny_call_entry F.slot_dict_items_iter hv.typeIs F.entry_dict_items_iter ?_ (F.args_dict_items_iter_1 _))
  show wpAny _ _ (Builtin.«dict_items.__iter__» _) _ _ s
  unfold Builtin.«dict_items.__iter__» Builtin.Dict_items.dictOf Builtin.Dict_items.newIterator
  refine wpAny_bind (wpAny_pure (wpAny_bind (wpAny_bind (wpAny_field h1 h3 (x := .ref d) rfl (wpAny_pure (wpAny_bind (wpAny_bind (wpAny_dictEntries e1 e3 (wpAny_bind (wpAny_dictEpoch e1 e3 ?_)))))))))) 
  simp only [show Builtin.Dict_items.ownsTuple "dict_itemiterator" = true by decide, if_true]
  refine wpAny_newObj_type (wpAny_pure ⟨_, rfl, "dict_itemiterator", _, ⟨_, Heap.get?_push_size _ rfl, rfl⟩, F.slot_dict_itemiterator_next.lookup, ?_⟩)
    (by simp only [sizeOk, Builtin.Dict_items.ownedTupleFields, List.size_toArray, List.length_append, List.length_cons, List.length_nil, sizeLine_eq]; omega)
  simpa [rawInt, Builtin.Dict_items.ownedTupleFields] using hQ
theorem ent_place {it : Addr} {i ep : Nat} {es : Array DictEntry} {ok ov : Value} {Q : Option Value → Shared → Prop} (hit : IsItemIter s.heap it d i es.size ep ok ov) (hm : Ent s.heap d es ep) (hh : A.handled = none)
    (hI : ∀ e, es[i]? = some e → ∀ h', IsItemIterOut h' it d (i + 1) es.size ep e.key e.val s.heap.objs.size → h'.get? s.heap.objs.size = some { cls := .type "tuple", data := .seq #[e.key, e.val] } → (∀ b o, b ≠ it → s.heap.get? b = some o → h'.get? b = some o) → Q (some (.ref s.heap.objs.size)) { s with heap := h' })
    (hE : es[i]? = none → ∀ h', Heap.ExtBut it s.heap h' → Q none { s with heap := h' }) : wpAny (model prog w) A (pyNext (.ref it)) Q E s := by
  obtain ⟨o, e1, e2, e3⟩ := hm
  have hT : s.TypeIs (.ref it) "dict_itemiterator" := ⟨_, hit, rfl⟩
  have own : Builtin.Dict_items.ownsTuple "dict_itemiterator" = true := by decide
  unfold pyNext
  refine wpAny_bind (wpAny_attempt (wpAny_callSpecial?_slot (name := Str.ofString "__next__") hT F.slot_dict_itemiterator_next (wpAny_call_entry F.slot_dict_itemiterator_next hT F.entry_dict_itemiterator_next ?_ (F.args_dict_itemiterator_next_1 _))))
  refine wpAny_bind (wpAny_pure (wpAny_bind (wpAny_bind (wpAny_bind (wpAny_typeNameOfWhole_itemiter hT (wpAny_pure ?_))))))
  refine wpAny_bind (wpAny_fieldsOf hit rfl ?_)
  simp only [own, if_true]
  show wpAny _ _ (if (Value.ref d == Value.none) = true then _ else _) _ _ _
  rw [if_neg (show ¬ ((Value.ref d == Value.none) = true) from Bool.false_ne_true)]
  refine wpAny_bind (wpAny_pure (wpAny_bind (wpAny_dictEntries e1 e3 ?_)))
  rw [if_neg (by simp)]
  refine wpAny_bind (wpAny_pure (wpAny_bind (wpAny_dictEpoch e1 e3 ?_)))
  rw [if_neg (by simp)]
  refine wpAny_pure ?_
  have n0 : ¬ ((i : Int) < 0) := by omega
  simp only [n0, if_false, Int.toNat_natCast]
  cases he : es[i]? with
  | none =>
    refine wpAny_bind (wpAny_bind (wpAny_typeNameOfWhole_itemiter hT (wpAny_pure ?_)))
    show wpAny _ _ (setField (.ref it) 2 .none >>= _) _ _ s
    refine wpAny_bind (wpAny_setField hit rfl (by simp) ?_)
    show wpAny _ _ (newExc (.type "StopIteration") [] >>= _) _ _ _
    refine wpAny_bind ?_
    simp only [newExc, newTuple]
    refine wpAny_bind (wpAny_newObj_type (wpAny_bind (m := firstArgMember _ _) (wpAny_of_eq (a := Value.none) (by first | rfl | (simp only [firstArgMember]; rfl)) (wpAny_newObj_type ?_ (by size_fits)))) (by size_fits))
    simp only [raiseNew]
    refine wpAny_bind (wpAny_handled ?_)
    rw [show A.in1.handled = none from hh]
    refine wpAny_bind (wpAny_pure (wpAny_throw ?_))
    refine wpAny_bind (wpAny_isInstance (T := "StopIteration") (b := true) ⟨_, Heap.get?_push_size _ rfl, rfl⟩ isSubtype_stop (wpAny_pure ?_))
    exact hE he _ (((Heap.SameBut.update ..).extBut.push _).push _)
  | some e =>
    refine wpAny_bind (wpAny_bind (wpAny_typeNameOfWhole_itemiter hT (wpAny_pure ?_)))
    refine wpAny_bind (wpAny_isOneOf_itemiter hT ?_)
    show wpAny _ _ (setField (.ref it) 3 (rawInt ((i : Int) + 1)) >>= _) _ _ s
    refine wpAny_bind (wpAny_setField_rec hit (by simp) fun g1 q1 k1 => ?_)
    have c1 : ((i + 1 : Nat) : Int) = (i : Int) + 1 := by omega
    have q1' : IsItemIter g1 it d (i + 1) es.size ep ok ov := by
      unfold IsItemIter
      rw [c1]
      simpa [rawInt] using q1
    have lt : it < s.heap.objs.size := Heap.lt_size hit
    have z1 : g1.objs.size = s.heap.objs.size := k1.1
    have hT1 : Shared.TypeIs { s with heap := g1 } (.ref it) "dict_itemiterator" := ⟨_, q1', rfl⟩
    refine wpAny_bind (wpAny_holding (wpAny_bind (wpAny_isOneOf_itemiter hT1 (wpAny_bind (wpAny_isOneOf_itemiter hT1 ?_)))))
    show wpAny _ _ (Builtin.Dict_items.pairFromOwner (.ref it) 6 e.key e.val) _ _ { s with heap := g1 }
    unfold Builtin.Dict_items.pairFromOwner Builtin.Dict_items.ownedTupleIsFree
    refine wpAny_bind (wpAny_newTuple ?_)
    have q2 : IsItemIter (g1.push { cls := .type "tuple", data := .seq #[e.key, e.val] }) it d (i + 1) es.size ep ok ov := Heap.get?_push_of_some _ q1'
    have t2 : (g1.push { cls := .type "tuple", data := .seq #[e.key, e.val] }).get? s.heap.objs.size = some { cls := .type "tuple", data := .seq #[e.key, e.val] } := by rw [← z1]; exact Heap.get?_push_size _ rfl
    have k2 : ∀ b o, b ≠ it → s.heap.get? b = some o → (g1.push { cls := .type "tuple", data := .seq #[e.key, e.val] }).get? b = some o := fun b o hb q => Heap.get?_push_of_some _ (k1.extBut b o hb q)
    rw [z1]
    generalize g1.push { cls := .type "tuple", data := .seq #[e.key, e.val] } = g2 at q2 t2 k2
    show wpAny _ _ (_ >>= _) _ _ { s with heap := g2 }
    refine wpAny_bind (wpAny_bind (wpAny_field q2 rfl (x := .none) rfl (wpAny_pure ?_)))
    simp only [if_true]
    refine wpAny_bind (wpAny_field q2 rfl (x := ok) rfl (wpAny_bind (wpAny_field q2 rfl (x := ov) rfl ?_)))
    refine wpAny_bind (wpAny_setField_rec q2 (by simp) fun g3 q3 k3 => ?_)
    replace q3 : IsItemIter g3 it d (i + 1) es.size ep e.key ov := q3
    refine wpAny_bind (wpAny_setField_rec q3 (by simp) fun g4 q4 k4 => ?_)
    replace q4 : IsItemIter g4 it d (i + 1) es.size ep e.key e.val := q4
    refine wpAny_bind (wpAny_setField_rec q4 (by simp) fun g5 q5 k5 => ?_)
    replace q5 : IsItemIterOut g5 it d (i + 1) es.size ep e.key e.val s.heap.objs.size := q5
    refine wpAny_bind (wpAny_setField_rec q5 (by simp) fun g6 q6 k6 => ?_)
    replace q6 : IsItemIterOut g6 it d (i + 1) es.size ep e.key e.val s.heap.objs.size := q6
    have up : ∀ b o, b ≠ it → g2.get? b = some o → g6.get? b = some o := fun b o hb q => k6.extBut b o hb (k5.extBut b o hb (k4.extBut b o hb (k3.extBut b o hb q)))
    exact wpAny_bind (wpAny_letGo (wpAny_pure (wpAny_pure ⟨_, rfl, wpAny_pure (hI e he g6 q6 (up _ _ (Nat.ne_of_gt lt) t2) fun b o hb q => up b o hb (k2 b o hb q))⟩)))
end
/-- the view -/
def itemsO (v d : Addr) : HO := .ext fun h => h.IsItemsView v d
/-- what the dict's things are, by turns -/
def KvA (H : Hp) (u : HO) (i : Nat) (x y : V) : Prop := (∃ kvs k, u = .dK kvs ∧ kvs[i]? = some (k, y) ∧ x = kV k) ∨ ∃ kvs k t, u = .dT kvs ∧ kvs[i]? = some (k, y) ∧ x = .ref t ∧ H t = some (.tup (k.map kV))
def dlen : HO → Nat
  | .dK kvs => kvs.length
  | .dT kvs => kvs.length
  | _ => 0
def isDct : HO → Prop
  | .dK _ => True
  | .dT _ => True
  | _ => False
theorem pair_get {α β : Type} {F : α → β → Prop} : ∀ {l₁ : List α} {l₂ : List β}, Paired F l₁ l₂ → ∀ {i : Nat} {b : β}, l₂[i]? = some b → ∃ a, l₁[i]? = some a ∧ F a b
  | _, _, .nil, i, b, e => by simp at e
  | _, _, .cons r t, 0, b, e => ⟨_, rfl, by cases e; exact r⟩
  | _, _, .cons r t, i + 1, b, e => pair_get t (i := i) e
theorem ent_of {P : Program} {w : World} {H : Hp} {h : Heap} {d : Addr} {u : HO} (hd : isDct u) (x : ObjOk P w H h d u) : (d == sysModules) = false ∧ ∃ es ep, Ent h d es ep ∧ es.size = dlen u ∧ ∀ i e, es[i]? = some e → ∃ x y, KvA H u i x y ∧ RelV x e.key ∧ RelV y e.val := by
  cases u with
  | dK kvs =>
    obtain ⟨hz, lo, vs, rk, o, es, ep, h1, h2, h3, h4, h5, h6⟩ := x
    have l1 : kvs.length = vs.length := Paired.length rk
    have sz : es.size = vs.length := by rw [← h5.length, Array.length_toList]
    refine ⟨lo, es, ep, ⟨o, h1, h2, h3⟩, by rw [sz]; exact l1.symm, fun i e he => ?_⟩
    have hi : i < vs.length := by
      have : i < es.size := (Array.getElem?_eq_some_iff.mp he).1
      omega
    obtain ⟨⟨k, v⟩, hv⟩ : ∃ q, vs[i]? = some q := ⟨_, List.getElem?_eq_getElem hi⟩
    obtain ⟨hk, hval⟩ := h5.get? (e := e) (by rw [Array.getElem?_toList]; exact he) hv
    obtain ⟨⟨k', y⟩, hy, ek, ry⟩ := pair_get rk hv
    have ek' : k' = k := ek
    subst ek'
    refine ⟨kV k', y, .inl ⟨kvs, k', rfl, hy, rfl⟩, ?_, by rw [hval]; exact ry⟩
    rcases keyIs_shape (show keyIs k' e.key = true from hk) with ⟨j, t, e1, e2⟩ | ⟨z, t, e1, e2⟩
    · rw [e1, e2]; exact ⟨t, rfl⟩
    · rw [e1, e2]; exact ⟨t, rfl⟩
  | dT kvs =>
    obtain ⟨hz, lo, xs, r, o, es, ep, h1, h2, h3, h4, h5⟩ := x
    have sz : es.size = xs.length := by rw [← Array.length_toList, h4, List.length_map]
    refine ⟨lo, es, ep, ⟨o, h1, h2, h3⟩, by rw [sz]; exact r.length.symm, fun i e he => ?_⟩
    have e1 : es.toList[i]? = some e := by rw [Array.getElem?_toList]; exact he
    rw [h4, List.getElem?_map] at e1
    cases hx : xs[i]? with
    | none => rw [hx] at e1; cases e1
    | some q =>
      rw [hx] at e1
      cases e1
      obtain ⟨⟨k, y⟩, hy, ek, ht, ry⟩ := pair_get r hx
      exact ⟨.ref q.2.1, y, .inr ⟨kvs, k, q.2.1, rfl, hy, rfl, ht⟩, rfl, ry⟩
  | _ => exact hd.elim
section
variable {X : Cx} {pins : List (Addr × Obj)} {σ : St} {H : Hp} {s : Shared} {d : Addr} {u : HO} {o : Obj}
theorem isDct.notT (h : isDct u) : (∀ xs, u ≠ .tup xs) ∧ (∀ o v, u ≠ .frz o v) ∧ (∀ ps, u ≠ .tbl ps) ∧ ∀ a, u ≠ .own a := by
  cases u <;> first | exact h.elim | exact ⟨fun _ => by simp, fun _ _ => by simp, fun _ => by simp, fun _ => by simp⟩
theorem HOk.frz {P : Program} {w : World} {h : Heap} (x : HOk P w H h) (hd : H d = some u) (hu : isDct u) (e : h.get? d = some o) : HOk P w (upd H d (.frz o u)) h := fun b v q => by
  obtain ⟨n1, n2, n3, n4⟩ := hu.notT
  have ow : ∀ c y, H c = some (.own y) → upd H d (.frz o u) c = some (.own y) := fun c y r => by rw [upd_ne (ne_of r hd fun z => n4 y z.symm)]; exact r
  have tp : ∀ c xs, H c = some (.tup xs) → upd H d (.frz o u) c = some (.tup xs) := fun c xs r => by rw [upd_ne (ne_of r hd fun z => n1 xs z.symm)]; exact r
  by_cases hb : b = d
  · subst hb
    rw [upd_same] at q
    cases q
    exact ⟨e, (x b u hd).stay (fun _ _ _ r => r) (fun c r => ow c b r) tp⟩
  · rw [upd_ne hb] at q
    exact (x b v q).stay (fun _ _ _ r => r) (fun c r => ow c b r) tp
theorem Inv.freeze (I : Inv X pins σ H s) (hd : H d = some u) (hu : isDct u) (e : s.heap.get? d = some o) : Inv X pins σ (upd H d (.frz o u)) s := by
  obtain ⟨n1, n2, n3, n4⟩ := hu.notT
  exact I.step (H' := upd H d (.frz o u)) (h' := s.heap) (g' := s.gens) (d' := s.drawn) (t' := s.toks) (ch := []) (fun _ z => nomatch z) (fun b _ _ _ _ q _ => q) (fun b ob _ _ _ q _ => ⟨ob.slots, q⟩)
    (fun b _ _ _ n => by rw [upd_ne (ne_of_none hd n).symm]; exact n) (fun b ob _ q => ⟨ob, q⟩) (fun b xs r => by rw [upd_ne (ne_of r hd fun z => n1 xs z.symm)]; exact r)
    (fun b ob v r => by rw [upd_ne (ne_of r hd fun z => n2 ob v z.symm)]; exact r) (fun b ps r => ⟨#[], by rw [upd_ne (ne_of r hd fun z => n3 ps z.symm), r]; simp⟩) (fun _ q => q) (I.hok.frz hd hu e) I.bare
theorem mt_items : MtR X "dict.items" (fun x xs H Q => ∃ d u, x = .ref d ∧ xs = [] ∧ H d = some u ∧ isDct u ∧ ∀ v, H v = none → Q (.ref v) (upd H v (itemsO v d))) := by
  intro pins s σ H x xs v us Q I rx rv h
  obtain ⟨d, u, rfl, rfl, hd, hu, q⟩ := h
  cases rx
  have hus := rv.zero
  subst hus
  obtain ⟨lo, es, ep, hm, _⟩ := ent_of hu (I.hok d _ hd)
  refine call_meetsIn PySem.F.slot_dict_items hm.ty PySem.F.entry_dict_items (PySem.F.args_dict_items_1 _) (ent_view lo) ⟨⟨es, ep, hm⟩, ?_⟩
  have hv : (s.heap.push { cls := .type "dict_items", data := .fields #[.ref d] }).IsItemsView s.heap.objs.size d := ⟨_, Heap.get?_push_size _ rfl, rfl, rfl⟩
  refine ⟨.ref s.heap.objs.size, _, I.laid (t' := s.toks) (fun b o e => Heap.get?_push_of_some _ e) (Nat.le_refl _) ?_, rfl, q _ (I.hok.fresh (Nat.le_refl _))⟩
  exact ⟨hv, ⟨_, Heap.get?_push_size _ rfl⟩, fun h1 h2 x k => let ⟨o, ho, r⟩ := x; ⟨o, k _ ho, r⟩⟩
end
def Itd (o : Obj) (u : HO) (d : Addr) : It :=
  ⟨fun i H => H d = some (.frz o u) ∧ i < dlen u,
   fun i H v H' => ∃ T x y, H T = none ∧ v = .ref T ∧ H' = upd H T (.tup [x, y]) ∧ KvA H u i x y,
   fun i H => H d = some (.frz o u) ∧ dlen u ≤ i⟩
theorem turn_items {P : Program} {w : World} {K : PySem.W.Frag} {el : List Expr} {kk : Nat} {pos : Pos} (o : Obj) (u : HO) (d I : Addr) (hu : isDct u) (es : Array DictEntry) (ep : Nat) (hx : o.ExactDict) (ho : o.data = .dict es ep) : Turn P w K (.Tuple el kk pos) (Itd o u d) [I] I
    (fun i h => ∃ ok ov, IsItemIter h I d i es.size ep ok ov) where
  mem := by simp
  obj := fun i h st b hb => by
    obtain ⟨ok, ov, he⟩ := st
    rw [List.mem_singleton.mp hb]
    exact ⟨_, he, fun v z => by have z' : Data.fields _ = Data.cell v := z; cases z'⟩
  keep := fun i h h' st kk => by
    obtain ⟨ok, ov, he⟩ := st
    exact ⟨ok, ov, kk I (by simp) _ he⟩
  item := by
    intro X hP hw hK hc i pins s σ H E Iv hf st hg
    subst hP hw hK
    obtain ⟨hd, hi⟩ := hg
    obtain ⟨ok, ov, he⟩ := st
    obtain ⟨g1, g2⟩ := (show ObjOk X.prog X.w H s.heap d (.frz o u) from Iv.hok d _ hd)
    obtain ⟨_, es', ep', ⟨o', q1, q2, q3⟩, sz, al⟩ := ent_of hu g2
    rw [g1] at q1
    cases q1
    rw [ho] at q3
    cases q3
    have lt : I < s.heap.objs.size := Heap.lt_size he
    refine ent_place he ⟨o, g1, hx, ho⟩ (Iv.ok.hd hc) (fun e hee h' hit hT hk => ?_) (fun z => by rw [Array.getElem?_eq_none_iff] at z; omega)
    refine ⟨_, rfl, ?_⟩
    refine wpAny_letOwnedTupleGo_items hit fun h2 he2 hs2 => ?_
    obtain ⟨x, y, kv, rx, ry⟩ := al i e hee
    have hfr : H s.heap.objs.size = none := Iv.hok.fresh (Nat.le_refl _)
    have I0 : Inv X pins σ (upd H s.heap.objs.size (.tup [x, y])) { s with heap := s.heap.push { cls := .type "tuple", data := .seq #[e.key, e.val] }, toks := s.toks } :=
      Iv.laid (t' := s.toks) (fun b u e => Heap.get?_push_of_some _ e) (Nat.le_refl _) ⟨by show 2 ≤ sizeLine; decide, [e.key, e.val], .cons rx (.cons ry .nil), ⟨_, Heap.get?_push_size _ rfl, rfl, _, rfl⟩⟩
    have hn : ∀ b ∈ [I], upd H s.heap.objs.size (.tup [x, y]) b = none := fun b hb => by
      rw [upd_ne (by rw [List.mem_singleton.mp hb]; exact Nat.ne_of_lt lt)]
      exact (hf b hb).1
    have I2 : Inv X pins σ (upd H s.heap.objs.size (.tup [x, y])) { s with heap := h2, toks := s.toks } := Inv.turnedL (s := { s with heap := s.heap.push { cls := .type "tuple", data := .seq #[e.key, e.val] }, toks := s.toks }) (h' := h2) I0 (t' := s.toks) (fp := [I]) (fun b ob hb q => by
      have nb : b ≠ I := fun z => hb (by simp [z])
      refine (hs2.2 b nb).trans ?_
      rcases Heap.get?_push_cases q with ⟨z1, z2⟩ | q
      · rw [z1, z2]; exact hT
      · exact hk b ob nb q) fun b hb => ⟨hn b hb, (hf b hb).2⟩
    exact ⟨.ref s.heap.objs.size, _, I2, rfl, ⟨s.heap.objs.size, x, y, hfr, rfl, rfl, kv⟩, ⟨_, _, he2⟩, hn⟩
  done := by
    intro X hP hw hK hc i pins s σ H E Iv hf st hg
    subst hP hw hK
    obtain ⟨hd, hi⟩ := hg
    obtain ⟨ok, ov, he⟩ := st
    obtain ⟨g1, g2⟩ := (show ObjOk X.prog X.w H s.heap d (.frz o u) from Iv.hok d _ hd)
    obtain ⟨_, es', ep', ⟨o', q1, q2, q3⟩, sz, al⟩ := ent_of hu g2
    rw [g1] at q1
    cases q1
    rw [ho] at q3
    cases q3
    obtain ⟨f0, f1, f2, f3, f4, f5⟩ := hf I (by simp)
    refine ent_place he ⟨o, g1, hx, ho⟩ (Iv.ok.hd hc) (fun e hee => by have := (Array.getElem?_eq_some_iff.mp hee).1; omega) (fun _ h' hk => ⟨rfl, Iv.turned (t' := s.toks) (fun b o hb e => hk b o hb e) f0 f1 f3 f4 f5⟩)
  self := fun _ _ _ _ _ st h => by
    obtain ⟨ok, ov, he⟩ := st
    exact PySem.W.kcp_self he h
section
variable {X : Cx}
def iItems (te : TE) : TI := fun σ H R => te σ H fun x H1 => ∃ vw d u, x = .ref vw ∧ H1 vw = some (itemsO vw d) ∧ H1 d = some u ∧ isDct u ∧ ∀ o, R (Itd o u d) (upd H1 d (.frz o u))
theorem pi_items {e : Expr} {te : TE} {es : List Expr} {k : Nat} {tp : Pos} (he : PE X e te) : PI X (.Tuple es k tp) e (iItems te) := by
  intro pins s σ H R I h
  refine thn (he pins s σ H _ I h) fun v s1 ⟨x, H1, I1, r1, q1⟩ => ?_
  obtain ⟨vw, d, u, rfl, hv, hd, hu, q⟩ := q1
  cases r1
  obtain ⟨hview, _, _⟩ := (show ObjOk X.prog X.w H1 s1.heap vw (itemsO vw d) from I1.hok vw _ hv)
  obtain ⟨_, ents, ep, hm, sz, _⟩ := ent_of hu (I1.hok d _ hd)
  obtain ⟨o, q1, q2, q3⟩ := id hm
  refine ent_iter hview hm ?_
  have I2 := I1.freeze hd hu q1
  have ne : d ≠ s1.heap.objs.size := Nat.ne_of_lt (Heap.lt_size q1)
  refine ⟨s1.heap.objs.size, [s1.heap.objs.size], _, _, upd H1 d (.frz o u), rfl, I2.kept (t' := s1.toks) fun b u e => Heap.get?_push_of_some _ e, turn_items o u d _ hu ents ep q2 q3, ⟨_, _, Heap.get?_push_size _ rfl⟩, fun b hb => ?_, q o⟩
  rw [List.mem_singleton.mp hb]
  exact I2.fpOk (Nat.le_refl _) (I2.hok.fresh (Nat.le_refl _))
end
theorem for_items {o : Obj} {u : HO} {d : Addr} {g : TG} {tb : TS} {D : Ends} {σ : St} {H : Hp} (Pv : Nat → St → Hp → Prop) (h0 : Pv 0 σ H) (hl : ∀ i σ H, i ≤ dlen u → Pv i σ H → H d = some (.frz o u))
    (hs : ∀ i x y σ H T, i < dlen u → KvA H u i x y → Pv i σ H → H T = none → g (.ref T) σ (upd H T (.tup [x, y])) fun σ2 H2 => tb { D with nx := Pv (i + 1), ct := Pv (i + 1), bk := D.nx } σ2 H2) (hd : ∀ σ H, Pv (dlen u) σ H → D.nx σ H) :
    ∃ W : Nat → Nat → St → Hp → Prop, (∃ m, W 0 m σ H) ∧ ∀ i m σ H, W i m σ H →
      ((Itd o u d).stop i H ∧ D.nx σ H) ∨ ((Itd o u d).go i H ∧ ∃ N : St → Hp → Prop, (∀ σ' H', N σ' H' → ∃ m', m' < m ∧ W (i + 1) m' σ' H') ∧ ∀ x H', (Itd o u d).yld i H x H' → g x σ H' fun σ2 H2 => tb { D with nx := N, ct := N, bk := D.nx } σ2 H2) := by
  refine ⟨fun i m σ H => m = dlen u - i ∧ i ≤ dlen u ∧ Pv i σ H, ⟨dlen u, by simp, Nat.zero_le _, h0⟩, ?_⟩
  rintro i m σ H ⟨rfl, hi, p⟩
  have q := hl i σ H hi p
  by_cases hlt : i < dlen u
  · refine .inr ⟨⟨q, hlt⟩, Pv (i + 1), fun σ' H' p' => ⟨dlen u - (i + 1), by omega, rfl, hlt, p'⟩, fun v H' y => ?_⟩
    obtain ⟨T, x, z, hT, rfl, rfl, kv⟩ := y
    exact hs i x z σ _ T hlt kv p hT
  · have e : i = dlen u := by omega
    subst e
    exact .inl ⟨⟨q, Nat.le_refl _⟩, hd σ H p⟩
end L2

namespace L2
open PySem PySem.Spec PyProof.Rows
/-! ### statements whose terms are written out by the elaborator without running them: the same rules behind a structure -/
structure WS (X : Cx) (st : Stmt) (t : TS) : Prop where
  ok : PS X st t
structure WSs (X : Cx) (sts : List Stmt) (t : TS) : Prop where
  ok : PSs X sts t
section
variable {X : Cx} {st : Stmt} {rest : List Stmt} {t u : TS} {e : Expr} {te : TE} {pos : Pos} {tg : Expr}
theorem wss_nil : WSs X [] tNext := ⟨pss_nil⟩
theorem wss_cons (h1 : WS X st t) (h2 : WSs X rest u) : WSs X (st :: rest) (tSeq t u) := ⟨pss_cons h1.ok h2.ok⟩
theorem wss_one (h1 : WS X st t) : WSs X [st] t := ⟨pss_one h1.ok⟩
theorem wss_imp {t2 : TS} (h : WSs X rest t) (i : ∀ D σ H, t2 D σ H → t D σ H) : WSs X rest t2 := ⟨pss_imp h.ok i⟩
theorem ws_set {i : Nat} {x : Str} {pos' : Pos} (hN : X.N.Nodup) (hi : X.N[i]? = some x) (hx : Loc X.env.scope x) (he : PE X e te) (hs : swapsWith e (some (.Name x pos')) pos.line X.env = pure false := by rfl) (hf : X.fn x = true ∨ X.env.scope.names.lookup x = some .local := by first | exact .inl rfl | exact .inr rfl | assumption) :
    WS X (.Assign [.Name x pos'] e pos) (tAsg te (gName i)) := ⟨ps_set hN hi hx he hs hf⟩
theorem ws_ret (he : PE X e te) : WS X (.Return (some e) pos) (tRet te) := ⟨ps_ret he⟩
theorem ws_if {a b : List Stmt} {tc : TT} (hc : PT X e tc) (ha : WSs X a t) (hb : WSs X b u) : WS X (.If e a b pos) (tIfS tc t u) := ⟨ps_if hc ha.ok hb.ok⟩
end
end L2


namespace KS
open PySem L2
local macro_rules | `(tactic| walk_at "cc") => `(tactic| first | exact ⟨by decide, by decide⟩ | (show (0 : Int) < _; decide) | (show (0 : Int) < _; omega) | (show (0 : Int) ≤ _; omega) | exact ⟨by decide, by decide, by decide⟩ | exact ⟨by omega, by omega, by decide⟩ | exact Or.inl ⟨by decide, by decide⟩ | exact Or.inl ⟨by omega, by omega⟩)
local macro_rules | `(tactic| walk_at "rd") => `(tactic| repeat (first | refine ⟨_, rfl, ?_⟩ | refine ⟨_, _, rfl, rfl, ?_⟩ | refine ⟨rfl, ?_⟩ | (refine ⟨?cc, ?_⟩; (case cc => walk_at "cc"))))

def top (i : Nat) : Stmt := PySem.Challenge.pw_spinfloor_k51_long_run_papers.main.body.getD i (.Pass ⟨0, 0, 0, 0⟩)
abbrev s_counted_together : Stmt := top 4
abbrev s_joined_row : Stmt := top 6
abbrev s_tables_joined : Stmt := top 7
abbrev s_paid_alike : Stmt := top 9
abbrev s_paid_unlike : Stmt := top 10
abbrev s_refuse_pattern : Stmt := top 14
abbrev s_rows_of : Stmt := top 15
abbrev s_price_between : Stmt := top 16
abbrev s_price_of_all : Stmt := top 17
abbrev s_price_across : Stmt := top 18
abbrev s_price_along : Stmt := top 19
abbrev s_column_table : Stmt := top 20
abbrev s_step_table : Stmt := top 21
abbrev s_lows_of : Stmt := top 23
abbrev s_least_to : Stmt := top 24
abbrev s_one_step_on : Stmt := top 25
abbrev s_sums_from : Stmt := top 26
abbrev s_cheapest_walk : Stmt := top 27
abbrev s_loop_back : Stmt := top 28
abbrev s_common_divisor : Stmt := top 29
abbrev s_slopes_of : Stmt := top 30
abbrev s_long_run_of : Stmt := top 31
abbrev s_long_run : Stmt := top 32
abbrev s_law_cell : Stmt := top 34
abbrev s_law_whole : Stmt := top 35
abbrev s_law_strength : Stmt := top 37
abbrev s_law_pattern : Stmt := top 38
abbrev s_law_copy : Stmt := top 39
abbrev s_law_paid : Stmt := top 40
abbrev s_law_sign : Stmt := top 41
abbrev s_law_across : Stmt := top 42
abbrev s_law_along : Stmt := top 43
abbrev s_law_steps : Stmt := top 44
abbrev s_law_shared : Stmt := top 45
abbrev s_law_wholes : Stmt := top 46
abbrev s_law_shows : Stmt := top 47
abbrev s_law : Stmt := top 48
theorem same_new {H : Hp} {p : Addr} (h : H p = none) (o : HO) : Same H (upd H p o) := fun b u q => by rw [upd_ne (ne_of_none q h)]; exact q
theorem same_upd {H H2 : Hp} {l : Addr} (h : Same H H2) (hl : H l = none) (o : HO) : Same H (upd H2 l o) := fun b u q => by rw [upd_ne (ne_of_none q hl)]; exact h b u q
/-! the mathematics -/
def lowL : List Int → Int
  | [] => 0
  | [x] => x
  | x :: y :: r => if x ≤ lowL (y :: r) then x else lowL (y :: r)
theorem lowL_spec : ∀ ns : List Int, ns ≠ [] → lowL ns ∈ ns ∧ ∀ x ∈ ns, lowL ns ≤ x
  | [], h => absurd rfl h
  | [x], _ => ⟨by simp [lowL], fun y hy => by rw [List.mem_singleton.mp hy]; exact Int.le_refl _⟩
  | x :: y :: r, _ => by
    obtain ⟨a, b⟩ := lowL_spec (y :: r) (by simp)
    rw [lowL]
    by_cases c : x ≤ lowL (y :: r)
    · rw [if_pos c]
      refine ⟨List.mem_cons_self .., fun z hz => ?_⟩
      rcases List.mem_cons.mp hz with rfl | hz
      · exact Int.le_refl _
      · exact Int.le_trans c (b z hz)
    · rw [if_neg c]
      refine ⟨List.mem_cons_of_mem _ a, fun z hz => ?_⟩
      rcases List.mem_cons.mp hz with rfl | hz
      · omega
      · exact b z hz
theorem lowL_is {ns : List Int} {m : Int} (hm : m ∈ ns) (hl : ∀ x ∈ ns, m ≤ x) : m = lowL ns := by
  obtain ⟨a, b⟩ := lowL_spec ns (fun e => by rw [e] at hm; cases hm)
  have h1 := hl _ a
  have h2 := b _ hm
  omega
abbrev Pr := Int × Int
abbrev Tb := List (List Pr)
def tot (es : List Pr) (m : Int) : Int := ((es.filter fun e => decide (e.1 = m)).map (·.2)).sum
def bestOf (es : List Pr) : Pr := (lowL (es.map (·.1)), tot es (lowL (es.map (·.1))))
def g2 (r : List Pr) (j : Nat) : Pr := r.getD j (0, 0)
def wayI (row : List Pr) (tb : Tb) (j : Nat) (i : Nat) : Pr := ((g2 row i).1 + (g2 (tb.getD i []) j).1, (g2 row i).2 * (g2 (tb.getD i []) j).2)
def ways (row : List Pr) (tb : Tb) (n j : Nat) : List Pr := (List.range n).map (wayI row tb j)
def jEnt (row : List Pr) (tb : Tb) (n : Nat) (md : Int) (j : Nat) : Pr := ((bestOf (ways row tb n j)).1, (bestOf (ways row tb n j)).2 % md)
def jRow (row : List Pr) (tb : Tb) (n : Nat) (md : Int) : List Pr := (List.range n).map (jEnt row tb n md)
def jTab (one tb : Tb) (n : Nat) (md : Int) : Tb := one.map fun row => jRow row tb n md
theorem g2_at {r : List Pr} {j : Nat} {p : Pr} (h : r[j]? = some p) : g2 r j = p := by unfold g2; rw [List.getD_eq_getElem?_getD, h]; rfl
theorem wayI_at {row : List Pr} {tb : Tb} {i j : Nat} {e : Pr} {on : List Pr} {o : Pr} (h1 : row[i]? = some e) (h2 : tb[i]? = some on) (h3 : on[j]? = some o) : wayI row tb j i = (e.1 + o.1, e.2 * o.2) := by
  unfold wayI
  rw [g2_at h1, List.getD_eq_getElem?_getD, h2, Option.getD_some, g2_at h3]
theorem rng_succ {α : Type} (f : Nat → α) (i : Nat) : (List.range (i + 1)).map f = (List.range i).map f ++ [f i] := by
  rw [List.range_succ, List.map_append]; rfl
/-- a square table of that size, its manys bounded -/
structure Sqr (n : Nat) (tb : Tb) : Prop where
  len : tb.length = n
  row : ∀ r ∈ tb, r.length = n
  bd : ∀ r ∈ tb, ∀ p ∈ r, (p.2).natAbs < 2 ^ 200
/-! as they lie -/
def PrAt (H : Hp) (v : V) (p : Pr) : Prop := ∃ t, v = .ref t ∧ H t = some (.tup [.int p.1, .int p.2])
def RwAt (H : Hp) (v : V) (r : List Pr) : Prop := ∃ a ys, v = .ref a ∧ H a = some (.lst ys) ∧ LsAt PrAt H ys r
def TbAt (H : Hp) (v : V) (tb : Tb) : Prop := ∃ a ys, v = .ref a ∧ H a = some (.lst ys) ∧ LsAt RwAt H ys tb
theorem PrAt.mono {H H' : Hp} {v : V} {p : Pr} (h : PrAt H v p) (s : Same H H') : PrAt H' v p := by
  obtain ⟨t, e, z⟩ := h
  exact ⟨t, e, s _ _ z⟩
theorem RwAt.mono {H H' : Hp} {v : V} {r : List Pr} (h : RwAt H v r) (s : Same H H') : RwAt H' v r := by
  obtain ⟨a, ys, e, z, l⟩ := h
  exact ⟨a, ys, e, s _ _ z, l.imp fun _ _ q => q.mono s⟩
theorem TbAt.mono {H H' : Hp} {v : V} {tb : Tb} (h : TbAt H v tb) (s : Same H H') : TbAt H' v tb := by
  obtain ⟨a, ys, e, z, l⟩ := h
  exact ⟨a, ys, e, s _ _ z, l.imp fun _ _ q => q.mono s⟩
theorem PrAt.put {H : Hp} {v : V} {p : Pr} {q : Addr} {us zs : List V} (h : PrAt H v p) (hq : H q = some (.lst us)) : PrAt (upd H q (.lst zs)) v p := by
  obtain ⟨t, e, z⟩ := h
  exact ⟨t, e, by rw [upd_ne (fun y => by rw [y, hq] at z; cases z)]; exact z⟩
/-- a row that lies apart from q -/
def RwX (q : Addr) (H : Hp) (v : V) (r : List Pr) : Prop := ∃ a ys, v = .ref a ∧ a ≠ q ∧ H a = some (.lst ys) ∧ LsAt PrAt H ys r
theorem RwX.off {q : Addr} {H : Hp} {v : V} {r : List Pr} (h : RwX q H v r) : RwAt H v r := by
  obtain ⟨a, ys, e, _, z, l⟩ := h
  exact ⟨a, ys, e, z, l⟩
theorem RwX.mono {q : Addr} {H H' : Hp} {v : V} {r : List Pr} (h : RwX q H v r) (s : Same H H') : RwX q H' v r := by
  obtain ⟨a, ys, e, n, z, l⟩ := h
  exact ⟨a, ys, e, n, s _ _ z, l.imp fun _ _ q => q.mono s⟩
theorem RwX.put {q : Addr} {H : Hp} {v : V} {r : List Pr} {us zs : List V} (h : RwX q H v r) (hq : H q = some (.lst us)) : RwX q (upd H q (.lst zs)) v r := by
  obtain ⟨a, ys, e, n, z, l⟩ := h
  exact ⟨a, ys, e, n, by rw [upd_ne n]; exact z, l.imp fun _ _ y => y.put hq⟩
def cellD (ns : List Int) (k : Nat) : Int := ns.getD k 0
def spCT (K : PySem.W.Frag) : Sp := fun vs H Q _ => ∃ (v : V) (es : List Pr), vs = [v] ∧ RwAt H v es ∧ es ≠ [] ∧ es.length ≤ 900 ∧ ∀ u H', Same H H' → PrAt H' u (bestOf es) → Q u H'
def spJR (K : PySem.W.Frag) : Sp := fun vs H Q _ => ∃ (v tv : V) (md : Int) (row : List Pr) (tb : Tb) (n : Nat), vs = [v, tv, .int md] ∧ RwAt H v row ∧ TbAt H tv tb ∧ 0 < md ∧ 0 < n ∧ n ≤ 8 ∧ row.length = n ∧ (∀ p ∈ row, (p.2).natAbs < 2 ^ 200) ∧ Sqr n tb ∧
  ∀ u H', Same H H' → RwAt H' u (jRow row tb n md) → Q u H'
def spJT (K : PySem.W.Frag) : Sp := fun vs H Q _ => ∃ (v tv : V) (md : Int) (one tb : Tb) (n : Nat), vs = [v, tv, .int md] ∧ TbAt H v one ∧ TbAt H tv tb ∧ 0 < md ∧ 0 < n ∧ n ≤ 8 ∧ Sqr n one ∧ Sqr n tb ∧
  ∀ u H', Same H H' → TbAt H' u (jTab one tb n md) → Q u H'
def spCell (K : PySem.W.Frag) : Sp := fun vs H Q _ => ∃ (a : Addr) (k : Nat) (ns : List Int), vs = [.ref a, .int (k : Int)] ∧ SqL K H a (ns.map V.int) ∧ Q (.int (cellD ns k)) H
def spWhole : Sp := fun vs H Q _ => ∃ i : Int, vs = [.int i] ∧ Q (.bl true) H
def spLaw (K : PySem.W.Frag) : Sp := fun vs H Q _ => ∃ (a : Addr) (ns : List Int), vs = [.ref a] ∧ SqL K H a (ns.map V.int) ∧ ns.length ≤ 63 ∧ ∀ H', Q (.bl true) H'
structure Txt (mg : Str → Option Value) : Prop where
  n_len : mg "len" = none
  n_int : mg "int" = none
  n_bool : mg "bool" = none
  n_list : mg "list" = none
  n_tuple : mg "tuple" = none
  n_range : mg "range" = none
  n_min : mg "min" = none
  n_max : mg "max" = none
  n_sum : mg "sum" = none
  n_zip : mg "zip" = none
  n_any : mg "any" = none
  n_enumerate : mg "enumerate" = none
  n_abs : mg "abs" = none
  g_most : ∃ t, mg "MOST_IN_PATTERN" = some (.int 6 t)
  g_rows : ∃ t, mg "MOST_ROWS" = some (.int 3 t)
  n_isinstance : mg "isinstance" = none
theorem at0 {x y : V} : atI [x, y] 0 = some x := rfl
theorem at1 {x y : V} : atI [x, y] 1 = some y := rfl
section
variable {P : Program} {w : World} {K : PySem.W.Frag} {mg : Str → Option Value} {base : Heap}
theorem sc_counted_together : FnScope ["entries", "low"] ["entries"] (defScope s_counted_together) := ⟨rfl, rfl, rfl, by decide +kernel, rfl, by decide +kernel, by decide +kernel⟩
theorem ok_ct {f : Addr} {fd : FuncData} (F : Fun K "counted_together" "counted_together" s_counted_together f fd) (T : Txt mg) : FnOk P w K mg base CX0 1 f fd ["entries"] (spCT K) := by
  refine F.ok sc_counted_together (fun vs H Q E h => ?_) (fun cdv A outer s H vs Q E hr h => ?_)
  · obtain ⟨v, es, rfl, _⟩ := h
    rfl
  obtain ⟨v, es, rfl, ⟨a, xs, rfl, hA, hL⟩, hne, hlen, kk⟩ := h
  refine ⟨_, (pss_cons (ps_set (i := 1) sc_counted_together.nd rfl (Or.inr rfl) (pe_callB (call_minL rfl) (by rfl) T.n_min bt_min (pa_cons (pe_comp rfl (fr := []) (by exact CompOk.plain (by rfl) (by decide +kernel) (by rfl) (by decide +kernel) (by rfl) (by decide +kernel)) (pi_list (pv 0)) (fun C ex s H => (pe_ix (ixK_tup (K := K) rfl) (pv 0) pe_int (fun _ _ => rfl)))) pa_nil)))
      (pss_one (ps_ret (pe_tup (pa_cons (pv 1) (pa_cons (pe_callB (call_sum rfl) (by rfl) T.n_sum bt_sum (pa_cons (pe_compG rfl (fr := [("low", 1)]) (xs := ["entry"]) (CompG.of (by rfl) (by decide +kernel) (by rfl) (by decide +kernel) (by intro p hp; simp only [List.mem_cons, List.not_mem_nil, or_false] at hp; rcases hp with rfl <;> exact ⟨rfl, rfl⟩) (by decide +kernel) (by intro p hp; simp only [List.mem_cons, List.not_mem_nil, or_false] at hp; rcases hp with rfl <;> rfl)) (pi_list (pv 0)) (fun C ex s H => (pg_name (i := 0) (show (["entry", "low"] : List Str).Nodup from by decide +kernel) rfl (Or.inl rfl))) (fun C ex s H => (pts_one (pt_cmpR op_eq (pe_ix (ixK_tup (K := K) rfl) (pv 0) pe_int (fun _ _ => rfl)) (pv 1) (nomark _)))) (fun C ex s H => (pe_ix (ixK_tup (K := K) rfl) (pv 0) pe_int (fun _ _ => rfl)))) pa_nil)) pa_nil)))))), ?_⟩
  have hxl : xs.length = es.length := hL.1
  have hS : SqL K H a xs := SqL.of hA
  refine ⟨_, rfl, a, rfl, ⟨_, hS⟩, comp_list (K := K) (xs := xs) (fun i zs H2 => Same H H2 ∧ zs = ((es.take i).map (·.1)).map V.int) (Nat.le_of_lt (small1000 (by omega))) ⟨fun _ _ e => e, rfl⟩ (fun i zs H2 _ z => z.1.seq hS) ?_ ?_⟩
  · rintro i x zs H2 hx ⟨s2, rfl⟩
    obtain ⟨p, hp, t, rfl, ht⟩ := hL.get hx
    refine ⟨_, rfl, t, _, 0, _, rfl, rfl, SqT.of (s2 _ _ ht), at0, s2, ?_⟩
    rw [List.take_add_one, hp, List.map_append, List.map_append]
    rfl
  rintro zs H2 _ ⟨s2, rfl⟩ D hD
  rw [hxl, List.take_length]
  have s3 := s2.trans (same_new hD (.lst ((es.map (·.1)).map V.int)))
  refine ⟨D, es.map (·.1), rfl, SqL.of upd_same, ?_, fun m hm hl => ?_⟩
  · rw [List.length_map]; exact List.length_pos_iff.mpr hne
  have em := lowL_is hm hl
  subst em
  have hS3 := s3.seq hS
  have hL3 : LsAt PrAt (upd H2 D (.lst ((es.map (·.1)).map V.int))) xs es := hL.imp fun _ _ q => q.mono s3
  generalize upd H2 D (.lst ((es.map (·.1)).map V.int)) = H3 at s3 hS3 hL3
  generalize hlo : lowL (es.map (·.1)) = lo
  refine ⟨_, rfl, _, rfl, a, rfl, ⟨_, hS3⟩, compG_list (K := K) (xs := xs) (fun i zs H4 => Same H3 H4 ∧ zs = (((es.take i).filter fun e => decide (e.1 = lo)).map (·.2)).map V.int) (Nat.le_of_lt (small1000 (by omega))) ⟨fun _ _ e => e, rfl⟩ (fun i zs H4 _ z => z.1.seq hS3) ?_ ?_ ?_⟩
  · rintro i x zs H4 hx ⟨s4, rfl⟩
    obtain ⟨p, hp, t, rfl, ht⟩ := hL3.get hx
    have et : es.take (i + 1) = es.take i ++ [p] := by rw [List.take_add_one, hp]; rfl
    refine ⟨rfl, _, rfl, t, _, 0, _, rfl, rfl, SqT.of (s4 _ _ ht), at0, _, rfl, rfl, _, rfl, ?_⟩
    refine ite2 (fun c => ?_) (fun c => ?_)
    · have c' : p.1 = lo := V.int.inj (of_decide_eq_true c)
      refine ⟨_, rfl, t, _, 1, _, rfl, rfl, SqT.of (s4 _ _ ht), at1, s4, ?_⟩
      rw [et, List.filter_append, List.filter_cons_of_pos (by exact decide_eq_true c'), List.map_append, List.map_append]
      rfl
    · have c' : ¬ p.1 = lo := fun z => c (decide_eq_true (congrArg V.int z))
      refine ⟨s4, ?_⟩
      rw [et, List.filter_append, List.filter_cons_of_neg (by simpa using c'), List.filter_nil, List.append_nil]
  · rintro zs H4 ⟨s4, rfl⟩ D2 hD2
    rw [hxl, List.take_length]
    refine ⟨D2, _, rfl, SqL.of upd_same, (by show 2 ≤ sizeLine; decide), fun t ht => ?_⟩
    refine kk _ _ (s3.trans (s4.trans ((same_new hD2 _).trans (same_new ht _)))) ⟨t, rfl, ?_⟩
    unfold bestOf tot
    rw [hlo]
    exact upd_same
  · rintro i zs H4 ⟨_, rfl⟩
    rw [List.length_map, List.length_map]
    exact Nat.le_trans (List.length_filter_le _ _) (by rw [List.length_take]; omega)
theorem mul_ok {x y : Int} (h1 : x.natAbs < 2 ^ 200) (h2 : y.natAbs < 2 ^ 200) : IntMulOk x y := PyProof.Rows.mulOk_of_bits (m := 200) (n := 200) (PySem.intBits_le_iff.mpr h1) (PySem.intBits_le_iff.mpr h2) (by decide)
theorem sc_joined_row : FnScope ["row", "table", "modulus", "found", "then", "ways", "best"] ["row", "table", "modulus"] (defScope s_joined_row) := ⟨rfl, rfl, rfl, by decide +kernel, rfl, by decide +kernel, by decide +kernel⟩
theorem ok_jr {f fc : Addr} {fd fdc : FuncData} (F : Fun K "joined_row" "joined_row" s_joined_row f fd) (T : Txt mg) (G_counted_together : Cal P w K mg base 1 "counted_together" ["entries"] (spCT K) fc fdc) : FnOk P w K mg base CX0 2 f fd ["row", "table", "modulus"] (spJR K) := by
  refine F.ok sc_joined_row (fun vs H Q E h => ?_) (fun cdv A outer s H vs Q E hr h => ?_)
  · obtain ⟨v, tv, md, row, tb, n, rfl, _⟩ := h
    rfl
  obtain ⟨v, tv, md, row, tb, n, rfl, ⟨a, xs, rfl, hA, hL⟩, ⟨b, zs, rfl, hB, hM⟩, hmd, h0, h8, hrl, hbd, hsq, kk⟩ := h
  have hxl : xs.length = n := by rw [hL.1, hrl]
  have hzl : zs.length = n := by rw [hM.1, hsq.len]
  refine ⟨_, (pss_cons (ps_set (i := 3) sc_joined_row.nd rfl (Or.inl rfl) (pe_lst pa_nil))
      (pss_cons (ps_for PassesOwn.never rfl (pi_range1 rfl T.n_range (pa_cons (pe_callB call_len_seq (by rfl) T.n_len bt_len (pa_cons (pv 1) pa_nil)) pa_nil)) (pg_name (i := 4) sc_joined_row.nd rfl (Or.inr rfl)) (pss_cons (ps_setCompG (i := 5) rfl sc_joined_row.nd rfl rfl (fr := [("then", 4)]) (xs := ["entry", "on"]) (CompG.of (by rfl) (by decide +kernel) (by rfl) (by decide +kernel) (by intro p hp; simp only [List.mem_cons, List.not_mem_nil, or_false] at hp; rcases hp with rfl <;> exact ⟨rfl, rfl⟩) (by decide +kernel) (by intro p hp; simp only [List.mem_cons, List.not_mem_nil, or_false] at hp; rcases hp with rfl <;> rfl)) (pi_zip rfl T.n_zip (pa_cons (pv 0) (pa_cons (pv 1) pa_nil))) (fun C ex s H => (pgK_tup (n := 2) (K := K) rfl rfl (pgs_cons (pg_name (i := 0) (show (["entry", "on", "then"] : List Str).Nodup from by decide +kernel) rfl (Or.inl rfl)) (pgs_cons (pg_name (i := 1) (show (["entry", "on", "then"] : List Str).Nodup from by decide +kernel) rfl (Or.inl rfl)) pgs_nil)))) (fun C ex s H => pts_nil) (fun C ex s H => (pe_tup (pa_cons (pe_op op_add (pe_ix (ixK_tup (K := K) rfl) (pv 0) pe_int (fun _ _ => rfl)) (pe_ix (ixK_tup (K := K) rfl) (pe_ix (ixK_list (K := K) rfl) (pv 1) (pv 2) (fun _ _ => rfl)) pe_int (fun _ _ => rfl))) (pa_cons (pe_op op_mulB (pe_ix (ixK_tup (K := K) rfl) (pv 0) pe_int (fun _ _ => rfl)) (pe_ix (ixK_tup (K := K) rfl) (pe_ix (ixK_list (K := K) rfl) (pv 1) (pv 2) (fun _ _ => rfl)) pe_int (fun _ _ => rfl))) pa_nil)))))
      (pss_cons (ps_set (i := 6) sc_joined_row.nd rfl (Or.inl rfl) (pe_call G_counted_together.ok (hr.mono (by decide)) rfl G_counted_together.mg G_counted_together.kp G_counted_together.bn .nil pass0 (pa_cons (pv 5) pa_nil)))
      (pss_one (ps_expr (pe_bm PySem.F.plainAttrs_list PySem.F.slot_list_append PySem.F.type_list_append mt_append (pv 3) (pa_cons (pe_tup (pa_cons (pe_ix ix_tup (pv 6) pe_int (fun _ _ => rfl)) (pa_cons (pe_op op_mod (pe_ix ix_tup (pv 6) pe_int (fun _ _ => rfl)) (pv 2)) pa_nil))) pa_nil)))))))
      (pss_one (ps_ret (pv 3))))), ?_⟩
  refine ⟨(by show 0 ≤ sizeLine; decide), fun q hq => ?_⟩
  have s1 := same_new hq (.lst [])
  refine ⟨_, rfl, b, _, rfl, .inl (SqL.of (s1 _ _ hB)), _, rfl, by omega, by omega, for_range (n := zs.length) (fun j σ H2 => ∃ v4 v5 v6 us, σ = [some (.ref a), some (.ref b), some (.int md), some (.ref q), v4, v5, v6] ∧ Same H H2 ∧ H2 q = some (.lst us) ∧ LsAt PrAt H2 us ((List.range j).map (jEnt row tb n md))) ⟨_, _, _, _, rfl, s1, upd_same, LsAt.nil⟩ ?_ ?_⟩
  · rintro j σ H2 hj ⟨v4, v5, v6, us, rfl, s2, hq2, hU⟩
    have e0 : (0 : Int) + (j : Int) = (j : Int) := Int.zero_add _
    rw [e0]
    rw [hzl] at hj
    have hul : us.length = j := by rw [hU.1, List.length_map, List.length_range]
    have hA2 := s2 _ _ hA
    have hB2 := s2 _ _ hB
    refine ⟨_, rfl, _, rfl, a, b, rfl, ⟨_, SqL.of hA2⟩, ⟨_, SqL.of hB2⟩, compG_zip (K := K) (xs := xs) (zs := zs) (fun i ys H4 => Same H2 H4 ∧ LsAt PrAt H4 ys ((List.range i).map (wayI row tb j))) (Nat.le_of_lt (small1000 (by omega))) (by omega) ⟨fun _ _ e => e, LsAt.nil⟩ (fun i ys H4 _ z => ⟨SqL.of (z.1 _ _ hA2), SqL.of (z.1 _ _ hB2)⟩) ?_ ?_ ?_⟩
    · rintro i x z ys H4 T2 hx hz ⟨s4, hY⟩ hT2
      have s5 := (s2.trans s4).trans (same_new hT2 (.tup [x, z]))
      have s45 := same_new hT2 (.tup [x, z])
      obtain ⟨e, he, t, rfl, ht⟩ := hL.get hx
      obtain ⟨on, hon, c, os, rfl, hc, hO⟩ := hM.get hz
      have hlj : j < on.length := by rw [hsq.row on (List.mem_of_getElem? hon)]; exact hj
      obtain ⟨o, ho⟩ : ∃ o, on[j]? = some o := ⟨_, List.getElem?_eq_getElem hlj⟩
      obtain ⟨y, hy, t3, rfl, ht3⟩ := hO.2 j o ho
      have bm := mul_ok (hbd e (List.mem_of_getElem? he)) (hsq.bd on (List.mem_of_getElem? hon) o (List.mem_of_getElem? ho))
      refine ⟨T2, _, rfl, SqT.of upd_same, rfl, _, _, rfl, _, _, rfl, rfl, rfl, yesT ?_⟩
      refine ⟨_, rfl, t, _, 0, _, rfl, rfl, SqT.of (s5 _ _ ht), at0, _, rfl, _, rfl, c, os, _, _, rfl, rfl, SqL.of (s5 _ _ hc), atI_nat hy, t3, _, 0, _, rfl, rfl, SqT.of (s5 _ _ ht3), at0, _, _, rfl, rfl, ?_⟩
      refine ⟨_, rfl, t, _, 1, _, rfl, rfl, SqT.of (s5 _ _ ht), at1, _, rfl, _, rfl, c, os, _, _, rfl, rfl, SqL.of (s5 _ _ hc), atI_nat hy, t3, _, 1, _, rfl, rfl, SqT.of (s5 _ _ ht3), at1, _, _, rfl, rfl, bm, (by show 2 ≤ sizeLine; decide), fun t4 ht4 => ?_⟩
      have s6 := s45.trans (same_new ht4 (.tup [.int (e.1 + o.1), .int (e.2 * o.2)]))
      refine ⟨s4.trans s6, ?_⟩
      rw [rng_succ, wayI_at he hon ho]
      exact (hY.imp fun _ _ q => q.mono s6).snoc ⟨t4, rfl, upd_same⟩
    · rintro ys H4 ⟨s4, hY⟩ D hD
      rw [hxl] at hY
      have s5 := same_new hD (.lst ys)
      have s25 := s4.trans s5
      refine ⟨_, rfl, _, ways row tb n j, rfl, ⟨D, ys, rfl, upd_same, hY.imp fun _ _ q => q.mono s5⟩, ?_, ?_, fun u H6 s6 hP => ?_⟩
      · intro e
        have := congrArg List.length e
        unfold ways at this
        rw [List.length_map, List.length_range] at this
        exact absurd this (by show ¬ n = 0; omega)
      · unfold ways; rw [List.length_map, List.length_range]; omega
      obtain ⟨t, rfl, ht⟩ := hP
      have s26 := s25.trans s6
      have hq6 := s26 _ _ hq2
      refine ⟨_, rfl, .inl ⟨rfl, _, SqL.of hq6⟩, _, rfl, t, _, 0, _, rfl, rfl, SqT.of ht, at0, _, rfl, t, _, 1, _, rfl, rfl, SqT.of ht, at1, _, rfl, _, _, rfl, rfl, hmd, (by show 2 ≤ sizeLine; decide), fun t7 ht7 => ?_⟩
      have s7 := same_new ht7 (.tup [.int (bestOf (ways row tb n j)).1, .int ((bestOf (ways row tb n j)).2 % md)])
      have s27 := s26.trans s7
      refine ⟨q, us, _, rfl, rfl, s7 _ _ hq6, small1000 (by omega), ?_⟩
      refine ⟨_, _, _, _, rfl, same_upd (s2.trans s27) hq _, upd_same, ?_⟩
      rw [rng_succ]
      have hq7 := s7 _ _ hq6
      exact ((hU.imp fun _ _ y => y.mono s27).snoc (x := jEnt row tb n md j) ⟨t7, rfl, upd_same⟩).imp fun _ _ y => y.put hq7
    · rintro i ys H4 ⟨_, hY⟩
      rw [hY.1, List.length_map, List.length_range]
      exact Nat.le_refl _
  · rintro σ H2 ⟨v4, v5, v6, us, rfl, s2, hq2, hU⟩
    rw [hzl] at hU
    exact ⟨_, rfl, kk _ _ s2 ⟨q, us, rfl, hq2, hU⟩⟩
theorem sc_tables_joined : FnScope ["one", "two", "modulus"] ["one", "two", "modulus"] (defScope s_tables_joined) := ⟨rfl, rfl, rfl, by decide +kernel, rfl, by decide +kernel, by decide +kernel⟩
theorem ok_jt {f fc : Addr} {fd fdc : FuncData} (F : Fun K "tables_joined" "tables_joined" s_tables_joined f fd) (T : Txt mg) (G_joined_row : Cal P w K mg base 2 "joined_row" ["row", "table", "modulus"] (spJR K) fc fdc) : FnOk P w K mg base CX0 3 f fd ["one", "two", "modulus"] (spJT K) := by
  refine F.ok sc_tables_joined (fun vs H Q E h => ?_) (fun cdv A outer s H vs Q E hr h => ?_)
  · obtain ⟨v, tv, md, one, tb, n, rfl, _⟩ := h
    rfl
  obtain ⟨v, tv, md, one, tb, n, rfl, ⟨a, xs, rfl, hA, hL⟩, hT, hmd, h0, h8, hs1, hs2, kk⟩ := h
  have hxl : xs.length = n := by rw [hL.1, hs1.len]
  obtain ⟨b, zs, rfl, hB, hM⟩ := hT
  refine ⟨_, (pss_one (ps_ret (pe_compG rfl (fr := [("two", 1), ("modulus", 2)]) (xs := ["row"]) (CompG.of (by rfl) (by decide +kernel) (by rfl) (by decide +kernel) (by intro p hp; simp only [List.mem_cons, List.not_mem_nil, or_false] at hp; rcases hp with rfl | rfl <;> exact ⟨rfl, rfl⟩) (by decide +kernel) (by intro p hp; simp only [List.mem_cons, List.not_mem_nil, or_false] at hp; rcases hp with rfl | rfl <;> rfl)) (pi_list (pv 0)) (fun C ex s H => (pg_name (i := 0) (show (["row", "two", "modulus"] : List Str).Nodup from by decide +kernel) rfl (Or.inl rfl))) (fun C ex s H => pts_nil) (fun C ex s H => (pe_call G_joined_row.ok (hr.mono (by decide)) rfl G_joined_row.mg G_joined_row.kp G_joined_row.bn .nil pass0 (pa_cons (pv 0) (pa_cons (pv 1) (pa_cons (pv 2) pa_nil)))))))), ?_⟩
  refine ⟨_, rfl, a, rfl, ⟨_, SqL.of hA⟩, compG_list (K := K) (xs := xs) (fun i ys H2 => Same H H2 ∧ LsAt RwAt H2 ys ((one.take i).map fun row => jRow row tb n md)) (Nat.le_of_lt (small1000 (by omega))) ⟨fun _ _ e => e, LsAt.nil⟩ (fun i ys H2 _ z => SqL.of (z.1 _ _ hA)) ?_ ?_ ?_⟩
  · rintro i x ys H2 hx ⟨s2, hY⟩
    obtain ⟨row, hrow, hR⟩ := hL.get hx
    have hm := List.mem_of_getElem? hrow
    refine ⟨rfl, yesT ⟨_, rfl, _, rfl, _, rfl, x, .ref b, md, row, tb, n, rfl, hR.mono s2, ⟨b, zs, rfl, s2 _ _ hB, hM.imp fun _ _ q => q.mono s2⟩, hmd, h0, h8, hs1.row row hm, hs1.bd row hm, hs2, fun u H3 s3 hu => ⟨s2.trans s3, ?_⟩⟩⟩
    rw [List.take_add_one, hrow, List.map_append]
    exact (hY.imp fun _ _ q => q.mono s3).snoc hu
  · rintro ys H2 ⟨s2, hY⟩ D hD
    rw [hL.1, List.take_length] at hY
    exact kk _ _ (s2.trans (same_new hD _)) ⟨D, ys, rfl, upd_same, hY.imp fun _ _ q => q.mono (same_new hD _)⟩
  · rintro i ys H2 ⟨_, hY⟩
    rw [hY.1, List.length_map, List.length_take]
    omega
theorem sc_law_cell : FnScope ["script", "k"] ["script", "k"] (defScope s_law_cell) := ⟨rfl, rfl, rfl, by decide +kernel, rfl, by decide +kernel, by decide +kernel⟩
theorem ok_cell {f : Addr} {fd : FuncData} (F : Fun K "_law_cell" "_law_cell" s_law_cell f fd) (T : Txt mg) : FnOk P w K mg base CX0 1 f fd ["script", "k"] (spCell K) := by
  refine F.ok sc_law_cell (fun vs H Q E h => ?_) (fun cdv A outer s H vs Q E hr h => ?_)
  · obtain ⟨a, k, ns, rfl, _⟩ := h
    rfl
  obtain ⟨a, k, ns, rfl, hS, q⟩ := h
  refine ⟨_, (pss_cons (ps_if (pt_cmpR op_lt (pv 1) (pe_callB call_len_seq (by rfl) T.n_len bt_len (pa_cons (pv 0) pa_nil)) (nomark _)) (pss_one (ps_ret (pe_ix ix_list (pv 0) (pv 1) (fun _ _ => rfl)))) pss_nil)
      (pss_one (ps_ret pe_int))), ?_⟩
  refine ⟨_, rfl, _, rfl, a, _, rfl, .inl hS, _, _, rfl, rfl, _, rfl, ?_⟩
  refine ite2 (fun c => ?_) (fun c => ?_)
  · have c' : (k : Int) < ((ns.map V.int).length : Int) := of_decide_eq_true c
    rw [List.length_map] at c'
    have hk : k < ns.length := by omega
    have hat : atI (ns.map V.int) (k : Int) = some (.int (cellD ns k)) := atI_nat (by rw [List.getElem?_map, List.getElem?_eq_getElem hk]; unfold cellD; rw [List.getD_eq_getElem?_getD, List.getElem?_eq_getElem hk]; rfl)
    exact ⟨_, rfl, _, rfl, a, _, _, _, rfl, rfl, hS, hat, q⟩
  · have c' : ¬ (k : Int) < ((ns.map V.int).length : Int) := fun z => c (decide_eq_true z)
    rw [List.length_map] at c'
    have e : cellD ns k = 0 := by unfold cellD; rw [List.getD_eq_getElem?_getD, List.getElem?_eq_none (by omega)]; rfl
    rw [e] at q
    exact q
theorem sc_law_whole : FnScope ["found"] ["found"] (defScope s_law_whole) := ⟨rfl, rfl, rfl, by decide +kernel, rfl, by decide +kernel, by decide +kernel⟩
theorem ok_whole {f : Addr} {fd : FuncData} (F : Fun K "_law_whole" "_law_whole" s_law_whole f fd) (T : Txt mg) : FnOk P w K mg base CX0 1 f fd ["found"] spWhole := by
  refine F.ok sc_law_whole (fun vs H Q E h => ?_) (fun cdv A outer s H vs Q E hr h => ?_)
  · obtain ⟨i, rfl, _⟩ := h
    rfl
  obtain ⟨i, rfl, k⟩ := h
  refine ⟨_, (pss_one (ps_ret (pe_and (pe_callB call_isi (by rfl) T.n_isinstance bt_isinstance (pa_cons (pv 0) (pa_cons (pe_bltn (v := .ty "int") rfl T.n_int bt_int rfl) pa_nil))) (pe_one (pe_not (pe_callB call_isi (by rfl) T.n_isinstance bt_isinstance (pa_cons (pv 0) (pa_cons (pe_bltn (v := .ty "bool") rfl T.n_bool bt_bool rfl) pa_nil)))))))), ?_⟩
  refine ⟨_, rfl, _, _, _, _, _, rfl, TyOf.int i, Or.inl ⟨_, rfl, rfl⟩, kit_ii K, _, rfl, iteT ?_⟩
  exact ⟨_, rfl, _, _, _, _, _, rfl, TyOf.int i, Or.inl ⟨_, rfl, rfl⟩, kit_ib K, _, rfl, k⟩
end
/-! powers of tables: the mathematics -/
def sumL {α : Type} (l : List α) (f : α → Int) : Int := (l.map f).sum
theorem sumL_nil {α : Type} (f : α → Int) : sumL [] f = 0 := rfl
theorem sumL_cons {α : Type} (x : α) (l : List α) (f : α → Int) : sumL (x :: l) f = f x + sumL l f := by unfold sumL; rw [List.map_cons, List.sum_cons]
theorem sumL_zero {α : Type} (l : List α) : sumL l (fun _ => 0) = 0 := by
  induction l with
  | nil => rfl
  | cons x l ih => rw [sumL_cons, ih]; rfl
theorem sumL_congr {α : Type} {l : List α} {f g : α → Int} (h : ∀ x ∈ l, f x = g x) : sumL l f = sumL l g := by
  induction l with
  | nil => rfl
  | cons x l ih => rw [sumL_cons, sumL_cons, h x (by simp), ih fun y hy => h y (by simp [hy])]
theorem tot_sum (es : List Pr) (lo : Int) : tot es lo = sumL es (fun e => if e.1 = lo then e.2 else 0) := by
  induction es with
  | nil => rfl
  | cons x l ih =>
    rw [sumL_cons, ← ih]
    unfold tot
    by_cases c : x.1 = lo
    · rw [List.filter_cons_of_pos (by exact decide_eq_true c), if_pos c, List.map_cons, List.sum_cons]
    · rw [List.filter_cons_of_neg (by simpa using c), if_neg c]; omega
/-- the low and the sum of a row of ways, by what is at each number -/
def lowR (n : Nat) (f : Nat → Int) : Int := lowL ((List.range n).map f)
theorem lowR_spec {n : Nat} (h : 0 < n) (f : Nat → Int) : (∃ i, i < n ∧ f i = lowR n f) ∧ ∀ i, i < n → lowR n f ≤ f i := by
  have ne : (List.range n).map f ≠ [] := fun e => by
    have := congrArg List.length e
    rw [List.length_map, List.length_range] at this
    exact absurd this (by show ¬ n = 0; omega)
  obtain ⟨a, b⟩ := lowL_spec _ ne
  obtain ⟨i, hi, e⟩ := List.mem_map.mp a
  exact ⟨⟨i, List.mem_range.mp hi, e⟩, fun i hi => b _ (List.mem_map.mpr ⟨i, List.mem_range.mpr hi, rfl⟩)⟩
theorem lowR_congr {n : Nat} {f g : Nat → Int} (h : ∀ i, i < n → f i = g i) : lowR n f = lowR n g := by
  unfold lowR
  rw [List.map_congr_left fun i hi => h i (List.mem_range.mp hi)]
abbrev Mt := Nat → Nat → Pr
/-- two tables joined, as functions -/
def jn (n : Nat) (m : Int) (A B : Mt) : Mt := fun s t => (lowR n fun u => (A s u).1 + (B u t).1, (sumL (List.range n) fun u => if (A s u).1 + (B u t).1 = lowR n (fun u => (A s u).1 + (B u t).1) then (A s u).2 * (B u t).2 else 0) % m)

/-! tables as functions -/
def tabOf (n : Nat) (A : Mt) : Tb := (List.range n).map fun s => (List.range n).map fun t => A s t
def mtOf (tb : Tb) : Mt := fun s t => g2 (tb.getD s []) t
theorem list_rng {α : Type} (l : List α) (d : α) : (List.range l.length).map (fun i => l.getD i d) = l := by
  apply List.ext_getElem?
  intro i
  rw [List.getElem?_map]
  by_cases h : i < l.length
  · rw [List.getElem?_range h, Option.map_some, List.getD_eq_getElem?_getD, List.getElem?_eq_getElem h]; rfl
  · rw [List.getElem?_eq_none (by rw [List.length_range]; omega), List.getElem?_eq_none (by omega)]; rfl
theorem get_rng {α : Type} {n i : Nat} {f : Nat → α} {d : α} (h : i < n) : ((List.range n).map f).getD i d = f i := by
  rw [List.getD_eq_getElem?_getD, List.getElem?_map, List.getElem?_range h]; rfl
theorem mt_tab {n s t : Nat} {A : Mt} (hs : s < n) (ht : t < n) : mtOf (tabOf n A) s t = A s t := by
  unfold mtOf tabOf g2
  rw [get_rng hs, get_rng ht]
theorem tab_congr {n : Nat} {A B : Mt} (h : ∀ s t, s < n → t < n → A s t = B s t) : tabOf n A = tabOf n B := by
  unfold tabOf
  refine List.map_congr_left fun s hs => List.map_congr_left fun t ht => h s t (List.mem_range.mp hs) (List.mem_range.mp ht)
theorem jEnt_jn {one tb : Tb} {n : Nat} {md : Int} (s t : Nat) : jEnt (one.getD s []) tb n md t = jn n md (mtOf one) (mtOf tb) s t := by
  unfold jEnt bestOf
  have e1 : (ways (one.getD s []) tb n t).map (·.1) = (List.range n).map fun u => (mtOf one s u).1 + (mtOf tb u t).1 := by unfold ways; rw [List.map_map]; rfl
  rw [e1, tot_sum]
  have e2 : ∀ f : Pr → Int, sumL (ways (one.getD s []) tb n t) f = sumL (List.range n) fun u => f (wayI (one.getD s []) tb t u) := fun f => by unfold sumL ways; rw [List.map_map]; rfl
  rw [e2]
  rfl
theorem jTab_jn {one tb : Tb} {n : Nat} {md : Int} (h : one.length = n) : jTab one tb n md = tabOf n (jn n md (mtOf one) (mtOf tb)) := by
  unfold jTab tabOf
  have e : one.map (fun row => jRow row tb n md) = ((List.range one.length).map (fun i => one.getD i [])).map (fun row => jRow row tb n md) := by rw [list_rng]
  rw [e, List.map_map, h]
  refine List.map_congr_left fun s _ => ?_
  show jRow (one.getD s []) tb n md = _
  unfold jRow
  exact List.map_congr_left fun t _ => jEnt_jn s t
theorem jn_congr {n : Nat} {md : Int} {A B C D : Mt} (h : ∀ s t, s < n → t < n → A s t = C s t) (k : ∀ s t, s < n → t < n → B s t = D s t) {s t : Nat} (hs : s < n) (ht : t < n) : jn n md A B s t = jn n md C D s t := by
  have e : ∀ u, u < n → (A s u).1 + (B u t).1 = (C s u).1 + (D u t).1 := fun u hu => by rw [h s u hs hu, k u t hu ht]
  unfold jn
  rw [lowR_congr e]
  refine congrArg (fun z => (_, z % md)) (sumL_congr fun u hu => ?_)
  have hu' := List.mem_range.mp hu
  rw [h s u hs hu', k u t hu' ht]
theorem jTab_tab {n : Nat} {md : Int} (A B : Mt) : jTab (tabOf n A) (tabOf n B) n md = tabOf n (jn n md A B) := by
  rw [jTab_jn (by unfold tabOf; rw [List.length_map, List.length_range])]
  exact tab_congr fun s t hs ht => jn_congr (fun s t hs ht => mt_tab hs ht) (fun s t hs ht => mt_tab hs ht) hs ht

end KS

namespace KS
open PySem L2
/-! strips: the mathematics -/
abbrev Col := List Int × List Int
def paidA (s : Int) : Int := if -s > 0 then -s else 0
def paidU (s : Int) : Int := if s > 0 then s else 0
def priceB (s : Int) (d : Nat) : Int := if d % 2 = 1 then paidU s else paidA s
def priceAt (ss : List Int) (d i : Nat) : Int := priceB (ss.getD i 0) (d / 2 ^ i)
def priceAll (ss : List Int) (d : Nat) : Int := ((List.range ss.length).map (priceAt ss d)).sum
def aC (c : Col) (s : Nat) : Int := priceAll c.1 (s ^^^ (s / 2))
def lC (c : Col) (s t : Nat) : Int := priceAll c.2 (s ^^^ t)
def colM (c : Col) : Mt := fun s t => (aC c s + lC c s t, 1)
structure Good (r : Nat) (pat : List Col) : Prop where
  p0 : 0 < pat.length
  p6 : pat.length ≤ 6
  r1 : 1 ≤ r
  r3 : r ≤ 3
  al : ∀ c ∈ pat, c.2.length = r ∧ c.1.length + 1 = r
theorem Good.n8 {r : Nat} {pat : List Col} (g : Good r pat) : 0 < 2 ^ r ∧ 2 ^ r ≤ 8 := by
  have h1 := g.r1
  have h3 := g.r3
  match r, h1, h3 with
  | 1, _, _ => decide
  | 2, _, _ => decide
  | 3, _, _ => decide
/-- joined without a modulus -/
def jx (n : Nat) (A B : Mt) : Mt := fun s t => (lowR n fun u => (A s u).1 + (B u t).1, sumL (List.range n) fun u => if (A s u).1 + (B u t).1 = lowR n (fun u => (A s u).1 + (B u t).1) then (A s u).2 * (B u t).2 else 0)
theorem jn_jx (n : Nat) (m : Int) (A B : Mt) (s t : Nat) : jn n m A B s t = ((jx n A B s t).1, (jx n A B s t).2 % m) := rfl
/-- bounds of the manys -/
def Cnt (n : Nat) (A : Mt) (b : Nat) : Prop := ∀ s t, s < n → t < n → 0 ≤ (A s t).2 ∧ (A s t).2 ≤ (b : Int)
theorem sumL_bd {n : Nat} {f : Nat → Int} {b : Int} (h : ∀ u, u < n → 0 ≤ f u ∧ f u ≤ b) : 0 ≤ sumL (List.range n) f ∧ sumL (List.range n) f ≤ n * b := by
  induction n with
  | zero => exact ⟨Int.le_refl _, by rw [show List.range 0 = [] from rfl, sumL_nil]; simp⟩
  | succ n ih =>
    obtain ⟨i1, i2⟩ := ih fun u hu => h u (by omega)
    obtain ⟨j1, j2⟩ := h n (by omega)
    have e : sumL (List.range (n + 1)) f = sumL (List.range n) f + f n := by
      unfold sumL
      rw [List.range_succ, List.map_append, List.sum_append, List.map_cons, List.map_nil, List.sum_cons, List.sum_nil]
      omega
    have e2 : ((n + 1 : Nat) : Int) * b = n * b + b := by push_cast; rw [Int.add_mul, Int.one_mul]
    rw [e, e2]
    omega
theorem colM_cnt (n : Nat) (c : Col) : Cnt n (colM c) 1 := fun _ _ _ _ => ⟨by show (0 : Int) ≤ 1; decide, by show (1 : Int) ≤ ((1 : Nat) : Int); decide⟩
theorem jx_cnt {n b : Nat} {A : Mt} {c : Col} (h : Cnt n A b) : Cnt n (jx n A (colM c)) (n * b) := fun s t hs ht => by
  have := sumL_bd (n := n) (f := fun u => if (A s u).1 + (colM c u t).1 = lowR n (fun u => (A s u).1 + (colM c u t).1) then (A s u).2 * (colM c u t).2 else 0) (b := (b : Int)) fun u hu => by
    obtain ⟨h1, h2⟩ := h s u hs hu
    have e : (A s u).2 * (colM c u t).2 = (A s u).2 := Int.mul_one _
    by_cases z : (A s u).1 + (colM c u t).1 = lowR n (fun u => (A s u).1 + (colM c u t).1)
    · rw [if_pos z, e]; exact ⟨h1, h2⟩
    · rw [if_neg z]; exact ⟨Int.le_refl _, by omega⟩
  push_cast
  exact this
def stepF (n : Nat) (A : Mt) (r : List Col) : Mt := r.foldl (fun A c => jx n A (colM c)) A
def stepM (n : Nat) : List Col → Mt
  | [] => fun _ _ => (0, 0)
  | c :: r => stepF n (colM c) r
theorem stepF_snoc (n : Nat) (A : Mt) (r : List Col) (c : Col) : stepF n A (r ++ [c]) = jx n (stepF n A r) (colM c) := by unfold stepF; rw [List.foldl_append]; rfl
theorem stepF_cnt {n b : Nat} (A : Mt) (h : Cnt n A b) (r : List Col) : Cnt n (stepF n A r) (n ^ r.length * b) := by
  induction r generalizing A b with
  | nil => rw [List.length_nil, Nat.pow_zero, Nat.one_mul]; exact h
  | cons c r ih =>
    have := ih (jx n A (colM c)) (jx_cnt h)
    rw [List.length_cons, Nat.pow_succ, Nat.mul_assoc]
    exact this
/-! rows -/
abbrev Vc := Nat → Pr
def cst (v : Vc) : Mt := fun _ => v
def jv (n : Nat) (v : Vc) (B : Mt) : Vc := fun t => jx n (cst v) B 0 t
def colAt (pat : List Col) (k : Nat) : Col := pat.getD (k % pat.length) ([], [])
end KS


namespace KS
open PySem L2
local macro_rules | `(tactic| walk_at "cc") => `(tactic| first | exact ⟨by decide, by decide⟩ | (show (0 : Int) < _; decide) | (show (0 : Int) < _; omega) | (show (0 : Int) ≤ _; omega) | exact ⟨by decide, by decide, by decide⟩ | exact ⟨by omega, by omega, by decide⟩ | exact Or.inl ⟨by decide, by decide⟩ | exact Or.inl ⟨by omega, by omega⟩)
local macro_rules | `(tactic| walk_at "rd") => `(tactic| repeat (first | refine ⟨_, rfl, ?_⟩ | refine ⟨_, _, rfl, rfl, ?_⟩ | refine ⟨rfl, ?_⟩ | (refine ⟨?cc, ?_⟩; (case cc => walk_at "cc"))))

theorem pe_globI {X : Cx} {x : Str} {n : Int} {pos : Pos} (hg : Gl X x) (hm : ∃ t, X.mg x = some (.int n t)) (hd : (x == ("__debug__" : Str)) = false := by decide) : PE X (.Name x pos) (tC (.int n)) := by
  obtain ⟨t, h⟩ := hm
  exact pe_glob hg h ⟨t, rfl⟩ hd
/-! as they lie -/
def ColAt (H : Hp) (v : V) (c : Col) : Prop := ∃ t a b, v = .ref t ∧ H t = some (.tup [.ref a, .ref b]) ∧ H a = some (.lst (c.1.map V.int)) ∧ H b = some (.lst (c.2.map V.int))
def PatAt (H : Hp) (v : V) (pat : List Col) : Prop := ∃ a ys, v = .ref a ∧ H a = some (.lst ys) ∧ LsAt ColAt H ys pat
theorem ColAt.mono {H H' : Hp} {v : V} {c : Col} (h : ColAt H v c) (s : Same H H') : ColAt H' v c := by
  obtain ⟨t, a, b, e, h1, h2, h3⟩ := h
  exact ⟨t, a, b, e, s _ _ h1, s _ _ h2, s _ _ h3⟩
theorem PatAt.mono {H H' : Hp} {v : V} {pat : List Col} (h : PatAt H v pat) (s : Same H H') : PatAt H' v pat := by
  obtain ⟨a, ys, e, z, l⟩ := h
  exact ⟨a, ys, e, s _ _ z, l.imp fun _ _ q => q.mono s⟩
theorem xa (m n : Nat) : (m ^^^ n) + 2 * (m &&& n) = m + n := by
  have h := PyProof.Rows.nat_or_add_and m n
  have h2 : (m ||| n) = (m ^^^ n) + (m &&& n) := by
    have e : (m ^^^ n) + (m &&& n) = (m ^^^ n) ||| (m &&& n) := by
      have q := PyProof.Rows.nat_or_add_and (m ^^^ n) (m &&& n)
      have z : (m ^^^ n) &&& (m &&& n) = 0 := by
        apply Nat.eq_of_testBit_eq
        intro i
        simp only [Nat.testBit_and, Nat.testBit_xor, Nat.zero_testBit]
        cases m.testBit i <;> cases n.testBit i <;> rfl
      omega
    rw [e]
    apply Nat.eq_of_testBit_eq
    intro i
    simp only [Nat.testBit_and, Nat.testBit_xor, Nat.testBit_or]
    cases m.testBit i <;> cases n.testBit i <;> rfl
  omega
theorem bx_nat (a b : Nat) : Builtin.bitXor (a : Int) (b : Int) = ((a ^^^ b : Nat) : Int) := by
  rw [PyProof.Rows.bitXor_and, PyProof.Rows.bitAnd_pp (Int.natCast_nonneg _) (Int.natCast_nonneg _), Int.toNat_natCast, Int.toNat_natCast]
  have q := xa a b
  omega
theorem shr_nat (a i : Nat) : (a : Int) / 2 ^ ((i : Int)).toNat = ((a / 2 ^ i : Nat) : Int) := by
  rw [Int.toNat_natCast]; push_cast; rfl
theorem small8 {n : Nat} (h : n ≤ 8) : n ≤ sizeLine := Nat.le_of_lt (small1000 (by omega))
def spPA : Sp := fun vs H Q _ => ∃ x : Int, vs = [.int x] ∧ Q (.int (paidA x)) H
def spPU : Sp := fun vs H Q _ => ∃ x : Int, vs = [.int x] ∧ Q (.int (paidU x)) H
def spPB : Sp := fun vs H Q _ => ∃ (x : Int) (d : Nat), vs = [.int x, .int (d : Int)] ∧ Q (.int (priceB x d)) H
def spPall (K : PySem.W.Frag) : Sp := fun vs H Q _ => ∃ (a : Addr) (ss : List Int) (d : Nat), vs = [.ref a, .int (d : Int)] ∧ SqL K H a (ss.map V.int) ∧ ss.length ≤ 900 ∧ ∀ H', Same H H' → Q (.int (priceAll ss d)) H'
def spPac : Sp := fun vs H Q _ => ∃ (v : V) (c : Col) (s : Nat), vs = [v, .int (s : Int)] ∧ ColAt H v c ∧ c.1.length ≤ 900 ∧ ∀ H', Same H H' → Q (.int (aC c s)) H'
def spPal : Sp := fun vs H Q _ => ∃ (v : V) (c : Col) (s t : Nat), vs = [v, .int (s : Int), .int (t : Int)] ∧ ColAt H v c ∧ c.2.length ≤ 900 ∧ ∀ H', Same H H' → Q (.int (lC c s t)) H'
def spCol : Sp := fun vs H Q _ => ∃ (v : V) (c : Col) (r : Nat), vs = [v] ∧ ColAt H v c ∧ c.2.length = r ∧ 1 ≤ r ∧ r ≤ 3 ∧ c.1.length ≤ 900 ∧ ∀ u H', Same H H' → TbAt H' u (tabOf (2 ^ r) (colM c)) → Q u H'
def spRows : Sp := fun vs H Q _ => ∃ (v : V) (c : Col) (pat : List Col), vs = [v] ∧ PatAt H v (c :: pat) ∧ Q (.int (c.2.length : Int)) H
def spRef : Sp := fun vs H Q _ => ∃ (v : V) (r : Nat) (pat : List Col), vs = [v] ∧ PatAt H v pat ∧ Good r pat ∧ Q .non H
def spStep : Sp := fun vs H Q _ => ∃ (v : V) (r : Nat) (pat : List Col), vs = [v] ∧ PatAt H v pat ∧ Good r pat ∧ ∀ u H', Same H H' → TbAt H' u (tabOf (2 ^ r) (stepM (2 ^ r) pat)) → Q u H'
section
variable {P : Program} {w : World} {K : PySem.W.Frag} {mg : Str → Option Value} {base : Heap}
theorem sc_paid_alike : FnScope ["pull"] ["pull"] (defScope s_paid_alike) := ⟨rfl, rfl, rfl, by decide +kernel, rfl, by decide +kernel, by decide +kernel⟩
theorem ok_pa {f : Addr} {fd : FuncData} (F : Fun K "paid_alike" "paid_alike" s_paid_alike f fd) (T : Txt mg) : FnOk P w K mg base CX0 1 f fd ["pull"] spPA := by
  refine F.ok sc_paid_alike (fun vs H Q E h => ?_) (fun cdv A outer s H vs Q E hr h => ?_)
  · obtain ⟨x, rfl, _⟩ := h
    rfl
  obtain ⟨x, rfl, kk⟩ := h
  refine ⟨_, (pss_one (ps_ret (pe_callB (call_max2 rfl) (by rfl) T.n_max bt_max (pa_cons pe_int (pa_cons (pe_un un_neg (pv 0)) pa_nil))))), ?_⟩
  exact ⟨_, rfl, _, rfl, _, _, rfl, kk⟩
theorem sc_paid_unlike : FnScope ["pull"] ["pull"] (defScope s_paid_unlike) := ⟨rfl, rfl, rfl, by decide +kernel, rfl, by decide +kernel, by decide +kernel⟩
theorem ok_pu {f : Addr} {fd : FuncData} (F : Fun K "paid_unlike" "paid_unlike" s_paid_unlike f fd) (T : Txt mg) : FnOk P w K mg base CX0 1 f fd ["pull"] spPU := by
  refine F.ok sc_paid_unlike (fun vs H Q E h => ?_) (fun cdv A outer s H vs Q E hr h => ?_)
  · obtain ⟨x, rfl, _⟩ := h
    rfl
  obtain ⟨x, rfl, kk⟩ := h
  refine ⟨_, (pss_one (ps_ret (pe_callB (call_max2 rfl) (by rfl) T.n_max bt_max (pa_cons pe_int (pa_cons (pv 0) pa_nil))))), ?_⟩
  exact ⟨_, rfl, _, _, rfl, kk⟩
theorem sc_price_between : FnScope ["signed", "differ"] ["signed", "differ"] (defScope s_price_between) := ⟨rfl, rfl, rfl, by decide +kernel, rfl, by decide +kernel, by decide +kernel⟩
theorem ok_pb {f f1 f2 : Addr} {fd fd1 fd2 : FuncData} (F : Fun K "price_between" "price_between" s_price_between f fd) (T : Txt mg) (G_paid_alike : Cal P w K mg base 1 "paid_alike" ["pull"] spPA f1 fd1) (G_paid_unlike : Cal P w K mg base 1 "paid_unlike" ["pull"] spPU f2 fd2) : FnOk P w K mg base CX0 2 f fd ["signed", "differ"] spPB := by
  refine F.ok sc_price_between (fun vs H Q E h => ?_) (fun cdv A outer s H vs Q E hr h => ?_)
  · obtain ⟨x, d, rfl, _⟩ := h
    rfl
  obtain ⟨x, d, rfl, kk⟩ := h
  refine ⟨_, (pss_one (ps_ret (pe_ifExp (pt_cmpR op_eq (pe_op op_mod (pv 1) pe_int) pe_int (nomark _)) (pe_call G_paid_unlike.ok (hr.mono (by decide)) rfl G_paid_unlike.mg G_paid_unlike.kp G_paid_unlike.bn .nil pass0 (pa_cons (pv 0) pa_nil)) (pe_call G_paid_alike.ok (hr.mono (by decide)) rfl G_paid_alike.mg G_paid_alike.kp G_paid_alike.bn .nil pass0 (pa_cons (pv 0) pa_nil))))), ?_⟩
  unfold priceB at kk
  refine ⟨_, rfl, _, _, rfl, rfl, (by show (0 : Int) < 2; decide), rfl, _, rfl, ?_⟩
  refine ite2 (fun z => ?_) (fun z => ?_)
  · have z' : d % 2 = 1 := by have := V.int.inj (of_decide_eq_true z); omega
    rw [if_pos z'] at kk
    exact ⟨_, rfl, x, rfl, kk⟩
  · have z' : ¬ d % 2 = 1 := fun y => z (decide_eq_true (congrArg V.int (by omega)))
    rw [if_neg z'] at kk
    exact ⟨_, rfl, x, rfl, kk⟩
theorem sc_price_of_all : FnScope ["strengths", "differ"] ["strengths", "differ"] (defScope s_price_of_all) := ⟨rfl, rfl, rfl, by decide +kernel, rfl, by decide +kernel, by decide +kernel⟩
theorem ok_pall {f f1 : Addr} {fd fd1 : FuncData} (F : Fun K "price_of_all" "price_of_all" s_price_of_all f fd) (T : Txt mg) (G_price_between : Cal P w K mg base 2 "price_between" ["signed", "differ"] spPB f1 fd1) : FnOk P w K mg base CX0 3 f fd ["strengths", "differ"] (spPall K) := by
  refine F.ok sc_price_of_all (fun vs H Q E h => ?_) (fun cdv A outer s H vs Q E hr h => ?_)
  · obtain ⟨a, ss, d, rfl, _⟩ := h
    rfl
  obtain ⟨a, ss, d, rfl, hS, hl, kk⟩ := h
  refine ⟨_, (pss_one (ps_ret (pe_callB (call_sum rfl) (by rfl) T.n_sum bt_sum (pa_cons (pe_compG rfl (fr := [("differ", 1)]) (xs := ["row", "signed"]) (CompG.of (by rfl) (by decide +kernel) (by rfl) (by decide +kernel) (by intro p hp; simp only [List.mem_cons, List.not_mem_nil, or_false] at hp; rcases hp with rfl <;> exact ⟨rfl, rfl⟩) (by decide +kernel) (by intro p hp; simp only [List.mem_cons, List.not_mem_nil, or_false] at hp; rcases hp with rfl <;> rfl)) (pi_enum rfl T.n_enumerate (pa_cons (pv 0) pa_nil)) (fun C ex s H => (pgK_tup (n := 2) (K := K) rfl rfl (pgs_cons (pg_name (i := 0) (show (["row", "signed", "differ"] : List Str).Nodup from by decide +kernel) rfl (Or.inl rfl)) (pgs_cons (pg_name (i := 1) (show (["row", "signed", "differ"] : List Str).Nodup from by decide +kernel) rfl (Or.inl rfl)) pgs_nil)))) (fun C ex s H => pts_nil) (fun C ex s H => (pe_call G_price_between.ok (hr.mono (by decide)) rfl G_price_between.mg G_price_between.kp G_price_between.bn .nil pass0 (pa_cons (pv 1) (pa_cons (pe_op op_shr (pv 2) (pv 0)) pa_nil))))) pa_nil)))), ?_⟩
  have hml : (ss.map V.int).length = ss.length := List.length_map ..
  refine ⟨_, rfl, a, rfl, ⟨_, hS⟩, compG_enum (K := K) (xs := ss.map V.int) (fun i ys H2 => Same H H2 ∧ ys = ((List.range i).map (priceAt ss d)).map V.int) (Nat.le_of_lt (small1000 (by omega))) ⟨fun _ _ e => e, rfl⟩ (fun i ys H2 _ z => z.1.seq hS) ?_ ?_ ?_⟩
  · rintro i x ys H2 T2 hx ⟨s2, rfl⟩ hT2
    rw [List.getElem?_map] at hx
    cases hi : ss[i]? with
    | none => rw [hi] at hx; cases hx
    | some z =>
      rw [hi] at hx
      cases hx
      have s3 := s2.trans (same_new hT2 (.tup [.int (i : Int), .int z]))
      refine ⟨T2, _, rfl, SqT.of upd_same, rfl, _, _, rfl, _, _, rfl, rfl, rfl, yesT ?_⟩
      refine ⟨_, rfl, _, rfl, _, rfl, _, _, rfl, rfl, Int.natCast_nonneg _, z, d / 2 ^ i, congrArg (fun q => [V.int z, V.int q]) (shr_nat d i), s3, ?_⟩
      · rw [rng_succ, List.map_append]
        unfold priceAt
        rw [List.getD_eq_getElem?_getD, hi]
        rfl
  · rintro ys H2 ⟨s2, rfl⟩ D hD
    rw [hml]
    exact ⟨D, _, rfl, SqL.of upd_same, kk _ (s2.trans (same_new hD _))⟩
  · rintro i ys H2 ⟨_, rfl⟩
    rw [List.length_map, List.length_map, List.length_range]
    exact Nat.le_refl _
theorem sc_price_across : FnScope ["column", "signs"] ["column", "signs"] (defScope s_price_across) := ⟨rfl, rfl, rfl, by decide +kernel, rfl, by decide +kernel, by decide +kernel⟩
theorem ok_pac {f f1 : Addr} {fd fd1 : FuncData} (F : Fun K "price_across" "price_across" s_price_across f fd) (T : Txt mg) (G_price_of_all : Cal P w K mg base 3 "price_of_all" ["strengths", "differ"] (spPall K) f1 fd1) : FnOk P w K mg base CX0 4 f fd ["column", "signs"] spPac := by
  refine F.ok sc_price_across (fun vs H Q E h => ?_) (fun cdv A outer s H vs Q E hr h => ?_)
  · obtain ⟨v, c, s, rfl, _⟩ := h
    rfl
  obtain ⟨v, c, sg, rfl, ⟨t, a, b, rfl, ht, ha, hb⟩, hl, kk⟩ := h
  refine ⟨_, (pss_one (ps_ret (pe_call G_price_of_all.ok (hr.mono (by decide)) rfl G_price_of_all.mg G_price_of_all.kp G_price_of_all.bn .nil pass0 (pa_cons (pe_ix ix_tup (pv 0) pe_int (fun _ _ => rfl)) (pa_cons (pe_op op_xor (pv 1) (pe_op op_shr (pv 1) pe_int)) pa_nil))))), ?_⟩
  refine ⟨_, rfl, t, _, 0, _, rfl, rfl, SqT.of ht, at0, _, rfl, _, rfl, _, _, rfl, rfl, (by show (0 : Int) ≤ 1; decide), _, _, rfl, rfl, ?_⟩
  refine ⟨a, c.1, sg ^^^ (sg / 2), ?_, SqL.of ha, hl, kk⟩
  have e : (sg : Int) / 2 ^ (1 : Int).toNat = ((sg / 2 : Nat) : Int) := by
    show (sg : Int) / 2 = _
    omega
  show [V.ref a, V.int (Builtin.bitXor (sg : Int) ((sg : Int) / 2 ^ (1 : Int).toNat))] = _
  rw [e, bx_nat]
theorem sc_price_along : FnScope ["column", "signs", "then"] ["column", "signs", "then"] (defScope s_price_along) := ⟨rfl, rfl, rfl, by decide +kernel, rfl, by decide +kernel, by decide +kernel⟩
theorem ok_pal {f f1 : Addr} {fd fd1 : FuncData} (F : Fun K "price_along" "price_along" s_price_along f fd) (T : Txt mg) (G_price_of_all : Cal P w K mg base 3 "price_of_all" ["strengths", "differ"] (spPall K) f1 fd1) : FnOk P w K mg base CX0 4 f fd ["column", "signs", "then"] spPal := by
  refine F.ok sc_price_along (fun vs H Q E h => ?_) (fun cdv A outer s H vs Q E hr h => ?_)
  · obtain ⟨v, c, s, t, rfl, _⟩ := h
    rfl
  obtain ⟨v, c, sg, th, rfl, ⟨t, a, b, rfl, ht, ha, hb⟩, hl, kk⟩ := h
  refine ⟨_, (pss_one (ps_ret (pe_call G_price_of_all.ok (hr.mono (by decide)) rfl G_price_of_all.mg G_price_of_all.kp G_price_of_all.bn .nil pass0 (pa_cons (pe_ix ix_tup (pv 0) pe_int (fun _ _ => rfl)) (pa_cons (pe_op op_xor (pv 1) (pv 2)) pa_nil))))), ?_⟩
  refine ⟨_, rfl, t, _, 1, _, rfl, rfl, SqT.of ht, at1, _, rfl, _, rfl, _, _, rfl, rfl, ?_⟩
  exact ⟨b, c.2, sg ^^^ th, congrArg (fun q => [V.ref b, V.int q]) (bx_nat sg th), SqL.of hb, hl, kk⟩
theorem sc_column_table : FnScope ["column", "every", "table", "signs", "across"] ["column"] (defScope s_column_table) := ⟨rfl, rfl, rfl, by decide +kernel, rfl, by decide +kernel, by decide +kernel⟩
theorem ok_col {f f1 f2 : Addr} {fd fd1 fd2 : FuncData} (F : Fun K "column_table" "column_table" s_column_table f fd) (T : Txt mg) (G_price_across : Cal P w K mg base 4 "price_across" ["column", "signs"] spPac f1 fd1) (G_price_along : Cal P w K mg base 4 "price_along" ["column", "signs", "then"] spPal f2 fd2) : FnOk P w K mg base CX0 5 f fd ["column"] spCol := by
  refine F.ok sc_column_table (fun vs H Q E h => ?_) (fun cdv A outer s H vs Q E hr h => ?_)
  · obtain ⟨v, c, r, rfl, _⟩ := h
    rfl
  obtain ⟨v, c, r, rfl, hC, hr2, h1, h3, hl, kk⟩ := h
  obtain ⟨t, a, b, rfl, ht, ha, hb⟩ := id hC
  have n8 : 0 < 2 ^ r ∧ 2 ^ r ≤ 8 := by
    match r, h1, h3 with
    | 1, _, _ => decide
    | 2, _, _ => decide
    | 3, _, _ => decide
  refine ⟨_, (pss_cons (ps_set (i := 1) sc_column_table.nd rfl (Or.inl rfl) (pe_listrange rfl rfl T.n_list rfl T.n_range (pe_op op_shl pe_int (pe_callB call_len_seq (by rfl) T.n_len bt_len (pa_cons (pe_ix ix_tup (pv 0) pe_int (fun _ _ => rfl)) pa_nil)))))
      (pss_cons (ps_set (i := 2) sc_column_table.nd rfl (Or.inl rfl) (pe_lst pa_nil))
      (pss_cons (ps_for PassesOwn.never rfl (pi_list (pv 1)) (pg_name (i := 3) sc_column_table.nd rfl (Or.inr rfl)) (pss_cons (ps_set (i := 4) sc_column_table.nd rfl (Or.inr rfl) (pe_call G_price_across.ok (hr.mono (by decide)) rfl G_price_across.mg G_price_across.kp G_price_across.bn .nil pass0 (pa_cons (pv 0) (pa_cons (pv 3) pa_nil))))
      (pss_one (ps_expr (pe_bm PySem.F.plainAttrs_list PySem.F.slot_list_append PySem.F.type_list_append mt_append (pv 2) (pa_cons (pe_compG rfl (fr := [("signs", 3), ("column", 0), ("across", 4)]) (xs := ["then"]) (CompG.of (by rfl) (by decide +kernel) (by rfl) (by decide +kernel) (by intro p hp; simp only [List.mem_cons, List.not_mem_nil, or_false] at hp; rcases hp with rfl | rfl | rfl <;> exact ⟨rfl, rfl⟩) (by decide +kernel) (by intro p hp; simp only [List.mem_cons, List.not_mem_nil, or_false] at hp; rcases hp with rfl | rfl | rfl <;> rfl)) (pi_list (pv 1)) (fun C ex s H => (pg_name (i := 0) (show (["then", "signs", "column", "across"] : List Str).Nodup from by decide +kernel) rfl (Or.inl rfl))) (fun C ex s H => pts_nil) (fun C ex s H => (pe_tup (pa_cons (pe_op op_add (pv 3) (pe_call G_price_along.ok (hr.mono (by decide)) rfl G_price_along.mg G_price_along.kp G_price_along.bn .nil pass0 (pa_cons (pv 2) (pa_cons (pv 1) (pa_cons (pv 0) pa_nil))))) (pa_cons pe_int pa_nil))))) pa_nil))))))
      (pss_one (ps_ret (pv 2)))))), ?_⟩
  refine ⟨_, rfl, t, _, 1, _, rfl, rfl, SqT.of ht, at1, b, _, rfl, .inl (SqL.of hb), _, _, rfl, rfl, ⟨Int.natCast_nonneg _, by rw [List.length_map, hr2]; omega, by decide⟩, 2 ^ r, ?_, by omega, fun q hq => ?_⟩
  · show V.int (1 * 2 ^ (((c.2.map V.int).length : Nat) : Int).toNat) = _
    rw [List.length_map, hr2, Int.toNat_natCast, Int.one_mul]
    push_cast
    rfl
  have s1 := same_new hq (.lst ((List.range (2 ^ r)).map fun (i : Nat) => V.int ((i : Nat) : Int)))
  have hq1 : (upd H q (.lst ((List.range (2 ^ r)).map fun (i : Nat) => V.int ((i : Nat) : Int)))) q = _ := upd_same
  generalize upd H q (.lst ((List.range (2 ^ r)).map fun (i : Nat) => V.int ((i : Nat) : Int))) = H1 at s1 hq1
  have xl : ((List.range (2 ^ r)).map fun (i : Nat) => V.int ((i : Nat) : Int)).length = 2 ^ r := by rw [List.length_map, List.length_range]
  have xat : ∀ {i : Nat} {x : V}, ((List.range (2 ^ r)).map fun (i : Nat) => V.int ((i : Nat) : Int))[i]? = some x → i < 2 ^ r ∧ x = .int (i : Int) := fun {i x} e => by
    have hi : i < 2 ^ r := by rw [← xl]; exact (List.getElem?_eq_some_iff.mp e).1
    rw [List.getElem?_map, List.getElem?_range hi] at e
    cases e
    exact ⟨hi, rfl⟩
  generalize ((List.range (2 ^ r)).map fun (i : Nat) => V.int ((i : Nat) : Int)) = xs at hq1 xl xat
  refine ⟨(by show 0 ≤ sizeLine; decide), fun p hp => ?_⟩
  have s2 := s1.trans (same_new hp (.lst []))
  have npq : q ≠ p := ne_of_none hq1 hp
  refine ⟨_, rfl, q, rfl, ⟨_, SqL.of ((same_new hp (.lst [])) _ _ hq1)⟩, for_list (K := K) (xs := xs) (fun i σ H2 => ∃ v3 v4 us, σ = [some (.ref t), some (.ref q), some (.ref p), v3, v4] ∧ Same H1 H2 ∧ H2 p = some (.lst us) ∧ LsAt (RwX p) H2 us ((List.range i).map fun s => (List.range (2 ^ r)).map fun t => colM c s t)) ⟨_, _, _, rfl, same_new hp _, upd_same, LsAt.nil⟩ (fun i σ H2 _ z => ?_) ?_ ?_⟩
  · obtain ⟨_, _, _, _, s3, _⟩ := z
    exact SqL.of (s3 _ _ hq1)
  · rintro i x σ H2 hx ⟨v3, v4, us, rfl, s3, hp3, hU⟩
    obtain ⟨hi, rfl⟩ := xat hx
    have s13 := s1.trans s3
    have hul : us.length = i := by rw [hU.1, List.length_map, List.length_range]
    refine ⟨_, rfl, _, rfl, .ref t, c, i, rfl, hC.mono s13, by omega, fun H3 s4 => ?_⟩
    have s14 := s13.trans s4
    have hp4 := s4 _ _ hp3
    refine ⟨_, rfl, .inl ⟨rfl, _, SqL.of hp4⟩, _, rfl, q, rfl, ⟨_, SqL.of (s4 _ _ (s3 _ _ hq1))⟩, compG_list (K := K) (xs := xs) (fun j ys H4 => Same H3 H4 ∧ LsAt PrAt H4 ys ((List.range j).map fun t => colM c i t)) (by rw [xl]; exact small8 n8.2) ⟨fun _ _ e => e, LsAt.nil⟩ (fun j ys H4 _ z => SqL.of (z.1 _ _ (s4 _ _ (s3 _ _ hq1)))) ?_ ?_ ?_⟩
    · rintro j x ys H4 hx ⟨s5, hY⟩
      obtain ⟨hj, rfl⟩ := xat hx
      refine ⟨rfl, yesT ?_⟩
      refine ⟨_, rfl, _, rfl, _, rfl, _, rfl, .ref t, c, i, j, rfl, hC.mono (s14.trans s5), by omega, fun H6 s6 => ?_⟩
      refine ⟨_, _, rfl, rfl, (by show 2 ≤ sizeLine; decide), fun t7 ht7 => ?_⟩
      have s7 := s6.trans (same_new ht7 (.tup [.int (aC c i + lC c i j), .int 1]))
      refine ⟨s5.trans s7, ?_⟩
      rw [rng_succ]
      exact (hY.imp fun _ _ y => y.mono s7).snoc ⟨t7, rfl, upd_same⟩
    · rintro ys H4 ⟨s5, hY⟩ D hD
      have s7 := same_new hD (.lst ys)
      have hp7 := s7 _ _ (s5 _ _ hp4)
      have nDp : D ≠ p := (ne_of_none (s5 _ _ hp4) hD).symm
      refine ⟨p, us, _, rfl, rfl, hp7, small1000 (by omega), ?_⟩
      refine ⟨_, _, _, rfl, same_upd (s3.trans (s4.trans (s5.trans s7))) hp _, upd_same, ?_⟩
      · rw [rng_succ]
        rw [xl] at hY
        refine ((hU.imp fun _ _ y => (y.mono (s4.trans (s5.trans s7)))).snoc (x := (List.range (2 ^ r)).map fun t => colM c i t) ⟨D, ys, rfl, nDp, upd_same, hY.imp fun _ _ y => y.mono s7⟩).imp fun _ _ y => y.put hp7
    · rintro j ys H4 ⟨_, hY⟩
      rw [hY.1, List.length_map, List.length_range]
      exact Nat.le_refl _
  · rintro σ H2 ⟨v3, v4, us, rfl, s3, hp3, hU⟩
    rw [xl] at hU
    exact ⟨_, rfl, kk _ _ (s1.trans s3) ⟨p, us, rfl, hp3, hU.imp fun _ _ y => y.off⟩⟩
theorem sc_rows_of : FnScope ["pattern"] ["pattern"] (defScope s_rows_of) := ⟨rfl, rfl, rfl, by decide +kernel, rfl, by decide +kernel, by decide +kernel⟩
theorem ok_rows {f : Addr} {fd : FuncData} (F : Fun K "rows_of" "rows_of" s_rows_of f fd) (T : Txt mg) : FnOk P w K mg base CX0 1 f fd ["pattern"] spRows := by
  refine F.ok sc_rows_of (fun vs H Q E h => ?_) (fun cdv A outer s H vs Q E hr h => ?_)
  · obtain ⟨v, c, pat, rfl, _⟩ := h
    rfl
  obtain ⟨v, c, pat, rfl, ⟨a, ys, rfl, hA, hL⟩, kk⟩ := h
  obtain ⟨y, hy, t, a1, b1, rfl, ht, ha, hb⟩ := hL.2 0 c rfl
  refine ⟨_, (pss_one (ps_ret (pe_callB call_len_seq (by rfl) T.n_len bt_len (pa_cons (pe_ix ix_tup (pe_ix ix_list (pv 0) pe_int (fun _ _ => rfl)) pe_int (fun _ _ => rfl)) pa_nil)))), ?_⟩
  refine ⟨_, rfl, a, _, _, _, rfl, rfl, SqL.of hA, atI_nat (j := 0) hy, t, _, 1, _, rfl, rfl, SqT.of ht, at1, b1, _, rfl, .inl (SqL.of hb), ?_⟩
  rw [List.length_map]
  exact kk
theorem sc_refuse_pattern : FnScope ["pattern", "rows", "across", "along"] ["pattern"] (defScope s_refuse_pattern) := ⟨rfl, rfl, rfl, by decide +kernel, rfl, by decide +kernel, by decide +kernel⟩
theorem ok_ref {f f1 : Addr} {fd fd1 : FuncData} (F : Fun K "refuse_pattern" "refuse_pattern" s_refuse_pattern f fd) (T : Txt mg) (G_rows_of : Cal P w K mg base 1 "rows_of" ["pattern"] spRows f1 fd1) : FnOk P w K mg base CX0 2 f fd ["pattern"] spRef := by
  refine F.ok sc_refuse_pattern (fun vs H Q E h => ?_) (fun cdv A outer s H vs Q E hr h => ?_)
  · obtain ⟨v, r, pat, rfl, _⟩ := h
    rfl
  obtain ⟨v, r, pat, rfl, hP, g, kk⟩ := h
  obtain ⟨a, ys, rfl, hA, hL⟩ := id hP
  have yl := hL.1
  have g0 := g.p0
  have g6 := g.p6
  have g1 := g.r1
  have g3 := g.r3
  refine ⟨_, (pss_cons (ps_if (PW.pt (pw_or (pt_cmpR op_lt (pe_callB call_len_seq (by rfl) T.n_len bt_len (pa_cons (pv 0) pa_nil)) pe_int (nomark _)) (pw_or1 (pt_cmpR op_gt (pe_callB call_len_seq (by rfl) T.n_len bt_len (pa_cons (pv 0) pa_nil)) (pe_globI rfl T.g_most) (nomark _))))) (pss_one ps_never) pss_nil)
      (pss_cons (ps_set (i := 1) sc_refuse_pattern.nd rfl (Or.inl rfl) (pe_call G_rows_of.ok (hr.mono (by decide)) rfl G_rows_of.mg G_rows_of.kp G_rows_of.bn .nil pass0 (pa_cons (pv 0) pa_nil)))
      (pss_cons (ps_if (PW.pt (pw_or (pt_cmpR op_lt (pv 1) pe_int (nomark _)) (pw_or1 (pt_cmpR op_gt (pv 1) (pe_globI rfl T.g_rows) (nomark _))))) (pss_one ps_never) pss_nil)
      (pss_one (ps_for PassesOwn.never rfl (pi_list (pv 0)) (pg_tup rfl (pgs_cons (pg_name (i := 2) sc_refuse_pattern.nd rfl (Or.inl rfl)) (pgs_cons (pg_name (i := 3) sc_refuse_pattern.nd rfl (Or.inl rfl)) pgs_nil))) (pss_cons (ps_if (pt_cmpR op_ne (pe_callB call_len_seq (by rfl) T.n_len bt_len (pa_cons (pv 3) pa_nil)) (pv 1) (nomark _)) (pss_one ps_never) pss_nil)
      (pss_one (ps_if (pt_cmpR op_ne (pe_callB call_len_seq (by rfl) T.n_len bt_len (pa_cons (pv 2) pa_nil)) (pe_op op_sub (pv 1) pe_int) (nomark _)) (pss_one ps_never) pss_nil)))))))), ?_⟩
  refine ⟨_, rfl, a, _, rfl, .inl (SqL.of hA), _, _, rfl, rfl, _, rfl, ite2 (fun z => absurd (of_decide_eq_true z) (show ¬ (ys.length : Int) < 1 by omega)) (fun _ => ?_)⟩
  refine ⟨_, rfl, a, _, rfl, .inl (SqL.of hA), _, _, rfl, rfl, _, rfl, ite2 (fun z => absurd (of_decide_eq_true z) (show ¬ (ys.length : Int) > 6 by omega)) (fun _ => ?_)⟩
  obtain ⟨c, pt, rfl⟩ : ∃ c pt, pat = c :: pt := by
    match pat, g0 with
    | c :: pt, _ => exact ⟨c, pt, rfl⟩
  obtain ⟨e1, e2⟩ := g.al c (List.mem_cons_self ..)
  refine ⟨_, rfl, .ref a, c, pt, rfl, hP, ?_⟩
  rw [e1]
  refine ⟨_, rfl, _, _, rfl, rfl, _, rfl, ite2 (fun z => absurd (of_decide_eq_true z) (show ¬ (r : Int) < 1 by omega)) (fun _ => ?_)⟩
  refine ⟨_, rfl, _, _, rfl, rfl, _, rfl, ite2 (fun z => absurd (of_decide_eq_true z) (show ¬ (r : Int) > 3 by omega)) (fun _ => ?_)⟩
  refine ⟨_, rfl, a, rfl, ⟨_, SqL.of hA⟩, for_list (K := K) (xs := ys) (fun i σ H2 => ∃ v2 v3, σ = [some (.ref a), some (.int (r : Int)), v2, v3] ∧ H2 = H) ⟨_, _, rfl, rfl⟩ (fun i σ H2 _ z => ?_) ?_ ?_⟩
  · obtain ⟨_, _, _, rfl⟩ := z
    exact SqL.of hA
  · rintro i x σ H2 hx ⟨v2, v3, rfl, rfl⟩
    obtain ⟨d, hd, t, a1, b1, rfl, ht, ha, hb⟩ := hL.get hx
    obtain ⟨d1, d2⟩ := g.al d (List.mem_of_getElem? hd)
    refine ⟨t, _, rfl, SqT.of ht, rfl, _, _, rfl, _, _, rfl, rfl, ?_⟩
    refine ⟨_, rfl, b1, _, rfl, .inl (SqL.of hb), _, rfl, rfl, _, rfl, iteNS (congrArg V.int (by rw [List.length_map, d1])) ?_⟩
    refine ⟨_, rfl, a1, _, rfl, .inl (SqL.of ha), _, rfl, _, _, rfl, rfl, rfl, _, rfl, iteNS (congrArg V.int (by rw [List.length_map]; omega)) ?_⟩
    exact ⟨_, _, rfl, rfl⟩
  · rintro σ H2 ⟨v2, v3, rfl, rfl⟩
    exact kk
theorem cut_hi {xs : List V} {c : Nat} (h : c ≤ xs.length) : cutV xs (some (c : Int)) none = xs.drop c := by
  unfold cutV
  rw [HT.sIx_nat, Nat.min_eq_left h]
  show (xs.drop c).take (xs.length - c) = _
  exact List.take_of_length_le (by rw [List.length_drop]; exact Nat.le_refl _)
theorem LsAt.drop {α : Type} {R : Hp → V → α → Prop} {H : Hp} {ys : List V} {xs : List α} (h : LsAt R H ys xs) (n : Nat) : LsAt R H (ys.drop n) (xs.drop n) :=
  ⟨by rw [List.length_drop, List.length_drop, h.1], fun i x e => by
    rw [List.getElem?_drop] at e ⊢
    exact h.2 _ _ e⟩
theorem sqr_tab {n b : Nat} {A : Mt} (h : Cnt n A b) (hb : b < 2 ^ 200) : Sqr n (tabOf n A) := by
  refine ⟨by unfold tabOf; rw [List.length_map, List.length_range], fun r hr => ?_, fun r hr p hp => ?_⟩
  · obtain ⟨s, _, rfl⟩ := List.mem_map.mp hr
    rw [List.length_map, List.length_range]
  · obtain ⟨s, hs, rfl⟩ := List.mem_map.mp hr
    obtain ⟨t, ht, rfl⟩ := List.mem_map.mp hp
    have := h s t (List.mem_range.mp hs) (List.mem_range.mp ht)
    omega
theorem pow_le8 {n k : Nat} (hn : n ≤ 8) (hk : k ≤ 5) : n ^ k * 1 ≤ 32768 := by
  rw [Nat.mul_one]
  have h1 : n ^ k ≤ 8 ^ k := Nat.pow_le_pow_left hn k
  have h2 : 8 ^ k ≤ 8 ^ 5 := Nat.pow_le_pow_right (by decide) hk
  have h3 : 8 ^ 5 = 32768 := by decide
  omega
theorem sc_step_table : FnScope ["pattern", "table", "column"] ["pattern"] (defScope s_step_table) := ⟨rfl, rfl, rfl, by decide +kernel, rfl, by decide +kernel, by decide +kernel⟩
theorem ok_step {f f1 f2 f3 : Addr} {fd fd1 fd2 fd3 : FuncData} (F : Fun K "step_table" "step_table" s_step_table f fd) (T : Txt mg) (G_refuse_pattern : Cal P w K mg base 2 "refuse_pattern" ["pattern"] spRef f1 fd1) (G_column_table : Cal P w K mg base 5 "column_table" ["column"] spCol f2 fd2) (G_tables_joined : Cal P w K mg base 3 "tables_joined" ["one", "two", "modulus"] (spJT K) f3 fd3) : FnOk P w K mg base CX0 6 f fd ["pattern"] spStep := by
  refine F.ok sc_step_table (fun vs H Q E h => ?_) (fun cdv A outer s H vs Q E hr h => ?_)
  · obtain ⟨v, r, pat, rfl, _⟩ := h
    rfl
  obtain ⟨v, r, pat, rfl, hP, g, kk⟩ := h
  obtain ⟨a, ys, rfl, hA, hL⟩ := id hP
  have yl := hL.1
  obtain ⟨n0, n8⟩ := g.n8
  obtain ⟨c, pt, rfl⟩ : ∃ c pt, pat = c :: pt := by
    have g0 := g.p0
    match pat, g0 with
    | c :: pt, _ => exact ⟨c, pt, rfl⟩
  have g6 := g.p6
  rw [List.length_cons] at g6 yl
  have g1 := g.r1
  have g3 := g.r3
  obtain ⟨y, hy, hC⟩ := hL.2 0 c rfl
  obtain ⟨e1, e2⟩ := g.al c (List.mem_cons_self ..)
  refine ⟨_, (pss_cons (ps_expr (pe_call G_refuse_pattern.ok (hr.mono (by decide)) rfl G_refuse_pattern.mg G_refuse_pattern.kp G_refuse_pattern.bn .nil pass0 (pa_cons (pv 0) pa_nil)))
      (pss_cons (ps_set (i := 1) sc_step_table.nd rfl (Or.inl rfl) (pe_call G_column_table.ok (hr.mono (by decide)) rfl G_column_table.mg G_column_table.kp G_column_table.bn .nil pass0 (pa_cons (pe_ix ix_list (pv 0) pe_int (fun _ _ => rfl)) pa_nil)))
      (pss_cons (ps_for PassesOwn.never rfl (pi_list (pe_slice sl_list (pv 0) (po_some pe_int) po_none)) (pg_name (i := 2) sc_step_table.nd rfl (Or.inl rfl)) (pss_one (ps_set (i := 1) sc_step_table.nd rfl (Or.inl rfl) (pe_call G_tables_joined.ok (hr.mono (by decide)) rfl G_tables_joined.mg G_tables_joined.kp G_tables_joined.bn .nil pass0 (pa_cons (pv 1) (pa_cons (pe_call G_column_table.ok (hr.mono (by decide)) rfl G_column_table.mg G_column_table.kp G_column_table.bn .nil pass0 (pa_cons (pv 2) pa_nil)) (pa_cons (pe_op op_pow pe_int pe_int) pa_nil)))))))
      (pss_one (ps_ret (pv 1)))))), ?_⟩
  refine ⟨_, rfl, .ref a, r, c :: pt, rfl, hP, g, ?_⟩
  refine ⟨_, rfl, a, _, _, _, rfl, rfl, SqL.of hA, atI_nat (j := 0) hy, y, c, r, rfl, hC, e1, g1, g3, by omega, fun u1 H1 s1 hu1 => ?_⟩
  refine ⟨_, rfl, _, rfl, a, _, rfl, SqL.of (s1 _ _ hA), fun q hq => ?_⟩
  have ecut : cutV ys (some 1) none = ys.drop 1 := cut_hi (c := 1) (by omega)
  rw [ecut]
  have sq := same_new hq (.lst (ys.drop 1))
  have hD : LsAt ColAt H (ys.drop 1) pt := LsAt.drop hL 1
  have hql : (upd H1 q (.lst (ys.drop 1))) q = _ := upd_same
  have hu2 := hu1.mono sq
  have s2 := s1.trans sq
  generalize upd H1 q (.lst (ys.drop 1)) = H2 at hql hu2 s2
  have zl : (ys.drop 1).length = pt.length := hD.1
  generalize ys.drop 1 = zs at hql hD zl
  refine ⟨q, rfl, ⟨_, SqL.of hql⟩, for_list (K := K) (xs := zs) (fun i σ H3 => ∃ v1 v2, σ = [some (.ref a), some v1, v2] ∧ Same H2 H3 ∧ TbAt H3 v1 (tabOf (2 ^ r) (stepF (2 ^ r) (colM c) (pt.take i)))) ⟨_, _, rfl, fun _ _ e => e, hu2⟩ (fun i σ H3 _ z => ?_) ?_ ?_⟩
  · obtain ⟨_, _, _, s3, _⟩ := z
    exact SqL.of (s3 _ _ hql)
  · rintro i x σ H3 hx ⟨v1, v2, rfl, s3, hT⟩
    obtain ⟨d, hd, hX⟩ := hD.get hx
    obtain ⟨d1, d2⟩ := g.al d (List.mem_cons_of_mem _ (List.mem_of_getElem? hd))
    have hil : i < pt.length := (List.getElem?_eq_some_iff.mp hd).1
    have s23 := s2.trans s3
    have cA := stepF_cnt (n := 2 ^ r) (colM c) (colM_cnt _ c) (pt.take i)
    have bA := pow_le8 n8 (k := (pt.take i).length) (by rw [List.length_take]; omega)
    have cB := jx_cnt (c := d) cA
    refine ⟨_, rfl, _, rfl, x, d, r, rfl, hX.mono s23, d1, g1, g3, by omega, fun u4 H4 s4 hu4 => ?_⟩
    refine ⟨_, _, rfl, rfl, ⟨by decide, by decide, by decide⟩, ?_⟩
    refine ⟨v1, u4, 10 ^ 9, _, _, 2 ^ r, rfl, hT.mono s4, hu4, by decide, n0, n8, sqr_tab cA (by omega), sqr_tab (colM_cnt _ d) (by decide), fun u5 H5 s5 hu5 => ?_⟩
    refine ⟨_, _, rfl, s3.trans (s4.trans s5), ?_⟩
    rw [List.take_add_one, hd]
    show TbAt H5 u5 (tabOf (2 ^ r) (stepF (2 ^ r) (colM c) (pt.take i ++ [d])))
    rw [stepF_snoc]
    rw [jTab_tab] at hu5
    rw [tab_congr (B := jx (2 ^ r) (stepF (2 ^ r) (colM c) (pt.take i)) (colM d)) fun s t hs ht => ?_] at hu5
    · exact hu5
    · obtain ⟨b1, b2⟩ := cB s t hs ht
      rw [jn_jx]
      refine Prod.ext rfl (Int.emod_eq_of_lt b1 ?_)
      have h9 : (10 : Int) ^ 9 = 1000000000 := by decide
      have : 2 ^ r * ((2 ^ r) ^ (pt.take i).length * 1) ≤ 8 * 32768 := Nat.mul_le_mul n8 bA
      omega
  · rintro σ H3 ⟨v1, v2, rfl, s3, hT⟩
    rw [zl, List.take_length] at hT
    exact ⟨_, rfl, kk _ _ (s2.trans s3) hT⟩
end
end KS


namespace KS
open PySem L2
local macro_rules | `(tactic| walk_at "cc") => `(tactic| first | exact ⟨by decide, by decide⟩ | (show (0 : Int) < _; decide) | (show (0 : Int) < _; omega) | (show (0 : Int) ≤ _; omega) | exact ⟨by decide, by decide, by decide⟩ | exact ⟨by omega, by omega, by decide⟩ | exact Or.inl ⟨by decide, by decide⟩ | exact Or.inl ⟨by omega, by omega⟩)
local macro_rules | `(tactic| walk_at "rd") => `(tactic| repeat (first | refine ⟨_, rfl, ?_⟩ | refine ⟨_, _, rfl, rfl, ?_⟩ | refine ⟨rfl, ?_⟩ | (refine ⟨?cc, ?_⟩; (case cc => walk_at "cc"))))

/-! the law's helpers -/
def lpaid (x : Int) (p q : Nat) : Int := if x > 0 ∧ p ≠ q then x else if x < 0 ∧ p = q then 0 - x else 0
theorem xor_dg (s t i : Nat) : (s ^^^ t) / 2 ^ i % 2 = (s / 2 ^ i % 2 + t / 2 ^ i % 2) % 2 := by
  have e : (s ^^^ t) / 2 ^ i = s / 2 ^ i ^^^ t / 2 ^ i := by
    rw [← Nat.shiftRight_eq_div_pow, ← Nat.shiftRight_eq_div_pow, ← Nat.shiftRight_eq_div_pow, Nat.shiftRight_xor_distrib]
  rw [e]
  have h := @Nat.xor_mod_two_eq_one (s / 2 ^ i) (t / 2 ^ i)
  by_cases x : s / 2 ^ i % 2 = 1 <;> by_cases y : t / 2 ^ i % 2 = 1
  · have q1 := mt h.mp (fun q => q ⟨fun _ => y, fun _ => x⟩)
    omega
  · have q1 := h.mpr (fun q => y (q.mp x))
    omega
  · have q1 := h.mpr (fun q => x (q.mpr y))
    omega
  · have q1 := mt h.mp (fun q => q ⟨fun z => absurd z x, fun z => absurd z y⟩)
    omega
theorem lpaid_eq (x : Int) (s t i : Nat) : lpaid x (s / 2 ^ i % 2) (t / 2 ^ i % 2) = priceB x ((s ^^^ t) / 2 ^ i) := by
  have h := xor_dg s t i
  unfold lpaid priceB paidU paidA
  have a := Nat.mod_lt (s / 2 ^ i) (show 0 < 2 by decide)
  have b := Nat.mod_lt (t / 2 ^ i) (show 0 < 2 by decide)
  by_cases z : s / 2 ^ i % 2 = t / 2 ^ i % 2
  · have e : ¬ (s ^^^ t) / 2 ^ i % 2 = 1 := by omega
    rw [if_neg e, if_neg (fun w => w.2 z)]
    by_cases w : x < 0
    · rw [if_pos ⟨w, z⟩, if_pos (by omega)]; omega
    · rw [if_neg (fun y => w y.1), if_neg (by omega)]
  · have e : (s ^^^ t) / 2 ^ i % 2 = 1 := by omega
    rw [if_pos e]
    by_cases w : x > 0
    · rw [if_pos ⟨w, z⟩, if_pos w]
    · rw [if_neg (fun y => w y.1), if_neg w, if_neg (fun y => z y.2)]
theorem rsz {lo m c : Int} {j : Nat} (hc : 0 < c) (h : j < (Builtin.Range.rangeSize lo m c).toNat) : lo + (j : Int) * c < m := by
  unfold Builtin.Range.rangeSize at h
  rw [if_pos hc] at h
  split at h
  · have h2 : (j : Int) ≤ (m - lo - 1) / c := by omega
    have h3 := Int.mul_le_of_le_ediv hc h2
    omega
  · exact absurd h (Nat.not_lt_zero _)
theorem rsz2 {r p : Nat} (h1 : 1 ≤ r) (h3 : r ≤ 3) : Builtin.Range.rangeSize 0 ((p * (2 * r - 1) : Nat) : Int) (2 * (r : Int) - 1) = (p : Int) := by
  unfold Builtin.Range.rangeSize
  have : r = 1 ∨ r = 2 ∨ r = 3 := by omega
  rcases this with rfl | rfl | rfl
  · rw [if_pos (by decide)]
    split <;> omega
  · rw [if_pos (by decide)]
    split <;> omega
  · rw [if_pos (by decide)]
    split <;> omega
theorem cut_mid {xs : List V} {x y : Nat} (h : x ≤ y) (h2 : y ≤ xs.length) : cutV xs (some (x : Int)) (some (y : Int)) = (xs.drop x).take (y - x) := by
  unfold cutV
  rw [HT.sIx_nat, HT.sIx_nat, Nat.min_eq_left h2, Nat.min_eq_left (Nat.le_trans h h2)]
def ColX (q : Addr) (H : Hp) (v : V) (c : Col) : Prop := ∃ t a b, v = .ref t ∧ a ≠ q ∧ b ≠ q ∧ H t = some (.tup [.ref a, .ref b]) ∧ H a = some (.lst (c.1.map V.int)) ∧ H b = some (.lst (c.2.map V.int))
theorem ColX.off {q : Addr} {H : Hp} {v : V} {c : Col} (h : ColX q H v c) : ColAt H v c := by
  obtain ⟨t, a, b, e, _, _, h1, h2, h3⟩ := h
  exact ⟨t, a, b, e, h1, h2, h3⟩
theorem ColX.mono {q : Addr} {H H' : Hp} {v : V} {c : Col} (h : ColX q H v c) (s : Same H H') : ColX q H' v c := by
  obtain ⟨t, a, b, e, n1, n2, h1, h2, h3⟩ := h
  exact ⟨t, a, b, e, n1, n2, s _ _ h1, s _ _ h2, s _ _ h3⟩
theorem ColX.put {q : Addr} {H : Hp} {v : V} {c : Col} {us zs : List V} (h : ColX q H v c) (hq : H q = some (.lst us)) : ColX q (upd H q (.lst zs)) v c := by
  obtain ⟨t, a, b, e, n1, n2, h1, h2, h3⟩ := h
  exact ⟨t, a, b, e, n1, n2, by rw [upd_ne (fun y => by rw [y, hq] at h1; cases h1)]; exact h1, by rw [upd_ne n1]; exact h2, by rw [upd_ne n2]; exact h3⟩
def spStr : Sp := fun vs H Q _ => ∃ (c m : Int), vs = [.int c, .int m] ∧ 0 ≤ m ∧ m ≤ 2 ∧ ∀ z : Int, Q (.int z) H
def spPat (K : PySem.W.Frag) : Sp := fun vs H Q _ => ∃ (a : Addr) (ns : List Int) (r p : Nat) (m : Int), vs = [.ref a, .int (r : Int), .int (p : Int), .int m] ∧ SqL K H a (ns.map V.int) ∧ ns.length ≤ 63 ∧ 1 ≤ r ∧ r ≤ 3 ∧ 1 ≤ p ∧ p ≤ 6 ∧ 0 ≤ m ∧ m ≤ 2 ∧ ∀ u H' pat, Same H H' → PatAt H' u pat → pat.length = p → Good r pat → Q u H'
def spCopy : Sp := fun vs H Q _ => ∃ (v : V) (pat : List Col), vs = [v] ∧ PatAt H v pat ∧ pat.length ≤ 900 ∧ ∀ u H', Same H H' → PatAt H' u pat → Q u H'
def spPaid : Sp := fun vs H Q _ => ∃ (x : Int) (p q : Nat), vs = [.int x, .int (p : Int), .int (q : Int)] ∧ Q (.int (lpaid x p q)) H
def spSign : Sp := fun vs H Q _ => ∃ (s i : Nat), vs = [.int (s : Int), .int (i : Int)] ∧ Q (.int ((s / 2 ^ i % 2 : Nat) : Int)) H
def spLac : Sp := fun vs H Q _ => ∃ (v : V) (c : Col) (s : Nat), vs = [v, .int (s : Int)] ∧ ColAt H v c ∧ c.1.length ≤ 900 ∧ Q (.int (aC c s)) H
def spLal : Sp := fun vs H Q _ => ∃ (v : V) (c : Col) (s t : Nat), vs = [v, .int (s : Int), .int (t : Int)] ∧ ColAt H v c ∧ c.2.length ≤ 900 ∧ Q (.int (lC c s t)) H
def restPd (x : Int) (p q : Nat) (H0 : Hp) : TS := fun D σ H => σ = [some (.int x), some (.int (p : Int)), some (.int (q : Int))] ∧ H = H0 ∧ ¬ (x > 0 ∧ p ≠ q) ∧ D.rt (.int (lpaid x p q)) H0
section
variable {P : Program} {w : World} {K : PySem.W.Frag} {mg : Str → Option Value} {base : Heap}
theorem sc_law_strength : FnScope ["cell", "mode"] ["cell", "mode"] (defScope s_law_strength) := ⟨rfl, rfl, rfl, by decide +kernel, rfl, by decide +kernel, by decide +kernel⟩
theorem ok_str {f : Addr} {fd : FuncData} (F : Fun K "_law_strength" "_law_strength" s_law_strength f fd) : FnOk P w K mg base CX0 1 f fd ["cell", "mode"] spStr := by
  refine F.ok sc_law_strength (fun vs H Q E h => ?_) (fun cdv A outer s H vs Q E hr h => ?_)
  · obtain ⟨c, m, rfl, _⟩ := h
    rfl
  obtain ⟨c, m, rfl, h0, h2, kk⟩ := h
  refine ⟨_, (pss_cons (ps_if (pt_cmpR op_eq (pv 1) pe_int (nomark _)) (pss_one (ps_ret (pe_op op_sub (pe_op op_mod (pv 0) (pe_op op_add (pe_op op_mul pe_int (pe_op op_pow pe_int pe_int)) pe_int)) (pe_op op_pow pe_int pe_int)))) pss_nil)
      (pss_one (ps_ret (pe_op op_sub (pe_op op_mod (pv 0) (pe_op op_add (pe_op op_mul pe_int (pv 1)) pe_int)) (pv 1))))), ?_⟩
  refine ⟨_, rfl, rfl, _, rfl, ?_⟩
  refine ite2 (fun z => ?_) (fun z => ?_)
  · refine ⟨_, rfl, _, _, rfl, rfl, ⟨by decide, by decide, by decide⟩, _, _, rfl, rfl, .inl ⟨by decide, by decide⟩, _, _, rfl, rfl, _, _, rfl, rfl, (by show (0 : Int) < 2 * 10 ^ (30 : Int).toNat + 1; decide), _, _, rfl, rfl, ⟨by decide, by decide, by decide⟩, _, _, rfl, rfl, kk _⟩
  · refine ⟨_, rfl, _, rfl, _, _, rfl, rfl, .inl ⟨by decide, by decide⟩, _, _, rfl, rfl, _, _, rfl, rfl, (by show (0 : Int) < 2 * m + 1; omega), _, rfl, _, _, rfl, rfl, kk _⟩
theorem sc_law_copy : FnScope ["pattern"] ["pattern"] (defScope s_law_copy) := ⟨rfl, rfl, rfl, by decide +kernel, rfl, by decide +kernel, by decide +kernel⟩
theorem ok_copy {f : Addr} {fd : FuncData} (F : Fun K "_law_copy" "_law_copy" s_law_copy f fd) (T : Txt mg) : FnOk P w K mg base CX0 1 f fd ["pattern"] spCopy := by
  refine F.ok sc_law_copy (fun vs H Q E h => ?_) (fun cdv A outer s H vs Q E hr h => ?_)
  · obtain ⟨v, pat, rfl, _⟩ := h
    rfl
  obtain ⟨v, pat, rfl, ⟨a, ys, rfl, hA, hL⟩, hl, kk⟩ := h
  have yl := hL.1
  refine ⟨_, (pss_one (ps_ret (pe_comp rfl (fr := []) (by exact CompOk.plain (by rfl) (by decide +kernel) (by rfl) (by decide +kernel) (by rfl) (by decide +kernel)) (pi_list (pv 0)) (fun C ex s H => (pe_tup (pa_cons (pe_callTy (callK_list (K := K) rfl) (by rfl) T.n_list bt_list (pa_cons (pe_ix (ixK_tup (K := K) rfl) (pv 0) pe_int (fun _ _ => rfl)) pa_nil)) (pa_cons (pe_callTy (callK_list (K := K) rfl) (by rfl) T.n_list bt_list (pa_cons (pe_ix (ixK_tup (K := K) rfl) (pv 0) pe_int (fun _ _ => rfl)) pa_nil)) pa_nil))))))), ?_⟩
  refine ⟨_, rfl, a, rfl, ⟨_, SqL.of hA⟩, comp_list (K := K) (xs := ys) (fun i zs H2 => Same H H2 ∧ LsAt ColAt H2 zs (pat.take i)) (Nat.le_of_lt (small1000 (by omega))) ⟨fun _ _ e => e, LsAt.nil⟩ (fun i zs H2 _ z => SqL.of (z.1 _ _ hA)) ?_ ?_⟩
  · rintro i x zs H2 hx ⟨s2, hZ⟩
    obtain ⟨c, hc, t, a1, b1, rfl, ht, ha, hb⟩ := hL.get hx
    refine ⟨_, rfl, t, _, 0, _, rfl, rfl, SqT.of (s2 _ _ ht), at0, a1, _, rfl, .inl (SqL.of (s2 _ _ ha)), fun p hp => ?_⟩
    have s3 := same_new hp (.lst (c.1.map V.int))
    have s23 := s2.trans s3
    refine ⟨_, rfl, t, _, 1, _, rfl, rfl, SqT.of (s23 _ _ ht), at1, b1, _, rfl, .inl (SqL.of (s23 _ _ hb)), fun q hq => ?_⟩
    have s4 := same_new hq (.lst (c.2.map V.int))
    refine ⟨(by show 2 ≤ sizeLine; decide), fun t5 ht5 => ?_⟩
    have s5 := same_new ht5 (.tup [.ref p, .ref q])
    have s35 := s3.trans (s4.trans s5)
    refine ⟨s2.trans s35, ?_⟩
    rw [List.take_add_one, hc]
    exact (hZ.imp fun _ _ y => y.mono s35).snoc ⟨t5, p, q, rfl, upd_same, s5 _ _ (s4 _ _ upd_same), s5 _ _ upd_same⟩
  rintro zs H2 _ ⟨s2, hZ⟩ D hD
  rw [yl, List.take_length] at hZ
  have sD := same_new hD (.lst zs)
  exact kk _ _ (s2.trans sD) ⟨D, zs, rfl, upd_same, hZ.imp fun _ _ y => y.mono sD⟩
theorem sc_law_pattern : FnScope ["script", "rows", "period", "mode", "count", "told", "k", "cell", "pattern"] ["script", "rows", "period", "mode"] (defScope s_law_pattern) := ⟨rfl, rfl, rfl, by decide +kernel, rfl, by decide +kernel, by decide +kernel⟩
theorem ok_pat {f f1 : Addr} {fd fd1 : FuncData} (F : Fun K "_law_pattern" "_law_pattern" s_law_pattern f fd) (T : Txt mg) (G_law_strength : Cal P w K mg base 1 "_law_strength" ["cell", "mode"] spStr f1 fd1) : FnOk P w K mg base CX0 2 f fd ["script", "rows", "period", "mode"] (spPat K) := by
  refine F.ok sc_law_pattern (fun vs H Q E h => ?_) (fun cdv A outer s H vs Q E hr h => ?_)
  · obtain ⟨a, ns, r, p, m, rfl, _⟩ := h
    rfl
  obtain ⟨a, ns, r, p, m, rfl, hS, h63, r1, r3, p1, p6, m0, m2, kk⟩ := h
  have nl : (ns.map V.int).length = ns.length := List.length_map ..
  refine ⟨_, (pss_cons (ps_set (i := 4) sc_law_pattern.nd rfl (Or.inl rfl) (pe_op op_mul (pv 2) (pe_op op_sub (pe_op op_mul pe_int (pv 1)) pe_int)))
      (pss_cons (ps_set (i := 5) sc_law_pattern.nd rfl (Or.inl rfl) (pe_lst pa_nil))
      (pss_cons (ps_for PassesOwn.never rfl (pi_range1 rfl T.n_range (pa_cons (pv 4) pa_nil)) (pg_name (i := 6) sc_law_pattern.nd rfl (Or.inl rfl)) (pss_cons (ps_set (i := 7) sc_law_pattern.nd rfl (Or.inl rfl) (pe_callB (call_sum rfl) (by rfl) T.n_sum bt_sum (pa_cons (pe_comp rfl (fr := [("script", 0)]) (by exact CompOk.one (by rfl) (by decide +kernel) (by rfl) (by decide +kernel) (by rfl) (by decide +kernel) (by rfl) (by rfl) (by decide +kernel) (by rfl)) (pi_rangeL rfl T.n_range (pa_cons (pe_op op_add pe_int (pv 6)) (pa_cons (pe_callB call_len_seq (by rfl) T.n_len bt_len (pa_cons (pv 0) pa_nil)) (pa_cons (pv 4) pa_nil)))) (fun C ex s H => (pe_ix (ixK_list (K := K) rfl) (pv 1) (pv 0) (fun _ _ => rfl)))) pa_nil)))
      (pss_one (ps_expr (pe_bm PySem.F.plainAttrs_list PySem.F.slot_list_append PySem.F.type_list_append mt_append (pv 5) (pa_cons (pe_call G_law_strength.ok (hr.mono (by decide)) rfl G_law_strength.mg G_law_strength.kp G_law_strength.bn .nil pass0 (pa_cons (pv 7) (pa_cons (pv 3) pa_nil))) pa_nil))))))
      (pss_cons (ps_set (i := 8) sc_law_pattern.nd rfl (Or.inl rfl) (pe_lst pa_nil))
      (pss_cons (ps_for PassesOwn.never rfl (pi_rangeL rfl T.n_range (pa_cons pe_int (pa_cons (pv 4) (pa_cons (pe_op op_sub (pe_op op_mul pe_int (pv 1)) pe_int) pa_nil)))) (pg_name (i := 6) sc_law_pattern.nd rfl (Or.inl rfl)) (pss_one (ps_expr (pe_bm PySem.F.plainAttrs_list PySem.F.slot_list_append PySem.F.type_list_append mt_append (pv 8) (pa_cons (pe_tup (pa_cons (pe_slice sl_list (pv 5) (po_some (pv 6)) (po_some (pe_op op_sub (pe_op op_add (pv 6) (pv 1)) pe_int))) (pa_cons (pe_slice sl_list (pv 5) (po_some (pe_op op_sub (pe_op op_add (pv 6) (pv 1)) pe_int)) (po_some (pe_op op_sub (pe_op op_add (pv 6) (pe_op op_mul pe_int (pv 1))) pe_int))) pa_nil))) pa_nil)))))
      (pss_one (ps_ret (pv 8)))))))), ?_⟩
  have cnt : (p : Int) * (2 * (r : Int) - 1) = ((p * (2 * r - 1) : Nat) : Int) := by
    have : ((2 * r - 1 : Nat) : Int) = 2 * (r : Int) - 1 := by omega
    push_cast [← this]
    rw [this]
  have cb : p * (2 * r - 1) ≤ 6 * 5 := Nat.mul_le_mul p6 (by omega)
  have cp : 1 * 1 ≤ p * (2 * r - 1) := Nat.mul_le_mul p1 (by omega)
  refine ⟨_, rfl, _, rfl, _, _, rfl, rfl, .inl ⟨by decide, by decide⟩, _, _, rfl, rfl, _, _, rfl, rfl, .inl ⟨by show -(2 ^ 64 : Int) < (p : Int); omega, by show (p : Int) < (2 ^ 64 : Int); omega⟩, ?_⟩
  simp only [cnt]
  have eC : p * (2 * r - 1) = p * (2 * r - 1) := rfl
  generalize hC : p * (2 * r - 1) = C at cb cp cnt
  refine ⟨(by show 0 ≤ sizeLine; decide), fun q hq => ?_⟩
  have s1 := same_new hq (.lst [])
  refine ⟨_, rfl, _, rfl, by omega, by omega, for_range (n := C) (fun i σ H2 => ∃ v6 v7 zs, σ = [some (.ref a), some (.int (r : Int)), some (.int (p : Int)), some (.int m), some (.int (C : Int)), some (.ref q), v6, v7, none] ∧ Same H H2 ∧ H2 q = some (.lst ((zs : List Int).map V.int)) ∧ zs.length = i) ⟨_, _, [], rfl, s1, upd_same, rfl⟩ ?_ ?_⟩
  · rintro i σ H2 hi ⟨v6, v7, zs, rfl, s2, hq2, zl⟩
    have e0 : (0 : Int) + (i : Int) = (i : Int) := Int.zero_add _
    rw [e0]
    have hS2 := s2.seq hS
    refine ⟨_, rfl, _, _, rfl, rfl, _, rfl, a, _, rfl, .inl hS2, _, rfl, 1 + (i : Int), ((ns.map V.int).length : Int), (C : Int), (Builtin.Range.rangeSize (1 + (i : Int)) ((ns.map V.int).length : Int) (C : Int)).toNat, rfl, by omega, by omega, by omega, by omega, ⟨by omega, by omega⟩, PyProof.Rows.rangeSize_toNat _ _ _, ?_⟩
    have bnd : ∀ j : Nat, j < (Builtin.Range.rangeSize (1 + (i : Int)) ((ns.map V.int).length : Int) (C : Int)).toNat → 1 + i + j * C < ns.length := fun j hj => by
      rw [nl] at hj
      have z := rsz (lo := 1 + (i : Int)) (m := (ns.length : Int)) (c := (C : Int)) (j := j) (by omega) hj
      have : ((j * C : Nat) : Int) = (j : Int) * (C : Int) := by push_cast; rfl
      omega
    have bn2 : (Builtin.Range.rangeSize (1 + (i : Int)) ((ns.map V.int).length : Int) (C : Int)).toNat ≤ 63 := by
      by_cases z : (Builtin.Range.rangeSize (1 + (i : Int)) ((ns.map V.int).length : Int) (C : Int)).toNat ≤ 63
      · exact z
      · have b1 := bnd 63 (by omega)
        have b2 : 63 * 1 ≤ 63 * C := Nat.mul_le_mul (Nat.le_refl _) (by omega)
        omega
    refine comp_range3 (fun j ys H3 => H3 = H2 ∧ ∃ ws : List Int, ys = ws.map V.int) (Nat.le_of_lt (small1000 (by omega))) ⟨rfl, [], rfl⟩ ?_ ?_
    · rintro j ys H3 hj ⟨rfl, ws, rfl⟩
      have b := bnd j hj
      have ej : (1 + (i : Int)) + (j : Int) * (C : Int) = ((1 + i + j * C : Nat) : Int) := by push_cast; rfl
      rw [ej]
      refine ⟨_, rfl, _, rfl, a, _, _, _, rfl, rfl, hS2, atI_nat (v := V.int (ns[1 + i + j * C])) (by rw [List.getElem?_map, List.getElem?_eq_getElem b]; rfl), rfl, ws ++ [ns[1 + i + j * C]], ?_⟩
      rw [List.map_append]
      rfl
    rintro ys H3 _ ⟨rfl, ws, rfl⟩ D hD
    have sD := same_new hD (.lst (ws.map V.int))
    have hqD := sD _ _ hq2
    refine ⟨D, ws, rfl, SqL.of upd_same, ?_⟩
    refine ⟨_, rfl, .inl ⟨rfl, _, SqL.of hqD⟩, _, rfl, _, rfl, _, m, rfl, m0, m2, fun z => ?_⟩
    refine ⟨q, _, _, rfl, rfl, hqD, small1000 (by rw [List.length_map]; omega), ?_⟩
    refine ⟨_, _, zs ++ [z], rfl, same_upd (s2.trans sD) hq _, ?_, by rw [List.length_append, zl]; rfl⟩
    rw [List.map_append]
    exact upd_same
  rintro σ H2 ⟨v6, v7, zs, rfl, s2, hq2, zl⟩
  refine ⟨(by show 0 ≤ sizeLine; decide), fun b hb => ?_⟩
  have sb := same_new hb (.lst [])
  have nqb : q ≠ b := ne_of_none hq2 hb
  have est : 2 * (r : Int) - 1 = ((2 * r - 1 : Nat) : Int) := by omega
  refine ⟨_, rfl, _, rfl, _, _, rfl, rfl, .inl ⟨by decide, by decide⟩, _, _, rfl, rfl, 0, (C : Int), 2 * (r : Int) - 1, p, rfl, by omega, by omega, by omega, by omega, ⟨by omega, by omega⟩, ?_, for_range3 (lo := 0) (c := 2 * (r : Int) - 1) (n := p) (fun i σ H4 => ∃ v6 us pat, σ = [some (.ref a), some (.int (r : Int)), some (.int (p : Int)), some (.int m), some (.int (C : Int)), some (.ref q), v6, v7, some (.ref b)] ∧ Same H2 H4 ∧ H4 b = some (.lst us) ∧ LsAt (ColX b) H4 us pat ∧ pat.length = i ∧ ∀ c ∈ pat, c.2.length = r ∧ c.1.length + 1 = r) ⟨_, [], [], rfl, sb, upd_same, LsAt.nil, rfl, fun c h => by cases h⟩ ?_ ?_⟩
  · rw [← hC]
    exact rsz2 r1 r3
  · rintro i σ H4 hi ⟨v6, us, pat, rfl, s4, hb4, hU, hpl, hal⟩
    have ei : (0 : Int) + (i : Int) * (2 * (r : Int) - 1) = ((i * (2 * r - 1) : Nat) : Int) := by rw [est]; push_cast; omega
    rw [ei]
    have bi : i * (2 * r - 1) + (2 * r - 1) ≤ C := by
      have := Nat.mul_le_mul (show i + 1 ≤ p by omega) (Nat.le_refl (2 * r - 1))
      rw [Nat.add_mul, Nat.one_mul] at this
      omega
    generalize i * (2 * r - 1) = x at bi
    have hq4 := s4 _ _ hq2
    have ml : (zs.map V.int).length = C := by rw [List.length_map, zl]
    refine ⟨_, rfl, .inl ⟨rfl, _, SqL.of hb4⟩, _, rfl, _, rfl, _, rfl, _, rfl, _, rfl, _, _, rfl, rfl, _, _, rfl, rfl, _, rfl, q, _, rfl, SqL.of hq4, fun p1 hp1 => ?_⟩
    have ex1 : (x : Int) + (r : Int) - 1 = ((x + (r - 1) : Nat) : Int) := by omega
    simp only [ex1]
    rw [cut_mid (by omega) (by omega), show x + (r - 1) - x = r - 1 by omega, ← List.map_drop, ← List.map_take]
    have sp1 := same_new hp1 (.lst (((zs.drop x).take (r - 1)).map V.int))
    refine ⟨_, rfl, _, rfl, _, rfl, _, _, rfl, rfl, _, _, rfl, rfl, _, rfl, _, rfl, _, rfl, _, _, rfl, rfl, .inl ⟨by decide, by decide⟩, _, _, rfl, rfl, _, _, rfl, rfl, _, rfl, q, _, rfl, SqL.of (sp1 _ _ hq4), fun p2 hp2 => ?_⟩
    have ex2 : (x : Int) + 2 * (r : Int) - 1 = ((x + (r - 1) + r : Nat) : Int) := by omega
    simp only [ex1, ex2]
    rw [cut_mid (by omega) (by omega), show x + (r - 1) + r - (x + (r - 1)) = r by omega, ← List.map_drop, ← List.map_take]
    have sp2 := same_new hp2 (.lst (((zs.drop (x + (r - 1))).take r).map V.int))
    refine ⟨(by show 2 ≤ sizeLine; decide), fun t5 ht5 => ?_⟩
    have sp3 := same_new ht5 (.tup [.ref p1, .ref p2])
    have s45 := sp1.trans (sp2.trans sp3)
    have n1 : p1 ≠ b := (ne_of_none hb4 hp1).symm
    have n2 : p2 ≠ b := (ne_of_none (sp1 _ _ hb4) hp2).symm
    refine ⟨b, us, _, rfl, rfl, s45 _ _ hb4, small1000 (by rw [hU.1]; omega), ?_⟩
    refine ⟨_, _, pat ++ [((zs.drop x).take (r - 1), (zs.drop (x + (r - 1))).take r)], rfl, same_upd (s4.trans s45) hb _, upd_same, ?_, by rw [List.length_append, hpl]; rfl, fun c hc => ?_⟩
    · exact ((hU.imp fun _ _ y => y.mono s45).snoc (x := ((zs.drop x).take (r - 1), (zs.drop (x + (r - 1))).take r)) ⟨t5, p1, p2, rfl, n1, n2, upd_same, sp3 _ _ (sp2 _ _ upd_same), sp3 _ _ upd_same⟩).imp fun _ _ y => y.put (s45 _ _ hb4)
    · rcases List.mem_append.mp hc with h | h
      · exact hal c h
      · rw [List.mem_singleton.mp h]
        constructor
        · show ((zs.drop (x + (r - 1))).take r).length = r
          rw [List.length_take, List.length_drop]; omega
        · show ((zs.drop x).take (r - 1)).length + 1 = r
          rw [List.length_take, List.length_drop]; omega
  · rintro σ H4 ⟨v6, us, pat, rfl, s4, hb4, hU, hpl, hal⟩
    exact ⟨_, rfl, kk _ _ pat (s2.trans s4) ⟨b, us, rfl, hb4, hU.imp fun _ _ y => y.off⟩ hpl ⟨by omega, by omega, r1, r3, hal⟩⟩
theorem sc_law_paid : FnScope ["strength", "one", "two"] ["strength", "one", "two"] (defScope s_law_paid) := ⟨rfl, rfl, rfl, by decide +kernel, rfl, by decide +kernel, by decide +kernel⟩
theorem ok_paid {f : Addr} {fd : FuncData} (F : Fun K "_law_paid" "_law_paid" s_law_paid f fd) : FnOk P w K mg base CX0 1 f fd ["strength", "one", "two"] spPaid := by
  refine F.ok sc_law_paid (fun vs H Q E h => ?_) (fun cdv A outer s H vs Q E hr h => ?_)
  · obtain ⟨x, p, q, rfl, _⟩ := h
    rfl
  obtain ⟨x, p, q, rfl, kk⟩ := h
  refine ⟨_, (pss_cons (ps_if (PW.pt (pw_and (pt_cmpR op_gt (pv 0) pe_int (nomark _)) (pw_and1 (pt_cmpR op_ne (pv 1) (pv 2) (nomark _))))) (pss_one (ps_ret (pv 0))) pss_nil)
      (pss_imp (t2 := restPd x p q H) (pss_cons (ps_if (PW.pt (pw_and (pt_cmpR op_lt (pv 0) pe_int (nomark _)) (pw_and1 (pt_cmpR op_eq (pv 1) (pv 2) (nomark _))))) (pss_one (ps_ret (pe_op op_sub pe_int (pv 0)))) pss_nil)
      (pss_one (ps_ret pe_int))) (fun D0 S0 H0 h0 => ?rest1))), ?_⟩
  case rest1 =>
    obtain ⟨rfl, rfl, n1, kr⟩ := h0
    unfold lpaid at kr
    rw [if_neg n1] at kr
    refine ⟨_, rfl, _, _, rfl, rfl, _, rfl, ?_⟩
    refine ite2 (fun z => ?_) (fun z => ?_)
    · have z' : x < 0 := of_decide_eq_true z
      refine ⟨_, rfl, _, rfl, rfl, _, rfl, ?_⟩
      refine ite2 (fun y => ?_) (fun y => ?_)
      · have y' : p = q := by have := V.int.inj (of_decide_eq_true y); omega
        rw [if_pos ⟨z', y'⟩] at kr
        exact ⟨_, rfl, _, _, rfl, rfl, kr⟩
      · have y' : ¬ p = q := fun e => y (decide_eq_true (congrArg V.int (by omega)))
        rw [if_neg (fun e => y' e.2)] at kr
        exact kr
    · have z' : ¬ x < 0 := fun e => z (decide_eq_true e)
      rw [if_neg (fun e => z' e.1)] at kr
      exact iteF kr
  refine ⟨_, rfl, _, _, rfl, rfl, _, rfl, ?_⟩
  refine ite2 (fun z => ?_) (fun z => ?_)
  · have z' : x > 0 := of_decide_eq_true z
    refine ⟨_, rfl, _, rfl, rfl, _, rfl, ?_⟩
    by_cases y : p = q
    · refine iteNS (congrArg V.int (by omega)) ?_
      exact ⟨rfl, rfl, fun e => e.2 y, kk⟩
    · refine ite2 (fun _ => ?_) (fun e => ?_)
      · unfold lpaid at kk
        rw [if_pos ⟨z', y⟩] at kk
        exact ⟨_, rfl, kk⟩
      · exfalso
        refine e ?_
        have : ¬ V.int (p : Int) = V.int (q : Int) := fun w => y (by have := V.int.inj w; omega)
        rw [decide_eq_false this]
        rfl
  · have z' : ¬ x > 0 := fun e => z (decide_eq_true e)
    exact iteF ⟨rfl, rfl, fun e => z' e.1, kk⟩
theorem sc_law_sign : FnScope ["signs", "row"] ["signs", "row"] (defScope s_law_sign) := ⟨rfl, rfl, rfl, by decide +kernel, rfl, by decide +kernel, by decide +kernel⟩
theorem ok_sign {f : Addr} {fd : FuncData} (F : Fun K "_law_sign" "_law_sign" s_law_sign f fd) : FnOk P w K mg base CX0 1 f fd ["signs", "row"] spSign := by
  refine F.ok sc_law_sign (fun vs H Q E h => ?_) (fun cdv A outer s H vs Q E hr h => ?_)
  · obtain ⟨x, i, rfl, _⟩ := h
    rfl
  obtain ⟨x, i, rfl, kk⟩ := h
  refine ⟨_, (pss_one (ps_ret (pe_op op_mod (pe_op op_shr (pv 0) (pv 1)) pe_int))), ?_⟩
  refine ⟨_, rfl, _, rfl, _, _, rfl, rfl, Int.natCast_nonneg _, _, _, rfl, rfl, (by show (0 : Int) < 2; decide), ?_⟩
  have e : (x : Int) / 2 ^ ((i : Int)).toNat % 2 = ((x / 2 ^ i % 2 : Nat) : Int) := by rw [shr_nat]; push_cast; rfl
  simp only [e]
  exact kk
theorem sc_law_across : FnScope ["column", "signs", "total", "r"] ["column", "signs"] (defScope s_law_across) := ⟨rfl, rfl, rfl, by decide +kernel, rfl, by decide +kernel, by decide +kernel⟩
theorem ok_lac {f f1 f2 : Addr} {fd fd1 fd2 : FuncData} (F : Fun K "_law_across" "_law_across" s_law_across f fd) (T : Txt mg) (G_law_paid : Cal P w K mg base 1 "_law_paid" ["strength", "one", "two"] spPaid f1 fd1) (G_law_sign : Cal P w K mg base 1 "_law_sign" ["signs", "row"] spSign f2 fd2) : FnOk P w K mg base CX0 2 f fd ["column", "signs"] spLac := by
  refine F.ok sc_law_across (fun vs H Q E h => ?_) (fun cdv A outer s H vs Q E hr h => ?_)
  · obtain ⟨v, c, sg, rfl, _⟩ := h
    rfl
  obtain ⟨v, c, sg, rfl, ⟨t, a, b, rfl, ht, ha, hb⟩, hl, kk⟩ := h
  refine ⟨_, (pss_cons (ps_set (i := 2) sc_law_across.nd rfl (Or.inl rfl) pe_int)
      (pss_cons (ps_for PassesOwn.never rfl (pi_range1 rfl T.n_range (pa_cons (pe_callB call_len_seq (by rfl) T.n_len bt_len (pa_cons (pe_ix ix_tup (pv 0) pe_int (fun _ _ => rfl)) pa_nil)) pa_nil)) (pg_name (i := 3) sc_law_across.nd rfl (Or.inl rfl)) (pss_one (ps_set (i := 2) sc_law_across.nd rfl (Or.inl rfl) (pe_op op_add (pv 2) (pe_call G_law_paid.ok (hr.mono (by decide)) rfl G_law_paid.mg G_law_paid.kp G_law_paid.bn .nil pass0 (pa_cons (pe_ix ix_list (pe_ix ix_tup (pv 0) pe_int (fun _ _ => rfl)) (pv 3) (fun _ _ => rfl)) (pa_cons (pe_call G_law_sign.ok (hr.mono (by decide)) rfl G_law_sign.mg G_law_sign.kp G_law_sign.bn .nil pass0 (pa_cons (pv 1) (pa_cons (pv 3) pa_nil))) (pa_cons (pe_call G_law_sign.ok (hr.mono (by decide)) rfl G_law_sign.mg G_law_sign.kp G_law_sign.bn .nil pass0 (pa_cons (pv 1) (pa_cons (pe_op op_add (pv 3) pe_int) pa_nil))) pa_nil))))))))
      (pss_one (ps_ret (pv 2))))), ?_⟩
  refine ⟨_, rfl, t, _, 0, _, rfl, rfl, SqT.of ht, at0, a, _, rfl, .inl (SqL.of ha), _, rfl, by rw [List.length_map]; omega, by rw [List.length_map]; omega, for_range (n := (c.1.map V.int).length) (fun i σ H2 => ∃ v3, σ = [some (.ref t), some (.int (sg : Int)), some (.int ((List.range i).map (priceAt c.1 (sg ^^^ (sg / 2)))).sum), v3] ∧ H2 = H) ⟨_, rfl, rfl⟩ ?_ ?_⟩
  · rintro i σ H2 hi ⟨v3, rfl, rfl⟩
    have e0 : (0 : Int) + (i : Int) = (i : Int) := Int.zero_add _
    rw [e0]
    rw [List.length_map] at hi
    have hx : (c.1.map V.int)[i]? = some (V.int c.1[i]) := by rw [List.getElem?_map, List.getElem?_eq_getElem hi]; rfl
    refine ⟨_, rfl, _, rfl, t, _, 0, _, rfl, rfl, SqT.of ht, at0, _, rfl, a, _, _, _, rfl, rfl, SqL.of ha, atI_nat hx, _, rfl, _, rfl, sg, i, rfl, _, rfl, _, rfl, _, _, rfl, rfl, sg, i + 1, rfl, c.1[i], _, _, rfl, _, _, rfl, rfl, ?_⟩
    refine ⟨some (.int (i : Int)), ?_, rfl⟩
    rw [rng_succ, List.sum_append, List.sum_cons, List.sum_nil, Int.add_zero]
    have e1 : sg / 2 ^ (i + 1) = sg / 2 / 2 ^ i := by rw [Nat.pow_succ, Nat.mul_comm, Nat.div_div_eq_div_mul]
    have e2 : lpaid c.1[i] (sg / 2 ^ i % 2) (sg / 2 ^ (i + 1) % 2) = priceAt c.1 (sg ^^^ (sg / 2)) i := by
      rw [e1, lpaid_eq]
      unfold priceAt
      rw [List.getD_eq_getElem?_getD, List.getElem?_eq_getElem hi]
      rfl
    rw [e2]
    rfl
  · rintro σ H2 ⟨v3, rfl, rfl⟩
    rw [List.length_map]
    exact ⟨_, rfl, kk⟩
theorem sc_law_along : FnScope ["column", "signs", "after", "total", "r"] ["column", "signs", "after"] (defScope s_law_along) := ⟨rfl, rfl, rfl, by decide +kernel, rfl, by decide +kernel, by decide +kernel⟩
theorem ok_lal {f f1 f2 : Addr} {fd fd1 fd2 : FuncData} (F : Fun K "_law_along" "_law_along" s_law_along f fd) (T : Txt mg) (G_law_paid : Cal P w K mg base 1 "_law_paid" ["strength", "one", "two"] spPaid f1 fd1) (G_law_sign : Cal P w K mg base 1 "_law_sign" ["signs", "row"] spSign f2 fd2) : FnOk P w K mg base CX0 2 f fd ["column", "signs", "after"] spLal := by
  refine F.ok sc_law_along (fun vs H Q E h => ?_) (fun cdv A outer s H vs Q E hr h => ?_)
  · obtain ⟨v, c, sg, th, rfl, _⟩ := h
    rfl
  obtain ⟨v, c, sg, th, rfl, ⟨t, a, b, rfl, ht, ha, hb⟩, hl, kk⟩ := h
  refine ⟨_, (pss_cons (ps_set (i := 3) sc_law_along.nd rfl (Or.inl rfl) pe_int)
      (pss_cons (ps_for PassesOwn.never rfl (pi_range1 rfl T.n_range (pa_cons (pe_callB call_len_seq (by rfl) T.n_len bt_len (pa_cons (pe_ix ix_tup (pv 0) pe_int (fun _ _ => rfl)) pa_nil)) pa_nil)) (pg_name (i := 4) sc_law_along.nd rfl (Or.inl rfl)) (pss_one (ps_set (i := 3) sc_law_along.nd rfl (Or.inl rfl) (pe_op op_add (pv 3) (pe_call G_law_paid.ok (hr.mono (by decide)) rfl G_law_paid.mg G_law_paid.kp G_law_paid.bn .nil pass0 (pa_cons (pe_ix ix_list (pe_ix ix_tup (pv 0) pe_int (fun _ _ => rfl)) (pv 4) (fun _ _ => rfl)) (pa_cons (pe_call G_law_sign.ok (hr.mono (by decide)) rfl G_law_sign.mg G_law_sign.kp G_law_sign.bn .nil pass0 (pa_cons (pv 1) (pa_cons (pv 4) pa_nil))) (pa_cons (pe_call G_law_sign.ok (hr.mono (by decide)) rfl G_law_sign.mg G_law_sign.kp G_law_sign.bn .nil pass0 (pa_cons (pv 2) (pa_cons (pv 4) pa_nil))) pa_nil))))))))
      (pss_one (ps_ret (pv 3))))), ?_⟩
  refine ⟨_, rfl, t, _, 1, _, rfl, rfl, SqT.of ht, at1, b, _, rfl, .inl (SqL.of hb), _, rfl, by rw [List.length_map]; omega, by rw [List.length_map]; omega, for_range (n := (c.2.map V.int).length) (fun i σ H2 => ∃ v4, σ = [some (.ref t), some (.int (sg : Int)), some (.int (th : Int)), some (.int ((List.range i).map (priceAt c.2 (sg ^^^ th))).sum), v4] ∧ H2 = H) ⟨_, rfl, rfl⟩ ?_ ?_⟩
  · rintro i σ H2 hi ⟨v4, rfl, rfl⟩
    have e0 : (0 : Int) + (i : Int) = (i : Int) := Int.zero_add _
    rw [e0]
    rw [List.length_map] at hi
    have hx : (c.2.map V.int)[i]? = some (V.int c.2[i]) := by rw [List.getElem?_map, List.getElem?_eq_getElem hi]; rfl
    refine ⟨_, rfl, _, rfl, t, _, 1, _, rfl, rfl, SqT.of ht, at1, _, rfl, b, _, _, _, rfl, rfl, SqL.of hb, atI_nat hx, _, rfl, _, rfl, sg, i, rfl, _, rfl, _, rfl, th, i, rfl, c.2[i], _, _, rfl, _, _, rfl, rfl, ?_⟩
    refine ⟨some (.int (i : Int)), ?_, rfl⟩
    rw [rng_succ, List.sum_append, List.sum_cons, List.sum_nil, Int.add_zero]
    have e2 : lpaid c.2[i] (sg / 2 ^ i % 2) (th / 2 ^ i % 2) = priceAt c.2 (sg ^^^ th) i := by
      rw [lpaid_eq]
      unfold priceAt
      rw [List.getD_eq_getElem?_getD, List.getElem?_eq_getElem hi]
      rfl
    rw [e2]
    rfl
  · rintro σ H2 ⟨v4, rfl, rfl⟩
    rw [List.length_map]
    exact ⟨_, rfl, kk⟩
end
end KS

namespace KS
open PySem L2
/-! all ways tried: the mathematics -/
theorem lowR_is {n : Nat} {f : Nat → Int} {m : Int} (h1 : ∃ i, i < n ∧ f i = m) (h2 : ∀ i, i < n → m ≤ f i) : lowR n f = m := by
  obtain ⟨i, hi, e⟩ := h1
  obtain ⟨⟨j, hj, ej⟩, l⟩ := lowR_spec (n := n) (by omega) f
  have a := l i hi
  have b := h2 j hj
  omega
theorem lowR_one (f : Nat → Int) : lowR 1 f = f 0 := lowR_is ⟨0, by omega, rfl⟩ fun i hi => by rw [show i = 0 by omega]; exact Int.le_refl _
theorem sumL_succ (n : Nat) (f : Nat → Int) : sumL (List.range (n + 1)) f = sumL (List.range n) f + f n := by
  unfold sumL
  rw [List.range_succ, List.map_append, List.sum_append, List.map_cons, List.map_nil, List.sum_cons, List.sum_nil]
  omega
def cntL (n : Nat) (f : Nat → Int) (lo : Int) : Int := sumL (List.range n) fun u => if f u = lo then 1 else 0
def best (n : Nat) (f : Nat → Int) : Pr := (lowR n f, cntL n f (lowR n f))
theorem best_congr {n : Nat} {f g : Nat → Int} (h : ∀ i, i < n → f i = g i) : best n f = best n g := by
  unfold best cntL
  rw [lowR_congr h]
  refine Prod.ext rfl (sumL_congr fun u hu => ?_)
  rw [h u (List.mem_range.mp hu)]
theorem cnt_none {n : Nat} {f : Nat → Int} {lo : Int} (h : ∀ i, i < n → f i ≠ lo) : cntL n f lo = 0 := by
  unfold cntL
  refine Eq.trans (sumL_congr (g := fun _ => 0) fun u hu => ?_) (sumL_zero _)
  rw [if_neg (h u (List.mem_range.mp hu))]
theorem sumL_prod (M n : Nat) (h : Nat → Int) : sumL (List.range (M * n)) h = sumL (List.range n) fun t => sumL (List.range M) fun w => h (w + M * t) := by
  induction n with
  | zero => rfl
  | succ n ih =>
    rw [sumL_succ, ← ih]
    have : ∀ k, sumL (List.range (M * n + k)) h = sumL (List.range (M * n)) h + sumL (List.range k) fun w => h (w + M * n) := fun k => by
      induction k with
      | zero => show _ = _ + (0 : Int); rw [Nat.add_zero, Int.add_zero]
      | succ k ik =>
        rw [← Nat.add_assoc, sumL_succ, ik, sumL_succ, Nat.add_comm k (M * n)]
        omega
    rw [Nat.mul_succ, this M]
theorem best_prod {M n : Nat} (hM : 0 < M) (hn : 0 < n) {v : Vc} {g : Nat → Nat → Int} (hv : ∀ t, t < n → v t = best M (g t)) (a : Nat → Int) :
    (lowR n fun t => (v t).1 + a t, sumL (List.range n) fun t => if (v t).1 + a t = lowR n (fun t => (v t).1 + a t) then (v t).2 else 0) = best (M * n) fun x => g (x / M) (x % M) + a (x / M) := by
  have dm : ∀ w t, w < M → (w + M * t) / M = t ∧ (w + M * t) % M = w := fun w t hw => ⟨by rw [Nat.add_mul_div_left _ _ hM, Nat.div_eq_of_lt hw, Nat.zero_add], by rw [Nat.add_mul_mod_self_left, Nat.mod_eq_of_lt hw]⟩
  have dl : ∀ x, x < M * n → x / M < n ∧ x % M < M := fun x hx => ⟨Nat.div_lt_of_lt_mul hx, Nat.mod_lt _ hM⟩
  have L1 : ∀ t, t < n → (∃ w, w < M ∧ g t w = (v t).1) ∧ ∀ w, w < M → (v t).1 ≤ g t w := fun t ht => by rw [hv t ht]; exact lowR_spec hM (g t)
  obtain ⟨⟨t0, ht0, et0⟩, l2⟩ := lowR_spec hn fun t => (v t).1 + a t
  have el : lowR (M * n) (fun x => g (x / M) (x % M) + a (x / M)) = lowR n fun t => (v t).1 + a t := by
    obtain ⟨⟨w0, hw0, ew0⟩, _⟩ := L1 t0 ht0
    refine lowR_is ⟨w0 + M * t0, ?_, ?_⟩ fun x hx => ?_
    · have := Nat.mul_le_mul (Nat.le_refl M) (show t0 + 1 ≤ n by omega)
      rw [Nat.mul_add, Nat.mul_one] at this
      omega
    · obtain ⟨d1, d2⟩ := dm w0 t0 hw0
      show g ((w0 + M * t0) / M) ((w0 + M * t0) % M) + a ((w0 + M * t0) / M) = _
      rw [d1, d2, ew0]
      exact et0
    · obtain ⟨x1, x2⟩ := dl x hx
      have := l2 _ x1
      have := (L1 _ x1).2 _ x2
      omega
  unfold best cntL
  rw [el]
  refine Prod.ext rfl ?_
  rw [sumL_prod]
  refine sumL_congr fun t ht => ?_
  have ht' := List.mem_range.mp ht
  generalize hlo : lowR n (fun t => (v t).1 + a t) = lo at l2
  have e2 : (sumL (List.range M) fun w => if g ((w + M * t) / M) ((w + M * t) % M) + a ((w + M * t) / M) = lo then (1 : Int) else 0) = cntL M (g t) (lo - a t) := by
    unfold cntL
    refine sumL_congr fun w hw => ?_
    obtain ⟨d1, d2⟩ := dm w t (List.mem_range.mp hw)
    rw [d1, d2]
    by_cases z : g t w + a t = lo
    · rw [if_pos z, if_pos (by omega)]
    · rw [if_neg z, if_neg (by omega)]
  show (if (v t).1 + a t = lo then (v t).2 else 0) = _
  rw [e2]
  by_cases z : (v t).1 + a t = lo
  · rw [if_pos z, show lo - a t = (v t).1 by omega, hv t ht']
    rfl
  · rw [if_neg z]
    refine (cnt_none fun w hw e => ?_).symm
    have := l2 t ht'
    have := (L1 t ht').2 w hw
    omega
def dg (n x c : Nat) : Nat := x / n ^ c % n
def pcT (n : Nat) (pat : List Col) (x c : Nat) : Int := aC (colAt pat c) (dg n x c) + lC (colAt pat c) (dg n x c) (dg n x (c + 1))
def pc (n : Nat) (pat : List Col) (k x : Nat) : Int := ((List.range k).map (pcT n pat x)).sum
theorem pc_succ (n : Nat) (pat : List Col) (k x : Nat) : pc n pat (k + 1) x = pc n pat k x + pcT n pat x k := by
  unfold pc
  rw [rng_succ, List.sum_append, List.sum_cons, List.sum_nil, Int.add_zero]
theorem dg_low {n k w t c : Nat} (hn : 0 < n) (hc : c < k) : dg n (w + n ^ k * t) c = dg n w c := by
  unfold dg
  obtain ⟨j, rfl⟩ : ∃ j, k = c + 1 + j := ⟨k - (c + 1), by omega⟩
  have e : n ^ (c + 1 + j) * t = n ^ c * (n * (n ^ j * t)) := by rw [Nat.pow_add, Nat.pow_succ]; simp only [Nat.mul_assoc]
  rw [e, Nat.add_mul_div_left _ _ (Nat.pow_pos hn), Nat.add_mul_mod_self_left]
theorem dg_at {n k w t : Nat} (hn : 0 < n) (hw : w < n ^ k) (ht : t < n) : dg n (w + n ^ k * t) k = t := by
  unfold dg
  rw [Nat.add_mul_div_left _ _ (Nat.pow_pos hn), Nat.div_eq_of_lt hw, Nat.zero_add, Nat.mod_eq_of_lt ht]

/-! from a start: all ways between -/
def vS (n : Nat) (pat : List Col) (s : Nat) : Nat → Vc
  | 0 => fun t => colM (colAt pat 0) s t
  | k + 1 => jv n (vS n pat s k) (colM (colAt pat (k + 1)))
theorem stepF_row {n : Nat} {pat : List Col} {s : Nat} : ∀ (k : Nat), k < pat.length → ∀ t, stepF n (colM (colAt pat 0)) ((pat.drop 1).take k) s t = vS n pat s k t
  | 0, _, t => rfl
  | k + 1, h, t => by
    obtain ⟨c, hc⟩ : ∃ c, (pat.drop 1)[k]? = some c := ⟨_, List.getElem?_eq_getElem (l := pat.drop 1) (i := k) (by rw [List.length_drop]; omega)⟩
    have e : colAt pat (k + 1) = c := by
      unfold colAt
      rw [List.getElem?_drop, Nat.add_comm] at hc
      rw [Nat.mod_eq_of_lt (show k + 1 < pat.length from h), List.getD_eq_getElem?_getD, hc]
      rfl
    rw [List.take_add_one, hc]
    show stepF n _ ((pat.drop 1).take k ++ [c]) s t = _
    rw [stepF_snoc]
    have ih := stepF_row (n := n) (pat := pat) (s := s) k (by omega)
    show jx n _ (colM c) s t = jx n (cst (vS n pat s k)) (colM (colAt pat (k + 1))) 0 t
    rw [e]
    have ef : stepF n (colM (colAt pat 0)) ((pat.drop 1).take k) s = vS n pat s k := funext ih
    unfold jx
    rw [ef]
    rfl
theorem stepM_vS {n : Nat} {pat : List Col} (h : 0 < pat.length) (s t : Nat) : stepM n pat s t = vS n pat s (pat.length - 1) t := by
  rw [← stepF_row (pat.length - 1) (by omega)]
  match pat, h with
  | c :: r, _ =>
    show stepF n (colM c) r s t = stepF n (colM (colAt (c :: r) 0)) (r.take (r.length + 1 - 1)) s t
    rw [Nat.add_sub_cancel, List.take_length]
    rfl
theorem vS_best {n : Nat} (hn : 0 < n) (pat : List Col) {s : Nat} (hs : s < n) : ∀ k t, t < n → vS n pat s k t = best (n ^ k) fun m => pc n pat (k + 1) (s + n * m + n ^ (k + 1) * t)
  | 0, t, ht => by
    show (aC (colAt pat 0) s + lC (colAt pat 0) s t, (1 : Int)) = _
    unfold best cntL
    rw [Nat.pow_zero, lowR_one]
    show _ = (pc n pat 1 (s + n * 0 + n ^ 1 * t), sumL [0] _)
    rw [sumL_cons, sumL_nil, if_pos rfl]
    have e : pc n pat 1 (s + n * 0 + n ^ 1 * t) = aC (colAt pat 0) s + lC (colAt pat 0) s t := by
      have d0 : dg n (s + n * 0 + n ^ 1 * t) 0 = s := by
        unfold dg
        rw [Nat.pow_zero, Nat.div_one, Nat.mul_zero, Nat.add_zero, Nat.pow_one, Nat.add_mul_mod_self_left, Nat.mod_eq_of_lt hs]
      have d1 : dg n (s + n * 0 + n ^ 1 * t) 1 = t := by
        rw [Nat.mul_zero, Nat.add_zero]
        exact dg_at hn (by rw [Nat.pow_one]; exact hs) ht
      rw [pc_succ]
      unfold pcT
      rw [d0, d1]
      show (0 : Int) + _ = _
      rw [Int.zero_add]
    rw [e]
    rfl
  | k + 1, t, ht => by
    have hM : 0 < n ^ k := Nat.pow_pos hn
    have h := best_prod hM hn (v := vS n pat s k) (g := fun u m => pc n pat (k + 1) (s + n * m + n ^ (k + 1) * u)) (fun u hu => vS_best hn pat hs k u hu) fun u => aC (colAt pat (k + 1)) u + lC (colAt pat (k + 1)) u t
    have e : vS n pat s (k + 1) t = (lowR n fun u => (vS n pat s k u).1 + (aC (colAt pat (k + 1)) u + lC (colAt pat (k + 1)) u t), sumL (List.range n) fun u => if (vS n pat s k u).1 + (aC (colAt pat (k + 1)) u + lC (colAt pat (k + 1)) u t) = lowR n (fun u => (vS n pat s k u).1 + (aC (colAt pat (k + 1)) u + lC (colAt pat (k + 1)) u t)) then (vS n pat s k u).2 else 0) := by
      refine Prod.ext rfl ?_
      show (sumL (List.range n) fun u => if (vS n pat s k u).1 + (aC (colAt pat (k + 1)) u + lC (colAt pat (k + 1)) u t) = _ then (vS n pat s k u).2 * 1 else 0) = _
      refine sumL_congr fun u _ => ?_
      rw [Int.mul_one]
      rfl
    have e0 : n ^ (k + 1) = n ^ k * n := Nat.pow_succ ..
    rw [e, h]
    show _ = best (n ^ (k + 1)) fun m => pc n pat (k + 1 + 1) (s + n * m + n ^ (k + 1 + 1) * t)
    rw [e0]
    refine best_congr fun x hx => ?_
    have x1 : x / n ^ k < n := Nat.div_lt_of_lt_mul hx
    have ex : s + n * (x % n ^ k) + n ^ (k + 1) * (x / n ^ k) = s + n * x := by
      have : n ^ (k + 1) * (x / n ^ k) = n * (n ^ k * (x / n ^ k)) := by rw [Nat.pow_succ, Nat.mul_comm (n ^ k) n, Nat.mul_assoc]
      rw [this, Nat.add_assoc, ← Nat.mul_add, Nat.mod_add_div]
    have hb : s + n * x < n ^ (k + 1 + 1) := by
      have h1 : n * (x + 1) ≤ n * (n ^ k * n) := Nat.mul_le_mul (Nat.le_refl n) hx
      rw [Nat.mul_add, Nat.mul_one] at h1
      have h2 : n ^ (k + 1 + 1) = n * (n ^ k * n) := by rw [Nat.pow_succ, Nat.pow_succ, Nat.mul_comm]
      omega
    rw [← e0, ex, pc_succ n pat (k + 1)]
    have dk : dg n (s + n * x + n ^ (k + 1 + 1) * t) (k + 1) = x / n ^ k := by
      rw [dg_low hn (by omega)]
      unfold dg
      rw [Nat.pow_succ, Nat.mul_comm (n ^ k) n, ← Nat.div_div_eq_div_mul, Nat.add_mul_div_left _ _ hn, Nat.div_eq_of_lt hs, Nat.zero_add]
      exact Nat.mod_eq_of_lt x1
    have dk1 : dg n (s + n * x + n ^ (k + 1 + 1) * t) (k + 1 + 1) = t := dg_at hn hb ht
    have e1 : pc n pat (k + 1) (s + n * x + n ^ (k + 1 + 1) * t) = pc n pat (k + 1) (s + n * x) := by
      unfold pc
      refine congrArg List.sum (List.map_congr_left fun c hc => ?_)
      have hc' := List.mem_range.mp hc
      unfold pcT
      rw [dg_low hn (by omega), dg_low hn (by omega)]
    have e2 : pcT n pat (s + n * x + n ^ (k + 1 + 1) * t) (k + 1) = aC (colAt pat (k + 1)) (x / n ^ k) + lC (colAt pat (k + 1)) (x / n ^ k) t := by
      unfold pcT
      rw [dk, dk1]
    rw [e1, e2]
theorem stepM_best {n : Nat} (hn : 0 < n) {pat : List Col} (h : 0 < pat.length) {s t : Nat} (hs : s < n) (ht : t < n) : stepM n pat s t = best (n ^ (pat.length - 1)) fun m => pc n pat pat.length (s + n * m + n ^ pat.length * t) := by
  rw [stepM_vS h, vS_best hn pat hs _ t ht, Nat.sub_add_cancel h]
/-! what is kept of all ways -/
def upd1 (o : Option Pr) (c : Int) : Option Pr := match o with
  | none => some (c, 1)
  | some p => if p.1 > c then some (c, 1) else if p.1 = c then some (c, p.2 + 1) else some p
def acc (n p : Nat) (f : Nat → Int) (s t : Nat) : Nat → Option Pr
  | 0 => none
  | j + 1 => if j % n = s ∧ j / n ^ p = t then upd1 (acc n p f s t j) (f j) else acc n p f s t j
def ind (n p : Nat) (f : Nat → Int) (s t : Nat) (l : Int) (w : Nat) : Int := if w % n = s ∧ w / n ^ p = t then (if f w = l then 1 else 0) else 0
def AccIs (n p : Nat) (f : Nat → Int) (s t j : Nat) : Prop := match acc n p f s t j with
  | none => ∀ w, w < j → ¬ (w % n = s ∧ w / n ^ p = t)
  | some q => (∃ w, w < j ∧ (w % n = s ∧ w / n ^ p = t) ∧ f w = q.1) ∧ (∀ w, w < j → (w % n = s ∧ w / n ^ p = t) → q.1 ≤ f w) ∧ q.2 = sumL (List.range j) (ind n p f s t q.1)
theorem acc_is (n p : Nat) (f : Nat → Int) (s t : Nat) : ∀ j, AccIs n p f s t j
  | 0 => fun w hw => absurd hw (Nat.not_lt_zero _)
  | j + 1 => by
    have ih := acc_is n p f s t j
    unfold AccIs at ih ⊢
    rw [acc]
    by_cases c : j % n = s ∧ j / n ^ p = t
    · rw [if_pos c]
      cases a : acc n p f s t j with
      | none =>
        rw [a] at ih
        refine ⟨⟨j, by omega, c, rfl⟩, fun w hw hc => ?_, ?_⟩
        · by_cases e : w = j
          · rw [e]; exact Int.le_refl _
          · exact absurd hc (ih w (by omega))
        · show (1 : Int) = _
          rw [sumL_succ]
          have z : sumL (List.range j) (ind n p f s t (f j)) = 0 := Eq.trans (sumL_congr (g := fun _ => 0) fun w hw => by unfold ind; rw [if_neg (ih w (List.mem_range.mp hw))]) (sumL_zero _)
          show _ = sumL (List.range j) (ind n p f s t (f j)) + ind n p f s t (f j) j
          rw [z]
          unfold ind
          rw [if_pos c, if_pos rfl]
          rfl
      | some q =>
        rw [a] at ih
        obtain ⟨⟨w0, h0, c0, e0⟩, low, cnt⟩ := ih
        unfold upd1
        by_cases g : q.1 > f j
        · simp only [if_pos g]
          refine ⟨⟨j, by omega, c, rfl⟩, fun w hw hc => ?_, ?_⟩
          · by_cases e : w = j
            · rw [e]; exact Int.le_refl _
            · have := low w (by omega) hc
              show f j ≤ f w
              omega
          · show (1 : Int) = _
            rw [sumL_succ]
            have z : sumL (List.range j) (ind n p f s t (f j)) = 0 := Eq.trans (sumL_congr (g := fun _ => 0) fun w hw => by
              unfold ind
              by_cases hc : w % n = s ∧ w / n ^ p = t
              · have := low w (List.mem_range.mp hw) hc
                rw [if_pos hc, if_neg (by omega)]
              · rw [if_neg hc]) (sumL_zero _)
            show _ = sumL (List.range j) (ind n p f s t (f j)) + ind n p f s t (f j) j
            rw [z]
            unfold ind
            rw [if_pos c, if_pos rfl]
            rfl
        · by_cases e : q.1 = f j
          · simp only [if_neg g, if_pos e]
            refine ⟨⟨j, by omega, c, rfl⟩, fun w hw hc => ?_, ?_⟩
            · by_cases e' : w = j
              · rw [e']; exact Int.le_refl _
              · have := low w (by omega) hc
                show f j ≤ f w
                omega
            · show q.2 + 1 = _
              rw [sumL_succ, cnt, e]
              show _ = _ + ind n p f s t (f j) j
              unfold ind
              rw [if_pos c, if_pos rfl]
          · simp only [if_neg g, if_neg e]
            refine ⟨⟨w0, by omega, c0, e0⟩, fun w hw hc => ?_, ?_⟩
            · by_cases e' : w = j
              · rw [e']; omega
              · exact low w (by omega) hc
            · rw [sumL_succ, cnt]
              have : ind n p f s t q.1 j = 0 := by unfold ind; rw [if_pos c, if_neg (by omega)]
              rw [this, Int.add_zero]
    · rw [if_neg c]
      cases a : acc n p f s t j with
      | none =>
        rw [a] at ih
        intro w hw hc
        by_cases e : w = j
        · subst e; exact c hc
        · exact ih w (by omega) hc
      | some q =>
        rw [a] at ih
        obtain ⟨⟨w0, h0, c0, e0⟩, low, cnt⟩ := ih
        refine ⟨⟨w0, by omega, c0, e0⟩, fun w hw hc => ?_, ?_⟩
        · by_cases e : w = j
          · subst e; exact absurd hc c
          · exact low w (by omega) hc
        · rw [sumL_succ, cnt]
          have : ind n p f s t q.1 j = 0 := by unfold ind; rw [if_neg c]
          rw [this, Int.add_zero]
theorem sumL_only {n s : Nat} (hs : s < n) (g : Nat → Int) : sumL (List.range n) (fun a => if a = s then g a else 0) = g s := by
  induction n with
  | zero => omega
  | succ n ih =>
    rw [sumL_succ]
    by_cases e : n = s
    · subst e
      rw [if_pos rfl]
      have : sumL (List.range n) (fun a => if a = n then g a else 0) = 0 := Eq.trans (sumL_congr (g := fun _ => 0) fun a ha => by
        have := List.mem_range.mp ha
        rw [if_neg (by omega)]) (sumL_zero _)
      rw [this, Int.zero_add]
    · rw [if_neg e, ih (by omega), Int.add_zero]
theorem acc_all {n : Nat} (hn : 0 < n) {p : Nat} (hp : 0 < p) (f : Nat → Int) {s t : Nat} (hs : s < n) (ht : t < n) : acc n p f s t (n ^ (p + 1)) = some (best (n ^ (p - 1)) fun m => f (s + n * m + n ^ p * t)) := by
  have hM : 0 < n ^ (p - 1) := Nat.pow_pos hn
  have ep : n ^ p = n * n ^ (p - 1) := by
    obtain ⟨q, rfl⟩ : ∃ q, p = q + 1 := ⟨p - 1, by omega⟩
    rw [Nat.add_sub_cancel, Nat.pow_succ, Nat.mul_comm]
  have eN : n ^ (p + 1) = n * (n ^ (p - 1) * n) := by rw [Nat.pow_succ, ep, Nat.mul_assoc]
  have at_ : ∀ m, m < n ^ (p - 1) → ∀ a b, a < n → b < n → (a + n * m + n ^ p * b) % n = a ∧ (a + n * m + n ^ p * b) / n ^ p = b ∧ a + n * m + n ^ p * b < n ^ (p + 1) := fun m hm a b ha hb => by
    have h1 : a + n * m < n ^ p := by
      have := Nat.mul_le_mul (Nat.le_refl n) (show m + 1 ≤ n ^ (p - 1) from hm)
      rw [Nat.mul_add, Nat.mul_one] at this
      omega
    refine ⟨?_, ?_, ?_⟩
    · rw [ep, Nat.mul_assoc, Nat.add_mul_mod_self_left, Nat.add_mul_mod_self_left, Nat.mod_eq_of_lt ha]
    · rw [Nat.add_mul_div_left _ _ (Nat.pow_pos hn), Nat.div_eq_of_lt h1, Nat.zero_add]
    · have := Nat.mul_le_mul (Nat.le_refl (n ^ p)) (show b + 1 ≤ n from hb)
      have e5 : n ^ p * n = n ^ (p + 1) := (Nat.pow_succ ..).symm
      rw [Nat.mul_add, Nat.mul_one, e5] at this
      omega
  have ai := acc_is n p f s t (n ^ (p + 1))
  unfold AccIs at ai
  cases a : acc n p f s t (n ^ (p + 1)) with
  | none =>
    rw [a] at ai
    obtain ⟨h1, h2, h3⟩ := at_ 0 hM s t hs ht
    exact absurd ⟨h1, h2⟩ (ai _ h3)
  | some q =>
    rw [a] at ai
    obtain ⟨⟨w0, h0, c0, e0⟩, low, cnt⟩ := ai
    have el : lowR (n ^ (p - 1)) (fun m => f (s + n * m + n ^ p * t)) = q.1 := by
      refine lowR_is ?_ fun m hm => ?_
      · have hd : w0 / n < n ^ (p - 1) * n := Nat.div_lt_of_lt_mul (by rw [← eN]; exact h0)
        refine ⟨w0 / n % n ^ (p - 1), Nat.mod_lt _ hM, ?_⟩
        have : s + n * (w0 / n % n ^ (p - 1)) + n ^ p * t = w0 := by
          have e1 : w0 / n / n ^ (p - 1) = t := by rw [Nat.div_div_eq_div_mul, ← ep]; exact c0.2
          have e2 := Nat.mod_add_div (w0 / n) (n ^ (p - 1))
          have e3 := Nat.mod_add_div w0 n
          rw [e1] at e2
          rw [c0.1, ← e2, Nat.mul_add, ← Nat.mul_assoc, ← ep, ← Nat.add_assoc] at e3
          exact e3
        rw [this]
        exact e0
      · obtain ⟨h1, h2, h3⟩ := at_ m hm s t hs ht
        exact low _ h3 ⟨h1, h2⟩
    have ec : q.2 = cntL (n ^ (p - 1)) (fun m => f (s + n * m + n ^ p * t)) q.1 := by
      rw [cnt, eN, sumL_prod, sumL_prod]
      have e1 : ∀ b, b < n → ∀ m, m < n ^ (p - 1) → (sumL (List.range n) fun a => ind n p f s t q.1 (a + n * (m + n ^ (p - 1) * b))) = if b = t then (if f (s + n * m + n ^ p * t) = q.1 then 1 else 0) else 0 := fun b hb m hm => by
        have ew : ∀ a, a + n * (m + n ^ (p - 1) * b) = a + n * m + n ^ p * b := fun a => by rw [Nat.mul_add, ← Nat.mul_assoc, ← ep, Nat.add_assoc]
        rw [sumL_congr (g := fun a => if a = s then (if b = t then (if f (a + n * m + n ^ p * b) = q.1 then 1 else 0) else 0) else 0) fun a ha => ?_, sumL_only hs]
        · by_cases z : b = t
          · subst z; rw [if_pos rfl]
          · rw [if_neg z, if_neg z]
        · rw [ew]
          obtain ⟨h1, h2, _⟩ := at_ m hm a b (List.mem_range.mp ha) hb
          unfold ind
          rw [h1, h2]
          by_cases z : a = s
          · by_cases y : b = t
            · rw [if_pos ⟨z, y⟩, if_pos z, if_pos y]
            · rw [if_neg (fun u => y u.2), if_pos z, if_neg y]
          · rw [if_neg (fun u => z u.1), if_neg z]
      rw [sumL_congr (g := fun b => if b = t then (sumL (List.range (n ^ (p - 1))) fun m => if f (s + n * m + n ^ p * t) = q.1 then 1 else 0) else 0) fun b hb => ?_, sumL_only ht]
      · rfl
      · have hb' := List.mem_range.mp hb
        rw [sumL_congr fun m hm => e1 b hb' m (List.mem_range.mp hm)]
        by_cases z : b = t
        · rw [if_pos z]
          exact sumL_congr fun m _ => by rw [if_pos z]
        · rw [if_neg z]
          exact Eq.trans (sumL_congr (g := fun _ => 0) fun m _ => by rw [if_neg z]) (sumL_zero _)
    unfold best
    rw [el, ← ec]
end KS


namespace KS
open PySem L2
local macro_rules | `(tactic| walk_at "cc") => `(tactic| first | exact ⟨by decide, by decide⟩ | (show (0 : Int) < _; decide) | (show (0 : Int) < _; omega) | (show (0 : Int) ≤ _; omega) | exact ⟨by decide, by decide, by decide⟩ | exact ⟨by omega, by omega, by decide⟩ | exact Or.inl ⟨by decide, by decide⟩ | exact Or.inl ⟨by omega, by omega⟩)
local macro_rules | `(tactic| walk_at "rd") => `(tactic| repeat (first | refine ⟨_, rfl, ?_⟩ | refine ⟨_, _, rfl, rfl, ?_⟩ | refine ⟨rfl, ?_⟩ | (refine ⟨?cc, ?_⟩; (case cc => walk_at "cc"))))

section
variable {K : PySem.W.Frag}
theorem ints_rd {H : Hp} {a : Addr} {ns : List Int} (h : H a = some (.lst (ns.map V.int))) : RdD K H (.ref a) (.list (ns.map PyData.int)) := by
  refine RdD.lst (SqL.of h) (by rw [List.length_map, List.length_map]) fun i x d e1 e2 => ?_
  rw [List.getElem?_map] at e1 e2
  cases q : ns[i]? with
  | none => rw [q] at e1; cases e1
  | some z => rw [q] at e1 e2; cases e1; cases e2; exact .int _
def dCol (c : Col) : PyData := .tuple [.list (c.1.map PyData.int), .list (c.2.map PyData.int)]
theorem ColAt.rd {H : Hp} {v : V} {c : Col} (h : ColAt H v c) : RdD K H v (dCol c) := by
  obtain ⟨t, a, b, rfl, ht, ha, hb⟩ := h
  refine RdD.tup (SqT.of ht) rfl fun j x d q1 q2 => ?_
  match j with
  | 0 => cases q1; cases q2; exact ints_rd ha
  | 1 => cases q1; cases q2; exact ints_rd hb
  | j + 2 => cases q1
theorem PatAt.rd {H : Hp} {v : V} {pat : List Col} (h : PatAt H v pat) : RdD K H v (.list (pat.map dCol)) := by
  obtain ⟨a, ys, rfl, ha, hL⟩ := h
  refine RdD.lst (SqL.of ha) (by rw [List.length_map]; exact hL.1) fun i x d e1 e2 => ?_
  rw [List.getElem?_map] at e2
  obtain ⟨p, hp, hx⟩ := hL.get e1
  rw [hp] at e2
  cases e2
  exact hx.rd
theorem flatI (ns : List Int) : PyData.canLayAll0 (ns.map PyData.int) = true ∧ PyData.depthAll (ns.map PyData.int) ≤ 2 := by
  refine ⟨canLayAll_of fun d hd => ?_, depthAll_of fun d hd => ?_⟩
  · obtain ⟨p, _, rfl⟩ := List.mem_map.mp hd
    simp [PyData.canLay0]
  · obtain ⟨p, _, rfl⟩ := List.mem_map.mp hd
    simp [PyData.depth]
theorem shapedP (pat : List Col) : SeqAt.shaped (.list (pat.map dCol)) = true := by
  refine shaped_flat fun d hd => ?_
  obtain ⟨c, _, rfl⟩ := List.mem_map.mp hd
  obtain ⟨a1, a2⟩ := flatI c.1
  obtain ⟨b1, b2⟩ := flatI c.2
  unfold dCol
  constructor
  · simp [PyData.canLay0, PyData.canLayAll0, a1, b1]
  · simp only [PyData.depth, PyData.depthAll]
    omega
end

def key (s t : Nat) : List Key := [Sum.inl (s : Int), Sum.inl (t : Int)]
theorem key_inj {s t s' t' : Nat} : key s t = key s' t' ↔ s = s' ∧ t = t' := by
  unfold key
  constructor
  · intro h
    injection h with h1 h2
    injection h2 with h3 _
    have e1 := Sum.inl.inj h1
    have e2 := Sum.inl.inj h3
    omega
  · rintro ⟨rfl, rfl⟩
    rfl
theorem put_len (kvs : List (List Key × V)) (k : List Key) (v : V) : (putK kvs k v).length ≤ kvs.length + 1 := by
  unfold putK
  split
  · rw [List.length_map]; omega
  · rw [List.length_append]; exact Nat.le_refl _
theorem PrAt.putD {H : Hp} {v : V} {p : Pr} {d : Addr} {kvs ws : List (List Key × V)} (h : PrAt H v p) (hd : H d = some (.dT kvs)) : PrAt (upd H d (.dT ws)) v p := by
  obtain ⟨t, e, z⟩ := h
  exact ⟨t, e, by rw [upd_ne (fun y => by rw [y, hd] at z; cases z)]; exact z⟩
def Kept (H : Hp) (kvs : List (List Key × V)) (s t : Nat) (o : Option Pr) : Prop := match o with
  | none => valV kvs (key s t) = none
  | some q => ∃ u, valV kvs (key s t) = some u ∧ PrAt H u q
def Owns (n : Nat) (kvs : List (List Key × V)) : Prop := ∀ e ∈ kvs, ∃ s t, s < n ∧ t < n ∧ e.1 = key s t ∧ valV kvs e.1 = some e.2
theorem put_mem {kvs : List (List Key × V)} {k : List Key} {v : V} {e : List Key × V} (h : e ∈ putK kvs k v) : e = (k, v) ∨ e ∈ kvs ∧ e.1 ≠ k := by
  unfold putK at h
  split at h
  · obtain ⟨x, hx, ex⟩ := List.mem_map.mp h
    by_cases c : x.1 = k
    · rw [if_pos c] at ex
      exact .inl (by rw [← ex, c])
    · rw [if_neg c] at ex
      exact .inr ⟨by rw [← ex]; exact hx, by rw [← ex]; exact c⟩
  · rename_i nn
    rcases List.mem_append.mp h with h | h
    · refine .inr ⟨h, fun c => nn ?_⟩
      exact List.any_eq_true.mpr ⟨e, h, decide_eq_true c⟩
    · exact .inl (List.mem_singleton.mp h)
theorem Owns.put {n : Nat} {kvs : List (List Key × V)} (h : Owns n kvs) {s t : Nat} (hs : s < n) (ht : t < n) (v : V) : Owns n (putK kvs (key s t) v) := fun e he => by
  rcases put_mem he with rfl | ⟨he, ne⟩
  · exact ⟨s, t, hs, ht, rfl, by rw [valV_put, if_pos rfl]⟩
  · obtain ⟨s', t', h1, h2, h3, h4⟩ := h e he
    exact ⟨s', t', h1, h2, h3, by rw [valV_put, if_neg ne]; exact h4⟩
def spSteps : Sp := fun vs H Q _ => ∃ (v : V) (r : Nat) (pat : List Col), vs = [v, .int (r : Int)] ∧ PatAt H v pat ∧ Good r pat ∧ r * (pat.length + 1) ≤ 8 ∧ ∀ d kvs H', Same H H' → H' d = some (.dT kvs) → Owns (2 ^ r) kvs → (∀ s t, s < 2 ^ r → t < 2 ^ r → ∃ u, valV kvs (key s t) = some u ∧ PrAt H' u (stepM (2 ^ r) pat s t)) → Q (.ref d) H'
def StI (a d : Addr) (r : Nat) (pat : List Col) (H : Hp) (j : Nat) (σ : St) (H2 : Hp) : Prop := ∃ (kvs : List (List Key × V)) (v4 v5 v6 v7 v8 v9 : Option V), σ = [some (.ref a), some (.int (r : Int)), some (.int ((2 ^ r : Nat) : Int)), some (.ref d), v4, v5, v6, v7, v8, v9] ∧ Same H H2 ∧ H2 d = some (.dT kvs) ∧ kvs.length ≤ j ∧ Owns (2 ^ r) kvs ∧ ∀ s t, Kept H2 kvs s t (acc (2 ^ r) pat.length (pc (2 ^ r) pat pat.length) s t j)
section
variable {P : Program} {w : World} {K : PySem.W.Frag} {mg : Str → Option Value} {base : Heap}
theorem sc_law_steps : FnScope ["pattern", "rows", "size", "due", "way", "cost", "k", "signs", "after", "ends"] ["pattern", "rows"] (defScope s_law_steps) := ⟨rfl, rfl, rfl, by decide +kernel, rfl, by decide +kernel, by decide +kernel⟩
theorem ok_steps {f f1 f2 : Addr} {fd fd1 fd2 : FuncData} (F : Fun K "_law_steps" "_law_steps" s_law_steps f fd) (T : Txt mg) (G_law_across : Cal P w K mg base 2 "_law_across" ["column", "signs"] spLac f1 fd1) (G_law_along : Cal P w K mg base 2 "_law_along" ["column", "signs", "after"] spLal f2 fd2) : FnOk P w K mg base CX0 3 f fd ["pattern", "rows"] spSteps := by
  refine F.ok sc_law_steps (fun vs H Q E h => ?_) (fun cdv A outer s H vs Q E hr h => ?_)
  · obtain ⟨v, r, pat, rfl, _⟩ := h
    rfl
  obtain ⟨v, r, pat, rfl, hP, g, h8, kk⟩ := h
  have hu := hu_of hr
  obtain ⟨a, ys, rfl, hA, hL⟩ := id hP
  have yl := hL.1
  obtain ⟨n0, n8⟩ := g.n8
  have g0 := g.p0
  have g6 := g.p6
  have g1 := g.r1
  have g3 := g.r3
  have e8 : (1 : Int) * 2 ^ ((r : Nat) : Int).toNat = ((2 ^ r : Nat) : Int) := by rw [Int.one_mul, Int.toNat_natCast]; push_cast; rfl
  have em : (r : Int) * (((ys.length : Nat) : Int) + 1) = ((r * (pat.length + 1) : Nat) : Int) := by rw [yl]; push_cast; rfl
  have eN : (1 : Int) * 2 ^ ((r : Int) * (((ys.length : Nat) : Int) + 1)).toNat = (((2 ^ r) ^ (pat.length + 1) : Nat) : Int) := by rw [em, Int.one_mul, Int.toNat_natCast, ← Nat.pow_mul]; push_cast; rfl
  have bN : (2 ^ r) ^ (pat.length + 1) ≤ 256 := by
    rw [← Nat.pow_mul]
    exact Nat.pow_le_pow_right (n := 2) (by decide) h8
  have br : -(2 ^ 64 : Int) < (r : Int) ∧ (r : Int) < 2 ^ 64 := ⟨by omega, by omega⟩
  refine ⟨_, (pss_cons (ps_set (i := 2) sc_law_steps.nd rfl (Or.inl rfl) (pe_op op_shl pe_int (pv 1)))
      (pss_cons (ps_set (i := 3) sc_law_steps.nd rfl (Or.inl rfl) pe_dnewT)
      (pss_cons (ps_for PassesOwn.never rfl (pi_range1 rfl T.n_range (pa_cons (pe_op op_shl pe_int (pe_op op_mul (pv 1) (pe_op op_add (pe_callB call_len_seq (by rfl) T.n_len bt_len (pa_cons (pv 0) pa_nil)) pe_int))) pa_nil)) (pg_name (i := 4) sc_law_steps.nd rfl (Or.inl rfl)) (pss_cons (ps_set (i := 5) sc_law_steps.nd rfl (Or.inl rfl) pe_int)
      (pss_cons (ps_for PassesOwn.never rfl (pi_range1 rfl T.n_range (pa_cons (pe_callB call_len_seq (by rfl) T.n_len bt_len (pa_cons (pv 0) pa_nil)) pa_nil)) (pg_name (i := 6) sc_law_steps.nd rfl (Or.inl rfl)) (pss_cons (ps_set (i := 7) sc_law_steps.nd rfl (Or.inl rfl) (pe_op op_mod (pe_op op_shr (pv 4) (pe_op op_mul (pv 1) (pv 6))) (pv 2)))
      (pss_cons (ps_set (i := 8) sc_law_steps.nd rfl (Or.inl rfl) (pe_op op_mod (pe_op op_shr (pv 4) (pe_op op_mul (pv 1) (pe_op op_add (pv 6) pe_int))) (pv 2)))
      (pss_one (ps_set (i := 5) sc_law_steps.nd rfl (Or.inl rfl) (pe_op op_add (pe_op op_add (pv 5) (pe_call G_law_across.ok (hr.mono (by decide)) rfl G_law_across.mg G_law_across.kp G_law_across.bn .nil pass0 (pa_cons (pe_ix ix_list (pv 0) (pv 6) (fun _ _ => rfl)) (pa_cons (pv 7) pa_nil)))) (pe_call G_law_along.ok (hr.mono (by decide)) rfl G_law_along.mg G_law_along.kp G_law_along.bn .nil pass0 (pa_cons (pe_ix ix_list (pv 0) (pv 6) (fun _ _ => rfl)) (pa_cons (pv 7) (pa_cons (pv 8) pa_nil))))))))))
      (pss_cons (ps_set (i := 9) sc_law_steps.nd rfl (Or.inl rfl) (pe_tup (pa_cons (pe_op op_mod (pv 4) (pv 2)) (pa_cons (pe_op op_shr (pv 4) (pe_op op_mul (pv 1) (pe_callB call_len_seq (by rfl) T.n_len bt_len (pa_cons (pv 0) pa_nil)))) pa_nil))))
      (pss_one (ps_if (PW.pt (pw_or (pt_cmp (pc_dnotin hu (pv 9) (pv 3))) (pw_or1 (pt_cmpR op_gt (pe_ix ix_tup (pe_dget hu (pv 3) (pv 9) (fun _ _ => rfl)) pe_int (fun _ _ => rfl)) (pv 5) (nomark _))))) (pss_one (ps_dput hu (pv 3) (pv 9) (pe_tup (pa_cons (pv 5) (pa_cons pe_int pa_nil))) rfl)) (pss_one (ps_if (pt_cmpR op_eq (pe_ix ix_tup (pe_dget hu (pv 3) (pv 9) (fun _ _ => rfl)) pe_int (fun _ _ => rfl)) (pv 5) (nomark _)) (pss_one (ps_dput hu (pv 3) (pv 9) (pe_tup (pa_cons (pv 5) (pa_cons (pe_op op_add (pe_ix ix_tup (pe_dget hu (pv 3) (pv 9) (fun _ _ => rfl)) pe_int (fun _ _ => rfl)) pe_int) pa_nil))) rfl)) pss_nil))))))))
      (pss_one (ps_ret (pv 3)))))), ?_⟩
  refine ⟨_, rfl, _, _, rfl, rfl, ⟨Int.natCast_nonneg _, by omega, by decide⟩, ?_⟩
  simp only [e8]
  intro d hd
  refine ⟨_, rfl, _, rfl, a, _, rfl, .inl (SqL.of ((same_new hd _) _ _ hA)), _, _, rfl, rfl, _, _, rfl, rfl, .inl br, _, _, rfl, rfl, ⟨by show (0 : Int) ≤ (r : Int) * (((ys.length : Nat) : Int) + 1); rw [em]; exact Int.natCast_nonneg _, by show (r : Int) * (((ys.length : Nat) : Int) + 1) ≤ 1000000; rw [em]; omega, by decide⟩, _, congrArg (fun z => [V.int z]) eN, by omega, by omega, ?_⟩
  generalize hNN : (2 ^ r) ^ (pat.length + 1) = N at bN
  refine for_range (n := N) (StI a d r pat H) ⟨[], _, _, _, _, _, _, rfl, same_new hd _, upd_same, Nat.le_refl _, (fun e he => nomatch he), fun s t => rfl⟩ ?_ ?_
  · rintro x σ H2 hx ⟨kvs, v4, v5, v6, v7, v8, v9, rfl, s2, hd2, hkl, hO, hK⟩
    have e0 : (0 : Int) + (x : Int) = (x : Int) := Int.zero_add _
    rw [e0]
    have hA2 := s2 _ _ hA
    have xl : x % 2 ^ r < 2 ^ r := Nat.mod_lt _ n0
    have xh : x / (2 ^ r) ^ pat.length < 2 ^ r := Nat.div_lt_of_lt_mul (by rw [← Nat.pow_succ, hNN]; exact hx)
    have sg : ∀ j : Nat, (x : Int) / 2 ^ ((r : Int) * (j : Int)).toNat = ((x / (2 ^ r) ^ j : Nat) : Int) := fun j => by
      have e : (r : Int) * (j : Int) = ((r * j : Nat) : Int) := by push_cast; rfl
      rw [e, Int.toNat_natCast, ← Nat.pow_mul]
      push_cast
      rfl
    have sd : ∀ j : Nat, (x : Int) / 2 ^ ((r : Int) * (j : Int)).toNat % ((2 ^ r : Nat) : Int) = ((dg (2 ^ r) x j : Nat) : Int) := fun j => by
      rw [sg]
      unfold dg
      push_cast
      rfl
    have nn : ∀ j : Nat, (0 : Int) ≤ (r : Int) * (j : Int) := fun j => by
      have e : (r : Int) * (j : Int) = ((r * j : Nat) : Int) := by push_cast; rfl
      rw [e]; exact Int.natCast_nonneg _
    refine ⟨_, rfl, a, _, rfl, .inl (SqL.of hA2), _, rfl, by omega, by omega, for_range (n := ys.length) (fun c σ H3 => ∃ v6 v7 v8, σ = [some (.ref a), some (.int (r : Int)), some (.int ((2 ^ r : Nat) : Int)), some (.ref d), some (.int (x : Int)), some (.int (pc (2 ^ r) pat c x)), v6, v7, v8, v9] ∧ H3 = H2) ⟨_, _, _, rfl, rfl⟩ ?_ ?_⟩
    · rintro c σ H3 hc ⟨v6, v7, v8, rfl, rfl⟩
      have e0 : (0 : Int) + (c : Int) = (c : Int) := Int.zero_add _
      rw [e0]
      have lt : c < pat.length := by omega
      obtain ⟨y, hy, hC⟩ := hL.2 c pat[c] (List.getElem?_eq_getElem lt)
      have ed : colAt pat c = pat[c] := by unfold colAt; rw [Nat.mod_eq_of_lt lt, List.getD_eq_getElem?_getD, List.getElem?_eq_getElem lt]; rfl
      obtain ⟨d1, d2⟩ := g.al pat[c] (List.getElem_mem lt)
      have ec1 : ((c : Int) + 1) = ((c + 1 : Nat) : Int) := by push_cast; rfl
      refine ⟨_, rfl, _, rfl, _, rfl, _, _, rfl, rfl, .inl br, _, _, rfl, rfl, nn c, _, rfl, _, _, rfl, rfl, (by show (0 : Int) < ((2 ^ r : Nat) : Int); omega), ?_⟩
      simp only [sd]
      refine ⟨_, rfl, _, rfl, _, rfl, _, _, rfl, rfl, _, _, rfl, rfl, .inl br, _, _, rfl, rfl, (by show (0 : Int) ≤ (r : Int) * ((c : Int) + 1); rw [ec1]; exact nn (c + 1)), _, rfl, _, _, rfl, rfl, (by show (0 : Int) < ((2 ^ r : Nat) : Int); omega), ?_⟩
      have sd1 : (x : Int) / 2 ^ ((r : Int) * ((c : Int) + 1)).toNat % ((2 ^ r : Nat) : Int) = ((dg (2 ^ r) x (c + 1) : Nat) : Int) := by rw [ec1]; exact sd (c + 1)
      simp only [sd1]
      refine ⟨_, rfl, _, rfl, _, rfl, a, _, _, _, rfl, rfl, SqL.of hA2, atI_nat hy, _, rfl, y, pat[c], dg (2 ^ r) x c, rfl, hC.mono s2, by omega, _, _, rfl, rfl, _, rfl, _, rfl, a, _, _, _, rfl, rfl, SqL.of hA2, atI_nat hy, _, rfl, _, rfl, y, pat[c], dg (2 ^ r) x c, dg (2 ^ r) x (c + 1), rfl, hC.mono s2, by omega, _, _, rfl, rfl, ?_⟩
      refine ⟨some (.int (c : Int)), some (.int ((dg (2 ^ r) x c : Nat) : Int)), some (.int ((dg (2 ^ r) x (c + 1) : Nat) : Int)), ?_, rfl⟩
      rw [pc_succ]
      unfold pcT
      rw [ed, ← Int.add_assoc]
      rfl
    · rintro σ H3 ⟨v6, v7, v8, rfl, rfl⟩
      have eml : (x : Int) % ((2 ^ r : Nat) : Int) = ((x % 2 ^ r : Nat) : Int) := by push_cast; rfl
      have edl : (x : Int) / 2 ^ ((r : Int) * ((ys.length : Nat) : Int)).toNat = ((x / (2 ^ r) ^ pat.length : Nat) : Int) := by rw [yl]; exact sg pat.length
      refine ⟨_, rfl, _, rfl, _, _, rfl, rfl, (by show (0 : Int) < ((2 ^ r : Nat) : Int); omega), _, rfl, _, rfl, _, rfl, a, _, rfl, .inl (SqL.of hA2), _, _, rfl, rfl, .inl br, _, _, rfl, rfl, nn _, (by show 2 ≤ sizeLine; decide), fun b hb => ?_⟩
      simp only [eml, edl]
      rw [show (ys.length : Nat) = pat.length from yl]
      have sb := same_new hb (.tup [.int ((x % 2 ^ r : Nat) : Int), .int ((x / (2 ^ r) ^ pat.length : Nat) : Int)])
      have hbb : (upd H3 b (.tup [.int ((x % 2 ^ r : Nat) : Int), .int ((x / (2 ^ r) ^ pat.length : Nat) : Int)])) b = some (.tup ((key (x % 2 ^ r) (x / (2 ^ r) ^ pat.length)).map kV)) := upd_same
      have hd4 := sb _ _ hd2
      have s4 := s2.trans sb
      have hK4 : ∀ s t, Kept (upd H3 b (.tup [.int ((x % 2 ^ r : Nat) : Int), .int ((x / (2 ^ r) ^ pat.length : Nat) : Int)])) kvs s t (acc (2 ^ r) pat.length (pc (2 ^ r) pat pat.length) s t x) := fun s t => by
        have := hK s t
        cases z : acc (2 ^ r) pat.length (pc (2 ^ r) pat pat.length) s t x with
        | none => rw [z] at this; exact this
        | some q =>
          rw [z] at this
          obtain ⟨u, e1, e2⟩ := this
          exact ⟨u, e1, e2.mono sb⟩
      generalize upd H3 b (.tup [.int ((x % 2 ^ r : Nat) : Int), .int ((x / (2 ^ r) ^ pat.length : Nat) : Int)]) = H4 at hbb hd4 s4 hK4
      -- what is stored, and what stays
      have put : ∀ (q : Pr) (t5 : Addr) (H5 : Hp) (v9' : Option V), Same H4 H5 → H5 t5 = some (.tup [.int q.1, .int q.2]) → upd1 (acc (2 ^ r) pat.length (pc (2 ^ r) pat pat.length) (x % 2 ^ r) (x / (2 ^ r) ^ pat.length) x) (pc (2 ^ r) pat pat.length x) = some q →
          StI a d r pat H (x + 1) [some (.ref a), some (.int (r : Int)), some (.int ((2 ^ r : Nat) : Int)), some (.ref d), some (.int (x : Int)), some (.int (pc (2 ^ r) pat pat.length x)), v6, v7, v8, some (.ref b)] (upd H5 d (.dT (putK kvs (key (x % 2 ^ r) (x / (2 ^ r) ^ pat.length)) (.ref t5)))) := fun q t5 H5 v9' s5 ht5 eq => by
        refine ⟨_, _, _, _, _, _, _, rfl, same_upd (s4.trans s5) hd _, upd_same, Nat.le_trans (put_len _ _ _) (by omega), hO.put xl xh _, fun s t => ?_⟩
        rw [acc]
        by_cases c : x % 2 ^ r = s ∧ x / (2 ^ r) ^ pat.length = t
        · obtain ⟨rfl, rfl⟩ := c
          rw [if_pos ⟨rfl, rfl⟩, eq]
          refine ⟨.ref t5, by rw [valV_put, if_pos rfl], ?_⟩
          exact PrAt.putD ⟨t5, rfl, ht5⟩ (s5 _ _ hd4)
        · rw [if_neg c]
          have nk : ¬ key s t = key (x % 2 ^ r) (x / (2 ^ r) ^ pat.length) := fun e => c ⟨(key_inj.mp e).1.symm, (key_inj.mp e).2.symm⟩
          have := hK4 s t
          cases z : acc (2 ^ r) pat.length (pc (2 ^ r) pat pat.length) s t x with
          | none =>
            rw [z] at this
            show valV _ _ = none
            rw [valV_put, if_neg nk]
            exact this
          | some q' =>
            rw [z] at this
            obtain ⟨u, e1, e2⟩ := this
            exact ⟨u, by rw [valV_put, if_neg nk]; exact e1, (e2.mono s5).putD (s5 _ _ hd4)⟩
      have hk0 := hK4 (x % 2 ^ r) (x / (2 ^ r) ^ pat.length)
      refine ⟨_, rfl, _, rfl, d, _, rfl, DGet.t hd4 hbb, _, rfl, ?_⟩
      cases z : acc (2 ^ r) pat.length (pc (2 ^ r) pat pat.length) (x % 2 ^ r) (x / (2 ^ r) ^ pat.length) x with
      | none =>
        rw [z] at hk0
        have hk0' : valV kvs (key (x % 2 ^ r) (x / (2 ^ r) ^ pat.length)) = none := hk0
        rw [hk0']
        refine iteT (iteT ?_)
        refine ⟨_, rfl, (by show 2 ≤ sizeLine; decide), fun t5 ht5 => ?_⟩
        have s5 := same_new ht5 (.tup [.int (pc (2 ^ r) pat pat.length x), .int 1])
        refine ⟨_, rfl, _, rfl, d, _, rfl, DPut.t (s5 _ _ hd4) (s5 _ _ hbb) (small1000 (by omega)), ?_⟩
        exact put (pc (2 ^ r) pat pat.length x, 1) t5 _ none s5 upd_same (by rw [z]; rfl)
      | some q =>
        rw [z] at hk0
        obtain ⟨u, e1, e2⟩ := hk0
        obtain ⟨t, rfl, ht⟩ := e2
        rw [e1]
        have dg' : ∀ {H5 : Hp}, Same H4 H5 → DGet H5 d (.ref b) (some (.ref t)) := fun {H5} s5 => by
          have := DGet.t (k := key (x % 2 ^ r) (x / (2 ^ r) ^ pat.length)) (s5 _ _ hd4) (s5 _ _ hbb)
          rw [e1] at this
          exact this
        refine iteF ?_
        refine ⟨_, rfl, _, rfl, d, _, rfl, dg' fun _ _ e => e, t, _, 0, _, rfl, rfl, SqT.of ht, at0, _, rfl, _, _, rfl, rfl, _, rfl, ?_⟩
        refine ite2 (fun c => ?_) (fun c => ?_)
        · have c' : q.1 > pc (2 ^ r) pat pat.length x := of_decide_eq_true c
          refine ⟨_, rfl, (by show 2 ≤ sizeLine; decide), fun t5 ht5 => ?_⟩
          have s5 := same_new ht5 (.tup [.int (pc (2 ^ r) pat pat.length x), .int 1])
          refine ⟨_, rfl, _, rfl, d, _, rfl, DPut.t (s5 _ _ hd4) (s5 _ _ hbb) (small1000 (by omega)), ?_⟩
          exact put (pc (2 ^ r) pat pat.length x, 1) t5 _ none s5 upd_same (by rw [z]; unfold upd1; simp only [if_pos c'])
        · have c' : ¬ q.1 > pc (2 ^ r) pat pat.length x := fun e => c (decide_eq_true e)
          refine ⟨_, rfl, _, rfl, d, _, rfl, dg' fun _ _ e => e, t, _, 0, _, rfl, rfl, SqT.of ht, at0, _, rfl, rfl, _, rfl, ?_⟩
          refine ite2 (fun c2 => ?_) (fun c2 => ?_)
          · have c2' : q.1 = pc (2 ^ r) pat pat.length x := V.int.inj (of_decide_eq_true c2)
            refine ⟨_, rfl, _, rfl, _, rfl, d, _, rfl, dg' fun _ _ e => e, t, _, 1, _, rfl, rfl, SqT.of ht, at1, _, _, rfl, rfl, (by show 2 ≤ sizeLine; decide), fun t5 ht5 => ?_⟩
            have s5 := same_new ht5 (.tup [.int (pc (2 ^ r) pat pat.length x), .int (q.2 + 1)])
            refine ⟨_, rfl, _, rfl, d, _, rfl, DPut.t (s5 _ _ hd4) (s5 _ _ hbb) (small1000 (by omega)), ?_⟩
            exact put (pc (2 ^ r) pat pat.length x, q.2 + 1) t5 _ none s5 upd_same (by rw [z]; unfold upd1; simp only [if_neg c', if_pos c2'])
          · have c2' : ¬ q.1 = pc (2 ^ r) pat pat.length x := fun e => c2 (decide_eq_true (congrArg V.int e))
            refine ⟨kvs, _, _, _, _, _, _, rfl, s4, hd4, by omega, hO, fun s t' => ?_⟩
            rw [acc]
            by_cases cc : x % 2 ^ r = s ∧ x / (2 ^ r) ^ pat.length = t'
            · obtain ⟨rfl, rfl⟩ := cc
              rw [if_pos ⟨rfl, rfl⟩, z]
              unfold upd1
              simp only [if_neg c', if_neg c2']
              exact ⟨.ref t, e1, t, rfl, ht⟩
            · rw [if_neg cc]
              exact hK4 s t'
  · rintro σ H2 ⟨kvs, v4, v5, v6, v7, v8, v9, rfl, s2, hd2, hkl, hO, hK⟩
    refine ⟨_, rfl, kk d kvs H2 s2 hd2 hO fun s t hs ht => ?_⟩
    have := hK s t
    rw [← hNN, acc_all n0 g0 _ hs ht, ← stepM_best n0 g0 hs ht] at this
    exact this
end
end KS

namespace KS
open PySem L2
/-! the long run: the mathematics -/
def stv (n : Nat) (L : Nat → Nat → Int) (f : Nat → Int) (t : Nat) : Int := lowR n fun s => f s + L s t
/-- least sums by k + 1 steps -/
def Dk (n : Nat) (L : Nat → Nat → Int) (s : Nat) : Nat → Nat → Int
  | 0 => L s
  | k + 1 => stv n L (Dk n L s k)
/-- a walk's sum -/
def wsum (L : Nat → Nat → Int) (c : Nat → Nat) : Nat → Int
  | 0 => 0
  | j + 1 => wsum L c j + L (c j) (c (j + 1))
theorem wsum_congr {L : Nat → Nat → Int} {c d : Nat → Nat} : ∀ j, (∀ i, i ≤ j → c i = d i) → wsum L c j = wsum L d j
  | 0, _ => rfl
  | j + 1, h => by
    show wsum L c j + L (c j) (c (j + 1)) = wsum L d j + L (d j) (d (j + 1))
    rw [wsum_congr j fun i hi => h i (by omega), h j (by omega), h (j + 1) (by omega)]
theorem wsum_shift (L : Nat → Nat → Int) (c : Nat → Nat) (a : Nat) : ∀ j, wsum L c (a + j) = wsum L c a + wsum L (fun i => c (a + i)) j
  | 0 => by show wsum L c a = wsum L c a + 0; omega
  | j + 1 => by
    show wsum L c (a + j) + L (c (a + j)) (c (a + j + 1)) = _
    rw [wsum_shift L c a j]
    show _ = wsum L c a + (wsum L (fun i => c (a + i)) j + L (c (a + j)) (c (a + (j + 1))))
    rw [Nat.add_assoc a j 1]
    omega
def ext (c : Nat → Nat) (k t : Nat) : Nat → Nat := fun i => if i ≤ k then c i else t
theorem ext_lt {n : Nat} {c : Nat → Nat} (cn : ∀ i, c i < n) {k t : Nat} (ht : t < n) (i : Nat) : ext c k t i < n := by
  unfold ext
  split
  · exact cn i
  · exact ht
theorem wsum_ext (L : Nat → Nat → Int) (c : Nat → Nat) (k t : Nat) : wsum L (ext c k t) (k + 1) = wsum L c k + L (c k) t := by
  show wsum L (ext c k t) k + L (ext c k t k) (ext c k t (k + 1)) = _
  have e1 : ext c k t k = c k := by unfold ext; rw [if_pos (Nat.le_refl _)]
  have e2 : ext c k t (k + 1) = t := by unfold ext; rw [if_neg (by omega)]
  rw [e1, e2, wsum_congr k fun i hi => by unfold ext; rw [if_pos hi]]
theorem Dk_low {n : Nat} (hn : 0 < n) (L : Nat → Nat → Int) (c : Nat → Nat) (cn : ∀ i, c i < n) : ∀ k, Dk n L (c 0) k (c (k + 1)) ≤ wsum L c (k + 1)
  | 0 => by show L (c 0) (c 1) ≤ 0 + L (c 0) (c 1); omega
  | k + 1 => by
    have ih := Dk_low hn L c cn k
    have := (lowR_spec hn fun u => Dk n L (c 0) k u + L u (c (k + 1 + 1))).2 _ (cn (k + 1))
    have e : Dk n L (c 0) (k + 1) (c (k + 1 + 1)) = lowR n fun u => Dk n L (c 0) k u + L u (c (k + 1 + 1)) := rfl
    rw [e]
    show _ ≤ wsum L c (k + 1) + L (c (k + 1)) (c (k + 1 + 1))
    omega
/-- least sums by j steps from anywhere -/
def En (n : Nat) (W : Nat → Nat → Int) : Nat → Nat → Int
  | 0 => fun _ => 0
  | j + 1 => stv n W (En n W j)
theorem En_walk {n : Nat} (hn : 0 < n) (W : Nat → Nat → Int) : ∀ j t, t < n → ∃ c : Nat → Nat, c j = t ∧ (∀ i, c i < n) ∧ wsum W c j = En n W j t
  | 0, t, ht => ⟨fun _ => t, rfl, fun _ => ht, rfl⟩
  | j + 1, t, ht => by
    obtain ⟨⟨u, hu, eu⟩, _⟩ := lowR_spec hn fun u => En n W j u + W u t
    obtain ⟨c, cj, cn, cs⟩ := En_walk hn W j u hu
    refine ⟨ext c j t, by unfold ext; rw [if_neg (by omega)], ext_lt cn ht, ?_⟩
    rw [wsum_ext, cs, cj]
    exact eu
theorem En_low {n : Nat} (hn : 0 < n) (W : Nat → Nat → Int) (c : Nat → Nat) (cn : ∀ i, c i < n) : ∀ j, En n W j (c j) ≤ wsum W c j
  | 0 => Int.le_refl _
  | j + 1 => by
    have ih := En_low hn W c cn j
    have := (lowR_spec hn fun u => En n W j u + W u (c (j + 1))).2 _ (cn j)
    have e : En n W (j + 1) (c (j + 1)) = lowR n fun u => En n W j u + W u (c (j + 1)) := rfl
    rw [e]
    show _ ≤ wsum W c j + W (c j) (c (j + 1))
    omega
/-- what the program keeps as slopes -/
def sl (n : Nat) (W : Nat → Nat → Int) : Nat → Nat → Int
  | 0 => fun _ => 0
  | k + 1 => fun t => if stv n W (sl n W k) t < sl n W k t then stv n W (sl n W k) t else sl n W k t
theorem sl_le {n : Nat} (W : Nat → Nat → Int) (k t : Nat) : sl n W (k + 1) t ≤ sl n W k t ∧ sl n W (k + 1) t ≤ stv n W (sl n W k) t := by
  show (if _ then _ else _) ≤ _ ∧ (if _ then _ else _) ≤ _
  split <;> constructor <;> omega
theorem sl_mono {n : Nat} (W : Nat → Nat → Int) (k t : Nat) : ∀ j, sl n W (k + j) t ≤ sl n W k t
  | 0 => Int.le_refl _
  | j + 1 => Int.le_trans (sl_le W (k + j) t).1 (sl_mono W k t j)
theorem sl_En {n : Nat} (hn : 0 < n) (W : Nat → Nat → Int) : ∀ k t, t < n → sl n W k t ≤ En n W k t
  | 0, t, _ => Int.le_refl _
  | k + 1, t, ht => by
    obtain ⟨⟨u, hu, eu⟩, _⟩ := lowR_spec hn fun u => En n W k u + W u t
    have h1 := (lowR_spec hn fun u => sl n W k u + W u t).2 u hu
    have h2 := (sl_le (n := n) W k t).2
    have ih := sl_En hn W k u hu
    have e1 : stv n W (sl n W k) t = lowR n fun u => sl n W k u + W u t := rfl
    have e2 : En n W (k + 1) t = lowR n fun u => En n W k u + W u t := rfl
    rw [e2, ← eu]
    rw [e1] at h2
    show _ ≤ En n W k u + W u t
    omega
theorem sl_at {n : Nat} (hn : 0 < n) (W : Nat → Nat → Int) : ∀ k t, t < n → ∃ j, j ≤ k ∧ sl n W k t = En n W j t ∨ (∃ j, j ≤ k ∧ En n W j t ≤ sl n W k t)
  | 0, t, _ => ⟨0, .inl ⟨Nat.le_refl _, rfl⟩⟩
  | k + 1, t, ht => by
    refine ⟨0, .inr ?_⟩
    have old : ∀ u, u < n → ∃ j, j ≤ k ∧ En n W j u ≤ sl n W k u := fun u hu => by
      obtain ⟨j, h⟩ := sl_at hn W k u hu
      rcases h with ⟨a, b⟩ | h
      · exact ⟨j, a, by omega⟩
      · exact h
    by_cases c : stv n W (sl n W k) t < sl n W k t
    · have e : sl n W (k + 1) t = stv n W (sl n W k) t := if_pos c
      obtain ⟨⟨u, hu, eu⟩, _⟩ := lowR_spec hn fun u => sl n W k u + W u t
      obtain ⟨j, hj, le⟩ := old u hu
      have h1 := (lowR_spec hn fun u => En n W j u + W u t).2 u hu
      refine ⟨j + 1, by omega, ?_⟩
      rw [e]
      have e1 : stv n W (sl n W k) t = lowR n fun u => sl n W k u + W u t := rfl
      have e2 : En n W (j + 1) t = lowR n fun u => En n W j u + W u t := rfl
      rw [e1, e2, ← eu]
      show _ ≤ sl n W k u + W u t
      have h1' : lowR n (fun u => En n W j u + W u t) ≤ En n W j u + W u t := h1
      omega
    · have e : sl n W (k + 1) t = sl n W k t := if_neg c
      obtain ⟨j, hj, le⟩ := old t ht
      exact ⟨j, by omega, by rw [e]; exact le⟩
theorem sl_from {n : Nat} (hn : 0 < n) (W : Nat → Nat → Int) (k t : Nat) (ht : t < n) : ∃ j, j ≤ k ∧ En n W j t ≤ sl n W k t := by
  obtain ⟨j, h⟩ := sl_at hn W k t ht
  rcases h with ⟨a, b⟩ | h
  · exact ⟨j, a, by omega⟩
  · exact h
theorem sub_le : ∀ {a b : List Nat}, a.Nodup → (∀ x ∈ a, x ∈ b) → a.length ≤ b.length
  | [], _, _, _ => Nat.zero_le _
  | x :: a, b, nd, h => by
    obtain ⟨n1, n2⟩ := List.nodup_cons.mp nd
    have hx := h x (by simp)
    have ih := sub_le (a := a) (b := b.erase x) n2 fun y hy => (List.mem_erase_of_ne (fun e : y = x => n1 (e ▸ hy))).mpr (h y (List.mem_cons_of_mem _ hy))
    rw [List.length_erase_of_mem hx] at ih
    have : 0 < b.length := List.length_pos_of_mem hx
    rw [List.length_cons]
    omega
theorem len_le {a : List Nat} {N : Nat} (nd : a.Nodup) (h : ∀ x ∈ a, x < N) : a.length ≤ N := by
  have := sub_le (b := List.range N) nd fun x hx => List.mem_range.mpr (h x hx)
  rwa [List.length_range] at this
/-- two of n + 1 numbers below n are alike -/
theorem pigeon {n : Nat} (c : Nat → Nat) (cn : ∀ i, c i < n) : ∃ i j, i < j ∧ j ≤ n ∧ c i = c j := by
  by_cases h : ∃ i j, i < j ∧ j ≤ n ∧ c i = c j
  · exact h
  · exfalso
    have nd : ((List.range (n + 1)).map c).Nodup := by
      rw [List.nodup_iff_pairwise_ne, List.pairwise_map]
      refine List.Pairwise.imp_of_mem (fun {a b} ha hb lt e => ?_) List.pairwise_lt_range
      exact h ⟨a, b, lt, by have := List.mem_range.mp hb; omega, e⟩
    have := len_le nd (N := n) fun x hx => by
      obtain ⟨i, _, rfl⟩ := List.mem_map.mp hx
      exact cn i
    rw [List.length_map, List.length_range] at this
    omega
/-- no loop is below nought -/
def NoNeg (n : Nat) (W : Nat → Nat → Int) : Prop := ∀ (c : Nat → Nat) (k : Nat), (∀ i, c i < n) → 1 ≤ k → k ≤ n → c 0 = c k → 0 ≤ wsum W c k
def cutW (c : Nat → Nat) (i d : Nat) : Nat → Nat := fun m => if m ≤ i then c m else c (m + d)
theorem cut_lt {n : Nat} {c : Nat → Nat} (cn : ∀ i, c i < n) {i d : Nat} (m : Nat) : cutW c i d m < n := by
  unfold cutW
  split
  · exact cn _
  · exact cn _
theorem wsum_cut (W : Nat → Nat → Int) (c : Nat → Nat) (i d : Nat) (e : c i = c (i + d)) : ∀ j, wsum W (cutW c i d) (i + j) = wsum W c i + wsum W (fun m => c (i + d + m)) j
  | 0 => by
    show wsum W (cutW c i d) i = wsum W c i + 0
    rw [wsum_congr (d := c) i fun m hm => by unfold cutW; rw [if_pos hm]]
    omega
  | j + 1 => by
    show wsum W (cutW c i d) (i + j) + W (cutW c i d (i + j)) (cutW c i d (i + j + 1)) = wsum W c i + (wsum W (fun m => c (i + d + m)) j + W (c (i + d + j)) (c (i + d + (j + 1))))
    rw [wsum_cut W c i d e j]
    have e1 : cutW c i d (i + j) = c (i + d + j) := by
      unfold cutW
      by_cases z : j = 0
      · subst z
        rw [if_pos (by omega), Nat.add_zero, Nat.add_zero]
        exact e
      · rw [if_neg (by omega)]
        congr 1
        omega
    have e2 : cutW c i d (i + j + 1) = c (i + d + (j + 1)) := by
      unfold cutW
      rw [if_neg (by omega)]
      congr 1
      omega
    rw [e1, e2]
    omega
theorem En_n {n : Nat} (hn : 0 < n) {W : Nat → Nat → Int} (nn : NoNeg n W) {t : Nat} (ht : t < n) : ∃ j, j < n ∧ En n W j t ≤ En n W n t := by
  obtain ⟨c, cj, cn, cs⟩ := En_walk hn W n t ht
  obtain ⟨i, j, ij, jn, e⟩ := pigeon c cn
  obtain ⟨d, rfl⟩ : ∃ d, j = i + d := ⟨j - i, by omega⟩
  obtain ⟨r, er⟩ : ∃ r, n = i + d + r := ⟨n - (i + d), by omega⟩
  refine ⟨i + r, by omega, ?_⟩
  have loop : 0 ≤ wsum W (fun m => c (i + m)) d := nn (fun m => c (i + m)) d (fun m => cn _) (by omega) (by omega) e
  have low := En_low hn W (cutW c i d) (cut_lt cn) (i + r)
  have ec : cutW c i d (i + r) = t := by
    unfold cutW
    by_cases z : r = 0
    · rw [if_pos (by omega), z, Nat.add_zero, e]
      rw [← cj]
      congr 1
      omega
    · rw [if_neg (by omega), ← cj]
      congr 1
      omega
  rw [ec, wsum_cut W c i d e] at low
  have s1 := wsum_shift W c (i + d) r
  have s2 := wsum_shift W c i d
  rw [← er] at s1
  have e5 : (fun m => c (i + d + m)) = fun m => c (i + d + m) := rfl
  rw [← cs]
  omega
/-- the slopes show it -/
theorem sl_ok {n : Nat} (hn : 0 < n) {W : Nat → Nat → Int} (nn : NoNeg n W) {s t : Nat} (hs : s < n) (ht : t < n) : sl n W n t ≤ sl n W n s + W s t := by
  obtain ⟨j, hj, le⟩ := sl_from hn W n s hs
  obtain ⟨j', hj', le'⟩ : ∃ j', j' < n ∧ En n W j' s ≤ sl n W n s := by
    by_cases z : j < n
    · exact ⟨j, z, le⟩
    · have e : j = n := by omega
      subst e
      obtain ⟨j', h1, h2⟩ := En_n hn nn hs
      exact ⟨j', h1, by omega⟩
  have h1 := (lowR_spec hn fun u => En n W j' u + W u t).2 s hs
  have e2 : En n W (j' + 1) t = lowR n fun u => En n W j' u + W u t := rfl
  have h2 := sl_En hn W (j' + 1) t ht
  have h3 := sl_mono (n := n) W (j' + 1) t (n - (j' + 1))
  rw [Nat.add_sub_cancel' (by omega)] at h3
  have h1' : lowR n (fun u => En n W j' u + W u t) ≤ En n W j' s + W s t := h1
  omega
theorem wsum_lin (L : Nat → Nat → Int) (b t : Int) (c : Nat → Nat) : ∀ k, wsum (fun s u => b * L s u - t) c k = b * wsum L c k - t * k
  | 0 => by show (0 : Int) = b * 0 - t * 0; omega
  | k + 1 => by
    show wsum (fun s u => b * L s u - t) c k + (b * L (c k) (c (k + 1)) - t) = b * (wsum L c k + L (c k) (c (k + 1))) - t * ((k + 1 : Nat) : Int)
    rw [wsum_lin L b t c k, Int.mul_add]
    have : t * ((k + 1 : Nat) : Int) = t * k + t := by push_cast; rw [Int.mul_add, Int.mul_one]
    omega
/-- of all loops the one with the least average -/
structure Least (n : Nat) (L : Nat → Nat → Int) (tot : Int) (st sa : Nat) : Prop where
  s1 : 1 ≤ st
  sn : st ≤ n
  an : sa < n
  is : tot = Dk n L sa (st - 1) sa
  low : ∀ k s, k < n → s < n → tot * ((k + 1 : Nat) : Int) ≤ Dk n L s k s * st
  few : ∀ k s, k + 1 < st → s < n → tot * ((k + 1 : Nat) : Int) < Dk n L s k s * st
theorem Least.noneg {n : Nat} (hn : 0 < n) {L : Nat → Nat → Int} {tot top bot g : Int} {st sa : Nat} (h : Least n L tot st sa) (g0 : 0 < g) (e1 : tot = top * g) (e2 : (st : Int) = bot * g) : NoNeg n (fun s u => bot * L s u - top) := fun c k cn k1 kn ek => by
  rw [wsum_lin]
  obtain ⟨j, rfl⟩ : ∃ j, k = j + 1 := ⟨k - 1, by omega⟩
  have h1 := Dk_low hn L c cn j
  rw [← ek] at h1
  have h2 := h.low j (c 0) (by omega) (cn 0)
  rw [e1, e2] at h2
  have h3 : g * (top * ((j + 1 : Nat) : Int)) ≤ g * (bot * Dk n L (c 0) j (c 0)) := by
    have a1 : top * g * ((j + 1 : Nat) : Int) = g * (top * ((j + 1 : Nat) : Int)) := by rw [Int.mul_comm top g, Int.mul_assoc]
    have a2 : Dk n L (c 0) j (c 0) * (bot * g) = g * (bot * Dk n L (c 0) j (c 0)) := by rw [Int.mul_comm, Int.mul_comm bot g, Int.mul_assoc]
    rw [← a1, ← a2]
    exact h2
  have h4 := Int.le_of_mul_le_mul_left h3 g0
  have b0 : 0 ≤ bot := by
    have s1 := h.s1
    by_cases z : 0 ≤ bot
    · exact z
    · have : bot * g < 0 := Int.mul_neg_of_neg_of_pos (by omega) g0
      omega
  have h5 := Int.mul_le_mul_of_nonneg_left h1 b0
  omega
end KS


namespace KS
open PySem L2
local macro_rules | `(tactic| walk_at "cc") => `(tactic| first | exact ⟨by decide, by decide⟩ | (show (0 : Int) < _; decide) | (show (0 : Int) < _; omega) | (show (0 : Int) ≤ _; omega) | exact ⟨by decide, by decide, by decide⟩ | exact ⟨by omega, by omega, by decide⟩ | exact Or.inl ⟨by decide, by decide⟩ | exact Or.inl ⟨by omega, by omega⟩)
local macro_rules | `(tactic| walk_at "rd") => `(tactic| repeat (first | refine ⟨_, rfl, ?_⟩ | refine ⟨_, _, rfl, rfl, ?_⟩ | refine ⟨rfl, ?_⟩ | (refine ⟨?cc, ?_⟩; (case cc => walk_at "cc"))))

structure TxtL (mg : Str → Option Value) : Prop extends Txt mg where
  n_reversed : mg "reversed" = none
  n_all : mg "all" = none
/-! as they lie -/
def IvAt (H : Hp) (v : V) (xs : List Int) : Prop := ∃ a, v = .ref a ∧ H a = some (.lst (xs.map V.int))
theorem IvAt.mono {H H' : Hp} {v : V} {xs : List Int} (h : IvAt H v xs) (s : Same H H') : IvAt H' v xs := by
  obtain ⟨a, e, z⟩ := h
  exact ⟨a, e, s _ _ z⟩
def IvX (q : Addr) (H : Hp) (v : V) (xs : List Int) : Prop := ∃ a, v = .ref a ∧ a ≠ q ∧ H a = some (.lst (xs.map V.int))
theorem IvX.off {q : Addr} {H : Hp} {v : V} {xs : List Int} (h : IvX q H v xs) : IvAt H v xs := by
  obtain ⟨a, e, _, z⟩ := h
  exact ⟨a, e, z⟩
theorem IvX.mono {q : Addr} {H H' : Hp} {v : V} {xs : List Int} (h : IvX q H v xs) (s : Same H H') : IvX q H' v xs := by
  obtain ⟨a, e, n, z⟩ := h
  exact ⟨a, e, n, s _ _ z⟩
theorem IvX.put {q : Addr} {H : Hp} {v : V} {xs : List Int} {us : List V} (h : IvX q H v xs) : IvX q (upd H q (.lst us)) v xs := by
  obtain ⟨a, e, n, z⟩ := h
  exact ⟨a, e, n, by rw [upd_ne n]; exact z⟩
def vecI (n : Nat) (f : Nat → Int) : List Int := (List.range n).map f
theorem vecI_len (n : Nat) (f : Nat → Int) : (vecI n f).length = n := by unfold vecI; rw [List.length_map, List.length_range]
theorem vecI_at {n : Nat} (f : Nat → Int) {i : Nat} (h : i < n) : (vecI n f)[i]? = some (f i) := by unfold vecI; rw [List.getElem?_map, List.getElem?_range h]; rfl
theorem vecI_v {n : Nat} (f : Nat → Int) {i : Nat} (h : i < n) : ((vecI n f).map V.int)[i]? = some (.int (f i)) := by rw [List.getElem?_map, vecI_at f h]; rfl
theorem vecV_len (n : Nat) (f : Nat → Int) : ((vecI n f).map V.int).length = n := by rw [List.length_map, vecI_len]
def tabI (n : Nat) (L : Nat → Nat → Int) : List (List Int) := (List.range n).map fun s => vecI n (L s)
theorem tabI_len (n : Nat) (L : Nat → Nat → Int) : (tabI n L).length = n := by unfold tabI; rw [List.length_map, List.length_range]
theorem tabI_at {n : Nat} (L : Nat → Nat → Int) {i : Nat} (h : i < n) : (tabI n L)[i]? = some (vecI n (L i)) := by unfold tabI; rw [List.getElem?_map, List.getElem?_range h]; rfl
def LwAt (H : Hp) (v : V) (n : Nat) (L : Nat → Nat → Int) : Prop := ∃ a ys, v = .ref a ∧ H a = some (.lst ys) ∧ LsAt IvAt H ys (tabI n L)
theorem LwAt.mono {H H' : Hp} {v : V} {n : Nat} {L : Nat → Nat → Int} (h : LwAt H v n L) (s : Same H H') : LwAt H' v n L := by
  obtain ⟨a, ys, e, z, l⟩ := h
  exact ⟨a, ys, e, s _ _ z, l.imp fun _ _ q => q.mono s⟩
theorem Ls_at {H : Hp} {n : Nat} {L : Nat → Nat → Int} {ys : List V} (h : LsAt IvAt H ys (tabI n L)) {i : Nat} (hi : i < n) : ∃ c, ys[i]? = some (.ref c) ∧ H c = some (.lst ((vecI n (L i)).map V.int)) := by
  obtain ⟨y, hy, c, rfl, hc⟩ := h.2 i _ (tabI_at L hi)
  exact ⟨c, hy, hc⟩
theorem Ls_len {H : Hp} {n : Nat} {L : Nat → Nat → Int} {ys : List V} (h : LsAt IvAt H ys (tabI n L)) : ys.length = n := by rw [h.1, tabI_len]
def spLows : Sp := fun vs H Q _ => ∃ (v : V) (n : Nat) (M : Mt), vs = [v] ∧ TbAt H v (tabOf n M) ∧ n ≤ 8 ∧ ∀ u H', Same H H' → LwAt H' u n (fun s t => (M s t).1) → Q u H'
def spLT : Sp := fun vs H Q _ => ∃ (v tv : V) (n t : Nat) (f : Nat → Int) (L : Nat → Nat → Int), vs = [v, tv, .int (t : Int)] ∧ IvAt H v (vecI n f) ∧ LwAt H tv n L ∧ t < n ∧ n ≤ 8 ∧ ∀ H', Same H H' → Q (.int (stv n L f t)) H'
def spOS : Sp := fun vs H Q _ => ∃ (v tv : V) (n : Nat) (f : Nat → Int) (L : Nat → Nat → Int), vs = [v, tv] ∧ IvAt H v (vecI n f) ∧ LwAt H tv n L ∧ n ≤ 8 ∧ ∀ u H', Same H H' → IvAt H' u (vecI n (stv n L f)) → Q u H'
def spSF : Sp := fun vs H Q _ => ∃ (tv : V) (n s : Nat) (L : Nat → Nat → Int), vs = [tv, .int (s : Int)] ∧ LwAt H tv n L ∧ s < n ∧ n ≤ 8 ∧ ∀ u H', Same H H' → LwAt H' u n (Dk n L s) → Q u H'
section
variable {P : Program} {w : World} {K : PySem.W.Frag} {mg : Str → Option Value} {base : Heap}
theorem sc_lows_of : FnScope ["table", "found", "row"] ["table"] (defScope s_lows_of) := ⟨rfl, rfl, rfl, by decide +kernel, rfl, by decide +kernel, by decide +kernel⟩
theorem ok_lows {f : Addr} {fd : FuncData} (F : Fun K "lows_of" "lows_of" s_lows_of f fd) (T : TxtL mg) : FnOk P w K mg base CX0 1 f fd ["table"] spLows := by
  refine F.ok sc_lows_of (fun vs H Q E h => ?_) (fun cdv A outer s H vs Q E hr h => ?_)
  · obtain ⟨v, n, M, rfl, _⟩ := h
    rfl
  obtain ⟨v, n, M, rfl, ⟨a, ys, rfl, hA, hL⟩, h8, kk⟩ := h
  have yl : ys.length = n := by rw [hL.1]; unfold tabOf; rw [List.length_map, List.length_range]
  refine ⟨_, (pss_cons (ps_set (i := 1) sc_lows_of.nd rfl (Or.inl rfl) (pe_lst pa_nil))
      (pss_cons (ps_for PassesOwn.never rfl (pi_list (pv 0)) (pg_name (i := 2) sc_lows_of.nd rfl (Or.inl rfl)) (pss_one (ps_expr (pe_bm PySem.F.plainAttrs_list PySem.F.slot_list_append PySem.F.type_list_append mt_append (pv 1) (pa_cons (pe_comp rfl (fr := []) (by exact CompOk.plain (by rfl) (by decide +kernel) (by rfl) (by decide +kernel) (by rfl) (by decide +kernel)) (pi_list (pv 2)) (fun C ex s H => (pe_ix (ixK_tup (K := K) rfl) (pv 0) pe_int (fun _ _ => rfl)))) pa_nil)))))
      (pss_one (ps_ret (pv 1))))), ?_⟩
  refine ⟨(by show 0 ≤ sizeLine; decide), fun q hq => ?_⟩
  have s1 := same_new hq (.lst [])
  refine ⟨_, rfl, a, rfl, ⟨_, SqL.of (s1 _ _ hA)⟩, for_list (K := K) (xs := ys) (fun i σ H2 => ∃ v2 us, σ = [some (.ref a), some (.ref q), v2] ∧ Same H H2 ∧ H2 q = some (.lst us) ∧ LsAt (IvX q) H2 us ((List.range i).map fun s => vecI n fun t => (M s t).1)) ⟨_, _, rfl, s1, upd_same, LsAt.nil⟩ (fun i σ H2 _ z => ?_) ?_ ?_⟩
  · obtain ⟨v2, us, rfl, s2, _⟩ := z
    exact SqL.of (s2 _ _ hA)
  · rintro i x σ H2 hx ⟨v2, us, rfl, s2, hq2, hU⟩
    have hi : i < n := by have := (List.getElem?_eq_some_iff.mp hx).1; omega
    obtain ⟨row, hrow, b, es, rfl, hb, hR⟩ := hL.get hx
    have erow : row = (List.range n).map (M i) := by
      unfold tabOf at hrow
      rw [List.getElem?_map, List.getElem?_range hi] at hrow
      exact (Option.some.inj hrow).symm
    have rl : row.length = n := by rw [erow, List.length_map, List.length_range]
    have el : es.length = n := by rw [hR.1, rl]
    have hul : us.length = i := by rw [hU.1, List.length_map, List.length_range]
    refine ⟨_, rfl, .inl ⟨rfl, _, SqL.of hq2⟩, _, rfl, b, rfl, ⟨_, SqL.of (s2 _ _ hb)⟩, comp_list (K := K) (xs := es) (fun j zs H3 => Same H2 H3 ∧ zs = ((row.take j).map (·.1)).map V.int) (Nat.le_of_lt (small1000 (by omega))) ⟨fun _ _ e => e, rfl⟩ (fun j zs H3 _ z => SqL.of (z.1 _ _ (s2 _ _ hb))) ?_ ?_⟩
    · rintro j x zs H3 hx ⟨s3, rfl⟩
      obtain ⟨p, hp, t, rfl, ht⟩ := hR.get hx
      refine ⟨_, rfl, t, _, 0, _, rfl, rfl, SqT.of (s3 _ _ (s2 _ _ ht)), at0, s3, ?_⟩
      rw [List.take_add_one, hp, List.map_append, List.map_append]
      rfl
    rintro zs H3 _ ⟨s3, rfl⟩ D hD
    rw [el, show row.take n = row by rw [← rl, List.take_length]]
    have sD := same_new hD (.lst ((row.map (·.1)).map V.int))
    have s2D := s3.trans sD
    have hqD := s2D _ _ hq2
    have nD : D ≠ q := (ne_of_none (s3 _ _ hq2) hD).symm
    refine ⟨q, us, _, rfl, rfl, hqD, small1000 (by omega), ?_⟩
    refine ⟨_, _, rfl, same_upd (s2.trans s2D) hq _, upd_same, ?_⟩
    rw [rng_succ]
    have er : row.map (·.1) = vecI n fun t => (M i t).1 := by rw [erow, List.map_map]; rfl
    exact ((hU.imp fun _ _ y => y.mono s2D).snoc (x := vecI n fun t => (M i t).1) ⟨D, rfl, nD, by rw [← er]; exact upd_same⟩).imp fun _ _ y => y.put
  · rintro σ H2 ⟨v2, us, rfl, s2, hq2, hU⟩
    rw [yl] at hU
    exact ⟨_, rfl, kk _ _ s2 ⟨q, us, rfl, hq2, hU.imp fun _ _ y => y.off⟩⟩
theorem sc_least_to : FnScope ["ahead", "lows", "then"] ["ahead", "lows", "then"] (defScope s_least_to) := ⟨rfl, rfl, rfl, by decide +kernel, rfl, by decide +kernel, by decide +kernel⟩
theorem ok_lt {f : Addr} {fd : FuncData} (F : Fun K "least_to" "least_to" s_least_to f fd) (T : TxtL mg) : FnOk P w K mg base CX0 1 f fd ["ahead", "lows", "then"] spLT := by
  refine F.ok sc_least_to (fun vs H Q E h => ?_) (fun cdv A outer s H vs Q E hr h => ?_)
  · obtain ⟨v, tv, n, t, g, L, rfl, _⟩ := h
    rfl
  obtain ⟨v, tv, n, t, g, L, rfl, ⟨a, rfl, hA⟩, ⟨b, ys, rfl, hB, hL⟩, ht, h8, kk⟩ := h
  have yl := Ls_len hL
  have vl := vecV_len n g
  refine ⟨_, (pss_one (ps_ret (pe_callB (call_minL rfl) (by rfl) T.n_min bt_min (pa_cons (pe_compG rfl (fr := [("then", 2)]) (xs := ["so_far", "row"]) (CompG.of (by rfl) (by decide +kernel) (by rfl) (by decide +kernel) (by intro p hp; simp only [List.mem_cons, List.not_mem_nil, or_false] at hp; rcases hp with rfl <;> exact ⟨rfl, rfl⟩) (by decide +kernel) (by intro p hp; simp only [List.mem_cons, List.not_mem_nil, or_false] at hp; rcases hp with rfl <;> rfl)) (pi_zip rfl T.n_zip (pa_cons (pv 0) (pa_cons (pv 1) pa_nil))) (fun C ex s H => (pgK_tup (n := 2) (K := K) rfl rfl (pgs_cons (pg_name (i := 0) (show (["so_far", "row", "then"] : List Str).Nodup from by decide +kernel) rfl (Or.inl rfl)) (pgs_cons (pg_name (i := 1) (show (["so_far", "row", "then"] : List Str).Nodup from by decide +kernel) rfl (Or.inl rfl)) pgs_nil)))) (fun C ex s H => pts_nil) (fun C ex s H => (pe_op op_add (pv 0) (pe_ix (ixK_list (K := K) rfl) (pv 1) (pv 2) (fun _ _ => rfl))))) pa_nil)))), ?_⟩
  refine ⟨_, rfl, _, rfl, a, b, rfl, ⟨_, SqL.of hA⟩, ⟨_, SqL.of hB⟩, compG_zip (K := K) (xs := (vecI n g).map V.int) (zs := ys) (fun i zs H4 => Same H H4 ∧ zs = ((List.range i).map fun s => g s + L s t).map V.int) (Nat.le_of_lt (small1000 (by omega))) (by omega) ⟨fun _ _ e => e, rfl⟩ (fun i zs H4 _ z => ⟨SqL.of (z.1 _ _ hA), SqL.of (z.1 _ _ hB)⟩) ?_ ?_ ?_⟩
  · rintro i x z zs H4 T2 hx hz ⟨s4, rfl⟩ hT2
    have hi : i < n := by have := (List.getElem?_eq_some_iff.mp hz).1; omega
    rw [vecI_v g hi] at hx
    cases hx
    obtain ⟨c, hc1, hc⟩ := Ls_at hL hi
    rw [hz] at hc1
    cases hc1
    have s5 := s4.trans (same_new hT2 (.tup [.int (g i), .ref c]))
    refine ⟨T2, _, rfl, SqT.of upd_same, rfl, _, _, rfl, _, _, rfl, rfl, rfl, yesT ?_⟩
    refine ⟨_, rfl, _, rfl, _, rfl, c, _, _, _, rfl, rfl, SqL.of (s5 _ _ hc), atI_nat (vecI_v (L i) ht), _, _, rfl, rfl, s5, ?_⟩
    rw [rng_succ, List.map_append]
    rfl
  · rintro zs H4 ⟨s4, rfl⟩ D hD
    rw [vl]
    refine ⟨D, (List.range n).map fun s => g s + L s t, rfl, SqL.of upd_same, ?_, fun m hm hl => ?_⟩
    · rw [List.length_map, List.length_range]; omega
    have em := lowL_is hm hl
    rw [em]
    exact kk _ (s4.trans (same_new hD _))
  · rintro i zs H4 ⟨_, rfl⟩
    rw [List.length_map, List.length_map, List.length_range]
    exact Nat.le_refl _
theorem sc_one_step_on : FnScope ["ahead", "lows"] ["ahead", "lows"] (defScope s_one_step_on) := ⟨rfl, rfl, rfl, by decide +kernel, rfl, by decide +kernel, by decide +kernel⟩
theorem ok_os {f f1 : Addr} {fd fd1 : FuncData} (F : Fun K "one_step_on" "one_step_on" s_one_step_on f fd) (T : TxtL mg) (G_least_to : Cal P w K mg base 1 "least_to" ["ahead", "lows", "then"] spLT f1 fd1) : FnOk P w K mg base CX0 2 f fd ["ahead", "lows"] spOS := by
  refine F.ok sc_one_step_on (fun vs H Q E h => ?_) (fun cdv A outer s H vs Q E hr h => ?_)
  · obtain ⟨v, tv, n, g, L, rfl, _⟩ := h
    rfl
  obtain ⟨v, tv, n, g, L, rfl, hV, hT, h8, kk⟩ := h
  obtain ⟨b, ys, rfl, hB, hL⟩ := id hT
  have yl := Ls_len hL
  refine ⟨_, (pss_one (ps_ret (pe_compG rfl (fr := [("lows", 1), ("ahead", 0)]) (xs := ["then"]) (CompG.of (by rfl) (by decide +kernel) (by rfl) (by decide +kernel) (by intro p hp; simp only [List.mem_cons, List.not_mem_nil, or_false] at hp; rcases hp with rfl | rfl <;> exact ⟨rfl, rfl⟩) (by decide +kernel) (by intro p hp; simp only [List.mem_cons, List.not_mem_nil, or_false] at hp; rcases hp with rfl | rfl <;> rfl)) (pi_range1 rfl T.n_range (pa_cons (pe_callB call_len_seq (by rfl) T.n_len bt_len (pa_cons (pv 1) pa_nil)) pa_nil)) (fun C ex s H => (pg_name (i := 0) (show (["then", "lows", "ahead"] : List Str).Nodup from by decide +kernel) rfl (Or.inl rfl))) (fun C ex s H => pts_nil) (fun C ex s H => (pe_call G_least_to.ok (hr.mono (by decide)) rfl G_least_to.mg G_least_to.kp G_least_to.bn .nil pass0 (pa_cons (pv 2) (pa_cons (pv 1) (pa_cons (pv 0) pa_nil)))))))), ?_⟩
  refine ⟨_, rfl, b, _, rfl, .inl (SqL.of hB), _, rfl, by omega, by omega, compG_range (k := ys.length) (fun i zs H4 => Same H H4 ∧ zs = ((List.range i).map (stv n L g)).map V.int) (Nat.le_of_lt (small1000 (by omega))) ⟨fun _ _ e => e, rfl⟩ ?_ ?_ ?_⟩
  · rintro i zs H4 hi ⟨s4, rfl⟩
    have e0 : (0 : Int) + (i : Int) = (i : Int) := Int.zero_add _
    rw [e0]
    refine ⟨rfl, yesT ⟨_, rfl, _, rfl, _, rfl, v, .ref b, n, i, g, L, rfl, hV.mono s4, hT.mono s4, by omega, h8, fun H5 s5 => ⟨s4.trans s5, ?_⟩⟩⟩
    rw [rng_succ, List.map_append]
    rfl
  · rintro zs H4 ⟨s4, rfl⟩ D hD
    rw [yl]
    exact kk _ _ (s4.trans (same_new hD _)) ⟨D, rfl, upd_same⟩
  · rintro i zs H4 ⟨_, rfl⟩
    rw [List.length_map, List.length_map, List.length_range]
    exact Nat.le_refl _
theorem sc_sums_from : FnScope ["lows", "start", "sums"] ["lows", "start"] (defScope s_sums_from) := ⟨rfl, rfl, rfl, by decide +kernel, rfl, by decide +kernel, by decide +kernel⟩
theorem ok_sf {f f1 : Addr} {fd fd1 : FuncData} (F : Fun K "sums_from" "sums_from" s_sums_from f fd) (T : TxtL mg) (G_one_step_on : Cal P w K mg base 2 "one_step_on" ["ahead", "lows"] spOS f1 fd1) : FnOk P w K mg base CX0 3 f fd ["lows", "start"] spSF := by
  refine F.ok sc_sums_from (fun vs H Q E h => ?_) (fun cdv A outer s H vs Q E hr h => ?_)
  · obtain ⟨tv, n, st, L, rfl, _⟩ := h
    rfl
  obtain ⟨tv, n, st, L, rfl, hT, hs, h8, kk⟩ := h
  obtain ⟨b, ys, rfl, hB, hL⟩ := id hT
  have yl := Ls_len hL
  obtain ⟨c, hc1, hc⟩ := Ls_at hL hs
  refine ⟨_, (pss_cons (ps_set (i := 2) sc_sums_from.nd rfl (Or.inl rfl) (pe_lst (pa_cons (pe_callTy call_list_of (by rfl) T.n_list bt_list (pa_cons (pe_ix ix_list (pv 0) (pv 1) (fun _ _ => rfl)) pa_nil)) pa_nil)))
      (pss_cons (ps_while PassesOwn.never (pt_cmpR op_lt (pe_callB call_len_seq (by rfl) T.n_len bt_len (pa_cons (pv 2) pa_nil)) (pe_callB call_len_seq (by rfl) T.n_len bt_len (pa_cons (pv 0) pa_nil)) (nomark _)) (pss_one (ps_expr (pe_bm PySem.F.plainAttrs_list PySem.F.slot_list_append PySem.F.type_list_append mt_append (pv 2) (pa_cons (pe_call G_one_step_on.ok (hr.mono (by decide)) rfl G_one_step_on.mg G_one_step_on.kp G_one_step_on.bn .nil pass0 (pa_cons (pe_ix ix_list (pv 2) (pe_un un_neg pe_int) (fun _ _ => rfl)) (pa_cons (pv 0) pa_nil))) pa_nil)))))
      (pss_one (ps_ret (pv 2))))), ?_⟩
  refine ⟨_, rfl, _, rfl, b, ys, _, _, rfl, rfl, SqL.of hB, atI_nat hc1, c, _, rfl, .inl (SqL.of hc), fun p hp => ?_⟩
  have s1 := same_new hp (.lst ((vecI n (L st)).map V.int))
  refine ⟨(by show 1 ≤ sizeLine; decide), fun q hq => ?_⟩
  have s2 := same_new hq (.lst [.ref p])
  have s12 := s1.trans s2
  have hqn : H q = none := by
    cases e : H q with
    | none => rfl
    | some o => have := s1 _ _ e; rw [hq] at this; cases this
  have npq : p ≠ q := ne_of_none upd_same hq
  refine while_by (fun σ H3 => ∃ (us : List V) (k : Nat), σ = [some (.ref b), some (.int (st : Int)), some (.ref q)] ∧ k < n ∧ Same H H3 ∧ H3 q = some (.lst us) ∧ LsAt (IvX q) H3 us ((List.range (k + 1)).map fun j => vecI n (Dk n L st j))) (fun _ H3 => match H3 q with | some (.lst us) => n - us.length | _ => 0) ⟨[.ref p], 0, rfl, by omega, s12, upd_same, ?_⟩ ?_ ?_
  · have : LsAt (IvX q) (upd (upd H p (.lst ((vecI n (L st)).map V.int))) q (.lst [.ref p])) ([] ++ [.ref p]) ([] ++ [vecI n (L st)]) := LsAt.nil.snoc ⟨p, rfl, npq, by rw [upd_ne npq]; exact upd_same⟩
    exact this
  · rintro σ H3 ⟨us, k, rfl, hk, s3, hq3, hU⟩
    have ul : us.length = k + 1 := by rw [hU.1, List.length_map, List.length_range]
    refine ⟨_, rfl, q, _, rfl, .inl (SqL.of hq3), _, rfl, b, _, rfl, .inl (SqL.of (s3 _ _ hB)), _, _, rfl, rfl, _, rfl, ?_⟩
    refine ite2 (fun c => ?_) (fun c => ?_)
    · have c' : us.length < ys.length := by have := of_decide_eq_true c; omega
      obtain ⟨y, hy, a2, rfl, na, ha2⟩ := hU.2 k (vecI n (Dk n L st k)) (by rw [List.getElem?_map, List.getElem?_range (by omega)]; rfl)
      have hlast : atI us (-1) = some (.ref a2) := by
        have e : us = us.take k ++ [.ref a2] := by
          have := List.take_append_drop k us
          have d : us.drop k = [.ref a2] := by
            apply List.ext_getElem?
            intro i
            rw [List.getElem?_drop]
            cases i with
            | zero => exact hy
            | succ i => rw [List.getElem?_eq_none (by omega)]; rfl
          rw [d] at this
          exact this.symm
        rw [e]
        exact atI_last _ _
      refine ⟨_, rfl, .inl ⟨rfl, _, SqL.of hq3⟩, _, rfl, _, rfl, q, us, _, _, rfl, rfl, SqL.of hq3, hlast, _, rfl, .ref a2, .ref b, n, Dk n L st k, L, rfl, ⟨a2, rfl, ha2⟩, hT.mono s3, h8, fun u H4 s4 hu => ?_⟩
      obtain ⟨d, rfl, hd⟩ := hu
      have hq4 := s4 _ _ hq3
      refine ⟨q, us, _, rfl, rfl, hq4, small1000 (by omega), ?_⟩
      have nd : d ≠ q := fun e => by
        rw [e, hq4] at hd
        have e2 : us = (vecI n (stv n L (Dk n L st k))).map V.int := by injection (Option.some.inj hd)
        rw [e2, List.getElem?_map] at hy
        cases h9 : (vecI n (stv n L (Dk n L st k)))[k]? with
        | none => rw [h9] at hy; cases hy
        | some z => rw [h9] at hy; cases hy
      refine ⟨⟨us ++ [.ref d], k + 1, rfl, by omega, same_upd (s3.trans s4) hqn _, upd_same, ?_⟩, ?_⟩
      · rw [rng_succ _ (k + 1)]
        exact ((hU.imp fun _ _ y => y.mono s4).snoc (x := vecI n (Dk n L st (k + 1))) ⟨d, rfl, nd, hd⟩).imp fun _ _ y => y.put
      · simp only [upd_same, hq3, List.length_append, List.length_singleton]
        omega
    · have c' : ¬ us.length < ys.length := fun z => c (decide_eq_true (by omega))
      have ek : k + 1 = n := by omega
      rw [ek] at hU
      exact ⟨_, rfl, kk _ _ s3 ⟨q, us, rfl, hq3, hU.imp fun _ _ y => y.off⟩⟩
  · rintro σ H4 Q1 Q2 hi ⟨v1, e1, a1, a2, a3, a4, v2, e2, b1, b2, b3, b4, i', j', e3, e4, bb, e5, q'⟩
    exact ⟨v1, e1, a1, a2, a3, a4, v2, e2, b1, b2, b3, b4, i', j', e3, e4, bb, e5, hi _ _ q'⟩
end
end KS


namespace KS
open PySem L2
local macro_rules | `(tactic| walk_at "cc") => `(tactic| first | exact ⟨by decide, by decide⟩ | (show (0 : Int) < _; decide) | (show (0 : Int) < _; omega) | (show (0 : Int) ≤ _; omega) | exact ⟨by decide, by decide, by decide⟩ | exact ⟨by omega, by omega, by decide⟩ | exact Or.inl ⟨by decide, by decide⟩ | exact Or.inl ⟨by omega, by omega⟩)
local macro_rules | `(tactic| walk_at "rd") => `(tactic| repeat (first | refine ⟨_, rfl, ?_⟩ | refine ⟨_, _, rfl, rfl, ?_⟩ | refine ⟨rfl, ?_⟩ | (refine ⟨?cc, ?_⟩; (case cc => walk_at "cc"))))

def SmAt (H : Hp) (v : V) (n : Nat) (L : Nat → Nat → Int) : Prop := ∃ a ys, v = .ref a ∧ H a = some (.lst ys) ∧ LsAt (fun H v i => LwAt H v n (Dk n L i)) H ys (List.range n)
/-- the best of those that were looked at -/
structure LeastD (n : Nat) (L : Nat → Nat → Int) (tot : Int) (st sa i j : Nat) : Prop where
  s1 : 1 ≤ st
  sn : st ≤ n
  an : sa < n
  is : tot = Dk n L sa (st - 1) sa
  le : st ≤ i + 1
  low : ∀ k s, s < n → (k < i ∨ k = i ∧ s < j) → tot * ((k + 1 : Nat) : Int) ≤ Dk n L s k s * st
  few : ∀ k s, k + 1 < st → s < n → tot * ((k + 1 : Nat) : Int) < Dk n L s k s * st
theorem LeastD.better {n : Nat} {L : Nat → Nat → Int} {tot : Int} {st sa i j : Nat} (h : LeastD n L tot st sa i j) (hi : i < n) (hj : j < n) (c : Dk n L j i j * st < tot * ((i + 1 : Nat) : Int)) : LeastD n L (Dk n L j i j) (i + 1) j i (j + 1) := by
  have p1 : (0 : Int) < (st : Int) := by have := h.s1; omega
  have step : ∀ (k : Nat) (D : Int), tot * ((k + 1 : Nat) : Int) ≤ D * st → Dk n L j i j * ((k + 1 : Nat) : Int) < D * ((i + 1 : Nat) : Int) := fun k D hD => by
    have pk : (0 : Int) < ((k + 1 : Nat) : Int) := by omega
    have pi : (0 : Int) < ((i + 1 : Nat) : Int) := by omega
    have a1 : (Dk n L j i j * st) * ((k + 1 : Nat) : Int) < (tot * ((i + 1 : Nat) : Int)) * ((k + 1 : Nat) : Int) := Int.mul_lt_mul_of_pos_right c pk
    have a2 : (tot * ((k + 1 : Nat) : Int)) * ((i + 1 : Nat) : Int) ≤ (D * st) * ((i + 1 : Nat) : Int) := Int.mul_le_mul_of_nonneg_right hD (by omega)
    have e1 : (Dk n L j i j * st) * ((k + 1 : Nat) : Int) = st * (Dk n L j i j * ((k + 1 : Nat) : Int)) := by rw [Int.mul_comm (Dk n L j i j) st, Int.mul_assoc]
    have e2 : (tot * ((i + 1 : Nat) : Int)) * ((k + 1 : Nat) : Int) = (tot * ((k + 1 : Nat) : Int)) * ((i + 1 : Nat) : Int) := by rw [Int.mul_assoc, Int.mul_comm ((i + 1 : Nat) : Int), ← Int.mul_assoc]
    have e3 : (D * st) * ((i + 1 : Nat) : Int) = st * (D * ((i + 1 : Nat) : Int)) := by rw [Int.mul_comm D st, Int.mul_assoc]
    rw [e1, e2] at a1
    rw [e3] at a2
    exact Int.lt_of_mul_lt_mul_left (Int.lt_of_lt_of_le a1 a2) (by omega)
  refine ⟨by omega, by omega, hj, rfl, by omega, fun k s hs hd => ?_, fun k s hk hs => ?_⟩
  · by_cases z : k = i ∧ s = j
    · obtain ⟨rfl, rfl⟩ := z
      exact Int.le_refl _
    · exact Int.le_of_lt (step k _ (h.low k s hs (by omega)))
  · exact step k _ (h.low k s hs (by omega))
theorem LeastD.stay {n : Nat} {L : Nat → Nat → Int} {tot : Int} {st sa i j : Nat} (h : LeastD n L tot st sa i j) (c : ¬ Dk n L j i j * st < tot * ((i + 1 : Nat) : Int)) : LeastD n L tot st sa i (j + 1) := by
  refine ⟨h.s1, h.sn, h.an, h.is, h.le, fun k s hs hd => ?_, h.few⟩
  by_cases z : k = i ∧ s = j
  · obtain ⟨rfl, rfl⟩ := z
    omega
  · exact h.low k s hs (by omega)
theorem LeastD.first {n : Nat} (L : Nat → Nat → Int) (hn : 0 < n) : LeastD n L (Dk n L 0 0 0) 1 0 0 1 := by
  refine ⟨by omega, by omega, hn, rfl, by omega, fun k s hs hd => ?_, fun k s hk hs => by omega⟩
  obtain ⟨rfl, rfl⟩ : k = 0 ∧ s = 0 := by omega
  exact Int.le_refl _
theorem LeastD.turn {n : Nat} {L : Nat → Nat → Int} {tot : Int} {st sa i : Nat} (h : LeastD n L tot st sa i n) : LeastD n L tot st sa (i + 1) 0 :=
  ⟨h.s1, h.sn, h.an, h.is, by have := h.le; omega, fun k s hs hd => h.low k s hs (by omega), h.few⟩
theorem LeastD.done {n : Nat} {L : Nat → Nat → Int} {tot : Int} {st sa : Nat} (h : LeastD n L tot st sa n 0) : Least n L tot st sa :=
  ⟨h.s1, h.sn, h.an, h.is, fun k s hk hs => h.low k s hs (.inl hk), h.few⟩
def BsAt (H : Hp) (v : V) (n : Nat) (L : Nat → Nat → Int) (i j : Nat) : Prop := (v = .non ∧ i = 0 ∧ j = 0) ∨ ∃ (t : Addr) (tot : Int) (st sa : Nat), v = .ref t ∧ H t = some (.tup [.int tot, .int (st : Int), .int (sa : Int)]) ∧ LeastD n L tot st sa i j
theorem BsAt.mono {H H' : Hp} {v : V} {n : Nat} {L : Nat → Nat → Int} {i j : Nat} (h : BsAt H v n L i j) (s : Same H H') : BsAt H' v n L i j := by
  rcases h with h | ⟨t, tot, st, sa, a, b, c⟩
  · exact .inl h
  · exact .inr ⟨t, tot, st, sa, a, s _ _ b, c⟩
def spCW : Sp := fun vs H Q _ => ∃ (v : V) (n : Nat) (L : Nat → Nat → Int), vs = [v] ∧ SmAt H v n L ∧ 0 < n ∧ n ≤ 8 ∧ ∀ (t : Addr) H' (tot : Int) (st sa : Nat), Same H H' → H' t = some (.tup [.int tot, .int (st : Int), .int (sa : Int)]) → Least n L tot st sa → Q (.ref t) H'
/-- a loop that has the sum -/
structure Loop (n : Nat) (L : Nat → Nat → Int) (tot : Int) (st sa : Nat) (c : Nat → Nat) : Prop where
  c0 : c 0 = sa
  cs : c st = sa
  cn : ∀ i, c i < n
  sm : wsum L c st = tot
def loopI (st : Nat) (c : Nat → Nat) : List Int := (List.range st).map fun i => ((c i : Nat) : Int)
def spLB : Sp := fun vs H Q _ => ∃ (tv dv : V) (n sa st : Nat) (L : Nat → Nat → Int), vs = [tv, dv, .int (sa : Int), .int (st : Int)] ∧ LwAt H tv n L ∧ LwAt H dv n (Dk n L sa) ∧ sa < n ∧ n ≤ 8 ∧ 1 ≤ st ∧ st ≤ n ∧ ∀ (p : Addr) H' c, Same H H' → H' p = some (.lst ((loopI st c).map V.int)) → Loop n L (Dk n L sa (st - 1) sa) st sa c → Q (.ref p) H'
def spCD : Sp := fun vs H Q _ => ∃ (a b : Nat), vs = [.int (a : Int), .int (b : Int)] ∧ 0 < b ∧ Q (.int ((Nat.gcd a b : Nat) : Int)) H
def wOf (L : Nat → Nat → Int) (top bot : Int) : Nat → Nat → Int := fun s u => bot * L s u - top
def spSlp : Sp := fun vs H Q _ => ∃ (tv : V) (n : Nat) (top bot : Int) (L : Nat → Nat → Int), vs = [tv, .int top, .int bot] ∧ LwAt H tv n L ∧ 0 < n ∧ n ≤ 8 ∧ 0 ≤ bot ∧ bot ≤ 8 ∧ ∀ (p : Addr) H', Same H H' → H' p = some (.lst ((vecI n (sl n (wOf L top bot) n)).map V.int)) → Q (.ref p) H'
section
variable {P : Program} {w : World} {K : PySem.W.Frag} {mg : Str → Option Value} {base : Heap}
theorem sc_cheapest_walk : FnScope ["sums", "best", "steps", "start", "told", "total"] ["sums"] (defScope s_cheapest_walk) := ⟨rfl, rfl, rfl, by decide +kernel, rfl, by decide +kernel, by decide +kernel⟩
theorem ok_cw {f : Addr} {fd : FuncData} (F : Fun K "cheapest_walk" "cheapest_walk" s_cheapest_walk f fd) (T : TxtL mg) : FnOk P w K mg base CX0 1 f fd ["sums"] spCW := by
  refine F.ok sc_cheapest_walk (fun vs H Q E h => ?_) (fun cdv A outer s H vs Q E hr h => ?_)
  · obtain ⟨v, n, L, rfl, _⟩ := h
    rfl
  obtain ⟨v, n, L, rfl, ⟨a, ys, rfl, hA, hL⟩, hn, h8, kk⟩ := h
  have yl : ys.length = n := by rw [hL.1, List.length_range]
  refine ⟨_, (pss_cons (ps_set (i := 1) sc_cheapest_walk.nd rfl (Or.inl rfl) pe_non)
      (pss_cons (ps_for PassesOwn.never rfl (pi_range2 rfl T.n_range (pa_cons pe_int (pa_cons (pe_op op_add (pe_callB call_len_seq (by rfl) T.n_len bt_len (pa_cons (pv 0) pa_nil)) pe_int) pa_nil))) (pg_name (i := 2) sc_cheapest_walk.nd rfl (Or.inl rfl)) (pss_one (ps_for PassesOwn.never rfl (pi_enum rfl T.n_enumerate (pa_cons (pv 0) pa_nil)) (pg_tup rfl (pgs_cons (pg_name (i := 3) sc_cheapest_walk.nd rfl (Or.inl rfl)) (pgs_cons (pg_name (i := 4) sc_cheapest_walk.nd rfl (Or.inl rfl)) pgs_nil))) (pss_cons (ps_set (i := 5) sc_cheapest_walk.nd rfl (Or.inl rfl) (pe_ix ix_list (pe_ix ix_list (pv 4) (pe_op op_sub (pv 2) pe_int) (fun _ _ => rfl)) (pv 3) (fun _ _ => rfl)))
      (pss_one (ps_if (PW.pt (pw_or (pt_cmpR op_isN (pv 1) pe_non (nomark _)) (pw_or1 (pt_cmpR op_lt (pe_op op_mul (pv 5) (pe_ix ix_tup (pv 1) pe_int (fun _ _ => rfl))) (pe_op op_mul (pe_ix ix_tup (pv 1) pe_int (fun _ _ => rfl)) (pv 2)) (nomark _))))) (pss_one (ps_set (i := 1) sc_cheapest_walk.nd rfl (Or.inl rfl) (pe_tup (pa_cons (pv 5) (pa_cons (pv 2) (pa_cons (pv 3) pa_nil)))))) pss_nil))))))
      (pss_one (ps_ret (pv 1))))), ?_⟩
  refine ⟨_, rfl, a, _, rfl, .inl (SqL.of hA), _, _, rfl, rfl, ?_⟩
  refine ⟨_, _, rfl, ⟨by omega, by omega, by omega, by omega⟩, ?_⟩
  have en : (((ys.length : Nat) : Int) + 1 - 1).toNat = n := by omega
  rw [en]
  refine for_range (lo := 1) (n := n) (fun i σ H2 => ∃ vb v2 v3 v4 v5, σ = [some (.ref a), some vb, v2, v3, v4, v5] ∧ Same H H2 ∧ BsAt H2 vb n L i 0) ⟨_, _, _, _, _, rfl, fun _ _ e => e, .inl ⟨rfl, rfl, rfl⟩⟩ ?_ ?_
  · rintro i σ H2 hi ⟨vb, v2, v3, v4, v5, rfl, s2, hb⟩
    have e1 : (1 : Int) + (i : Int) - 1 = (i : Int) := by omega
    have e2 : (1 : Int) + (i : Int) = ((i + 1 : Nat) : Int) := by omega
    refine ⟨_, rfl, a, rfl, ⟨_, SqL.of (s2 _ _ hA)⟩, for_enum (K := K) (xs := ys) (fun j σ H3 => ∃ vb v3 v4 v5, σ = [some (.ref a), some vb, some (.int (1 + (i : Int))), v3, v4, v5] ∧ Same H H3 ∧ BsAt H3 vb n L i j) ⟨_, _, _, _, rfl, s2, hb⟩ (fun j σ H3 _ z => ?_) ?_ ?_⟩
    · obtain ⟨_, _, _, _, _, s3, _⟩ := z
      exact SqL.of (s3 _ _ hA)
    · rintro j x σ H3 T3 hx ⟨vb, v3, v4, v5, rfl, s3, hb⟩ hT3
      have hj : j < n := by have := (List.getElem?_eq_some_iff.mp hx).1; omega
      obtain ⟨j', hj', c, zs, rfl, hc, hM⟩ := hL.get hx
      rw [List.getElem?_range hj] at hj'
      cases hj'
      obtain ⟨d, hd1, hd⟩ := Ls_at hM hi
      have sT := same_new hT3 (.tup [.int (j : Int), .ref c])
      have s4 := s3.trans sT
      have hb4 := hb.mono sT
      refine ⟨T3, _, rfl, SqT.of upd_same, rfl, _, _, rfl, _, _, rfl, rfl, ?_⟩
      refine ⟨_, rfl, _, rfl, _, _, rfl, rfl, c, zs, _, _, rfl, rfl, SqL.of (s4 _ _ hc), by rw [e1]; exact atI_nat hd1, _, rfl, d, _, _, _, rfl, rfl, SqL.of (s4 _ _ hd), atI_nat (vecI_v _ hj), ?_⟩
      rcases hb4 with ⟨rfl, rfl, rfl⟩ | ⟨t, tot, st, sa, rfl, ht, hl⟩
      · refine ⟨_, rfl, rfl, _, rfl, iteT (iteT ?_)⟩
        refine ⟨_, rfl, _, rfl, _, rfl, (by show 3 ≤ sizeLine; decide), fun t5 ht5 => ?_⟩
        have s5 := same_new ht5 (.tup [.int (Dk n L 0 0 0), .int (1 + ((0 : Nat) : Int)), .int ((0 : Nat) : Int)])
        exact ⟨_, _, _, _, rfl, s4.trans s5, .inr ⟨t5, _, 1, 0, rfl, upd_same, LeastD.first L hn⟩⟩
      · have st8 := hl.sn
        refine ⟨_, rfl, rfl, _, rfl, ite2 (fun z => absurd (of_decide_eq_true z) (by intro z; cases z)) (fun _ => ?_)⟩
        refine ⟨_, rfl, _, rfl, t, _, 1, _, rfl, rfl, SqT.of ht, rfl, _, _, rfl, rfl, .inr ⟨by omega, by omega⟩, _, rfl, t, _, 0, _, rfl, rfl, SqT.of ht, rfl, _, rfl, _, _, rfl, rfl, .inr ⟨by omega, by omega⟩, _, _, rfl, rfl, _, rfl, ?_⟩
        refine ite2 (fun z => ?_) (fun z => ?_)
        · have z' := of_decide_eq_true z
          rw [e2] at z'
          refine ⟨_, rfl, _, rfl, _, rfl, (by show 3 ≤ sizeLine; decide), fun t5 ht5 => ?_⟩
          have s5 := same_new ht5 (.tup [.int (Dk n L j i j), .int (1 + (i : Int)), .int (j : Int)])
          exact ⟨_, _, _, _, rfl, s4.trans s5, .inr ⟨t5, _, i + 1, j, rfl, by rw [← e2]; exact upd_same, hl.better hi hj z'⟩⟩
        · have z' : ¬ Dk n L j i j * st < tot * ((i + 1 : Nat) : Int) := fun y => z (decide_eq_true (by rw [e2]; exact y))
          exact ⟨_, _, _, _, rfl, s4, .inr ⟨t, tot, st, sa, rfl, ht, hl.stay z'⟩⟩
    · rintro σ H3 ⟨vb, v3, v4, v5, rfl, s3, hb⟩
      refine ⟨_, _, _, _, _, rfl, s3, ?_⟩
      rcases hb with ⟨_, _, h⟩ | ⟨t, tot, st, sa, rfl, ht, hl⟩
      · omega
      · rw [yl] at hl
        exact .inr ⟨t, tot, st, sa, rfl, ht, hl.turn⟩
  · rintro σ H2 ⟨vb, v2, v3, v4, v5, rfl, s2, hb⟩
    rcases hb with ⟨_, h, _⟩ | ⟨t, tot, st, sa, rfl, ht, hl⟩
    · omega
    · exact ⟨_, rfl, kk _ _ _ _ _ s2 ht hl.done⟩
theorem sc_common_divisor : FnScope ["one", "two", "greater", "lesser", "rest"] ["one", "two"] (defScope s_common_divisor) := ⟨rfl, rfl, rfl, by decide +kernel, rfl, by decide +kernel, by decide +kernel⟩
theorem ok_cd {f : Addr} {fd : FuncData} (F : Fun K "common_divisor" "common_divisor" s_common_divisor f fd) : FnOk P w K mg base CX0 1 f fd ["one", "two"] spCD := by
  refine F.ok sc_common_divisor (fun vs H Q E h => ?_) (fun cdv A outer s H vs Q E hr h => ?_)
  · obtain ⟨a, b, rfl, _⟩ := h
    rfl
  obtain ⟨a, b, rfl, hb, kk⟩ := h
  refine ⟨_, (pss_cons (ps_set (i := 2) sc_common_divisor.nd rfl (Or.inl rfl) (pv 0))
      (pss_cons (ps_set (i := 3) sc_common_divisor.nd rfl (Or.inl rfl) (pv 1))
      (pss_cons (ps_while PassesOwn.never (pt_cmpR op_ne (pv 3) pe_int (nomark _)) (pss_cons (ps_set (i := 4) sc_common_divisor.nd rfl (Or.inl rfl) (pe_op op_mod (pv 2) (pv 3)))
      (pss_cons (ps_set (i := 2) sc_common_divisor.nd rfl (Or.inl rfl) (pv 3))
      (pss_one (ps_set (i := 3) sc_common_divisor.nd rfl (Or.inl rfl) (pv 4))))))
      (pss_one (ps_ret (pv 2)))))), ?_⟩
  refine ⟨_, rfl, _, rfl, while_by (fun σ H3 => ∃ (g l : Nat) (v4 : Option V), σ = [some (.int (a : Int)), some (.int (b : Int)), some (.int (g : Int)), some (.int (l : Int)), v4] ∧ H3 = H ∧ Nat.gcd g l = Nat.gcd a b) (fun σ _ => match σ with | [_, _, _, some (.int k), _] => k.toNat | _ => 0) ⟨a, b, _, rfl, rfl, rfl⟩ ?_ ?_⟩
  · rintro σ H3 ⟨g, l, v4, rfl, rfl, hg⟩
    refine ⟨_, rfl, rfl, _, rfl, ?_⟩
    by_cases c : l = 0
    · subst c
      refine iteNS rfl ⟨_, rfl, ?_⟩
      rw [Nat.gcd_zero_right] at hg
      rw [hg]
      exact kk
    · have hl : 0 < l := by omega
      refine ite2 (fun _ => ?_) (fun z => absurd (by simpa using c) z)
      refine ⟨_, rfl, _, rfl, _, _, rfl, rfl, (by show (0 : Int) < (l : Int); omega), _, rfl, _, rfl, ?_⟩
      have em : (g : Int) % (l : Int) = ((g % l : Nat) : Int) := by push_cast; rfl
      have lt : g % l < l := Nat.mod_lt _ hl
      refine ⟨⟨l, g % l, _, rfl, rfl, ?_⟩, by show ((g % l : Nat) : Int).toNat < ((l : Nat) : Int).toNat; omega⟩
      rw [← hg, Nat.gcd_comm g l, Nat.gcd_rec l g, Nat.gcd_comm]
  · rintro σ H4 Q1 Q2 hi ⟨v1, e1, e2, b, e4, q'⟩
    exact ⟨v1, e1, e2, b, e4, hi _ _ q'⟩
theorem sc_loop_back : FnScope ["lows", "told", "start", "steps", "loop", "then", "step", "ways"] ["lows", "told", "start", "steps"] (defScope s_loop_back) := ⟨rfl, rfl, rfl, by decide +kernel, rfl, by decide +kernel, by decide +kernel⟩
theorem ok_lb {f : Addr} {fd : FuncData} (F : Fun K "loop_back" "loop_back" s_loop_back f fd) (T : TxtL mg) : FnOk P w K mg base CX0 1 f fd ["lows", "told", "start", "steps"] spLB := by
  refine F.ok sc_loop_back (fun vs H Q E h => ?_) (fun cdv A outer s H vs Q E hr h => ?_)
  · obtain ⟨tv, dv, n, sa, st, L, rfl, _⟩ := h
    rfl
  obtain ⟨tv, dv, n, sa, st, L, rfl, ⟨a, ys, rfl, hA, hL⟩, ⟨b, zs, rfl, hB, hM⟩, hs, h8, s1, sn, kk⟩ := h
  have hn : 0 < n := by omega
  refine ⟨_, (pss_cons (ps_set (i := 4) sc_loop_back.nd rfl (Or.inl rfl) (pe_lst pa_nil))
      (pss_cons (ps_set (i := 5) sc_loop_back.nd rfl (Or.inr rfl) (pv 2))
      (pss_cons (ps_set (i := 6) sc_loop_back.nd rfl (Or.inr rfl) (pe_op op_sub (pv 3) pe_int))
      (pss_cons (ps_while PassesOwn.never (pt_cmpR op_gt (pv 6) pe_int (nomark _)) (pss_cons (ps_setCompG (i := 7) rfl sc_loop_back.nd rfl rfl (fr := [("told", 1), ("then", 5), ("step", 6), ("lows", 0)]) (xs := ["signs", "low"]) (CompG.of (by rfl) (by decide +kernel) (by rfl) (by decide +kernel) (by intro p hp; simp only [List.mem_cons, List.not_mem_nil, or_false] at hp; rcases hp with rfl | rfl | rfl | rfl <;> exact ⟨rfl, rfl⟩) (by decide +kernel) (by intro p hp; simp only [List.mem_cons, List.not_mem_nil, or_false] at hp; rcases hp with rfl | rfl | rfl | rfl <;> rfl)) (pi_enum rfl T.n_enumerate (pa_cons (pe_ix ix_list (pv 1) (pe_op op_sub (pv 6) pe_int) (fun _ _ => rfl)) pa_nil)) (fun C ex s H => (pgK_tup (n := 2) (K := K) rfl rfl (pgs_cons (pg_name (i := 0) (show (["signs", "low", "told", "then", "step", "lows"] : List Str).Nodup from by decide +kernel) rfl (Or.inl rfl)) (pgs_cons (pg_name (i := 1) (show (["signs", "low", "told", "then", "step", "lows"] : List Str).Nodup from by decide +kernel) rfl (Or.inl rfl)) pgs_nil)))) (fun C ex s H => (pts_one (pt_cmpR op_eq (pe_op op_add (pv 1) (pe_ix (ixK_list (K := K) rfl) (pe_ix (ixK_list (K := K) rfl) (pv 5) (pv 0) (fun _ _ => rfl)) (pv 3) (fun _ _ => rfl))) (pe_ix (ixK_list (K := K) rfl) (pe_ix (ixK_list (K := K) rfl) (pv 2) (pv 4) (fun _ _ => rfl)) (pv 3) (fun _ _ => rfl)) (nomark _)))) (fun C ex s H => (pv 0)))
      (pss_cons (ps_set (i := 5) sc_loop_back.nd rfl (Or.inr rfl) (pe_ix ix_list (pv 7) pe_int (fun _ _ => rfl)))
      (pss_cons (ps_expr (pe_bm PySem.F.plainAttrs_list PySem.F.slot_list_append PySem.F.type_list_append mt_append (pv 4) (pa_cons (pv 5) pa_nil)))
      (pss_one (ps_set (i := 6) sc_loop_back.nd rfl (Or.inr rfl) (pe_op op_sub (pv 6) pe_int)))))))
      (pss_cons (ps_expr (pe_bm PySem.F.plainAttrs_list PySem.F.slot_list_append PySem.F.type_list_append mt_append (pv 4) (pa_cons (pv 2) pa_nil)))
      (pss_one (ps_ret (pe_listrev rfl rfl T.n_list rfl T.n_reversed (pv 4))))))))), ?_⟩
  refine ⟨(by show 0 ≤ sizeLine; decide), fun q hq => ?_⟩
  have e0 : (st : Int) - 1 = ((st - 1 : Nat) : Int) := by omega
  refine ⟨_, rfl, _, rfl, _, _, rfl, rfl, ?_⟩
  refine while_by (fun σ H3 => ∃ (c : Nat → Nat) (m : Nat) (v7 : Option V), σ = [some (.ref a), some (.ref b), some (.int (sa : Int)), some (.int (st : Int)), some (.ref q), some (.int ((c (m + 1) : Nat) : Int)), some (.int (m : Int)), v7] ∧ Same H H3 ∧ m + 1 ≤ st ∧ (∀ i, c i < n) ∧ c st = sa ∧ Dk n L sa m (c (m + 1)) + wsum L (fun i => c (m + 1 + i)) (st - 1 - m) = Dk n L sa (st - 1) sa ∧ H3 q = some (.lst (((List.range (st - 1 - m)).map fun i => ((c (st - 1 - i) : Nat) : Int)).map V.int))) (fun σ _ => match σ with | [_, _, _, _, _, _, some (.int k), _] => k.toNat | _ => 0) ⟨fun _ => sa, st - 1, none, ?_, same_new hq _, by omega, fun _ => hs, rfl, ?_, ?_⟩ ?_ ?_
  · show _ = [some (V.ref a), some (V.ref b), some (V.int (sa : Int)), some (V.int (st : Int)), some (V.ref q), some (V.int (sa : Int)), some (V.int ((st - 1 : Nat) : Int)), none]
    rw [← e0]
    rfl
  · rw [Nat.sub_self]
    exact Int.add_zero _
  · rw [Nat.sub_self]
    exact upd_same
  · rintro σ H3 ⟨c, m, v7, rfl, s3, hm, cn, cs, hD, hq3⟩
    refine ⟨_, rfl, _, _, rfl, rfl, _, rfl, ?_⟩
    refine ite2 (fun z => ?_) (fun z => ?_)
    · have m0 : 0 < m := by have := of_decide_eq_true z; omega
      obtain ⟨k, rfl⟩ : ∃ k, m = k + 1 := ⟨m - 1, by omega⟩
      have ek : ((k + 1 : Nat) : Int) - 1 = (k : Int) := by omega
      obtain ⟨d, hd1, hd⟩ := Ls_at hM (show k < n by omega)
      obtain ⟨d2, hd21, hd2⟩ := Ls_at hM (show k + 1 < n by omega)
      have ct := cn (k + 1 + 1)
      generalize hth : c (k + 1 + 1) = th at ct hD
      refine ⟨_, rfl, _, rfl, _, _, rfl, rfl, b, zs, _, _, rfl, rfl, SqL.of (s3 _ _ hB), by rw [ek]; exact atI_nat hd1, ?_⟩
      have vl := vecV_len n (Dk n L sa k)
      refine ⟨d, rfl, ⟨_, SqL.of (s3 _ _ hd)⟩, compG_enum (K := K) (xs := (vecI n (Dk n L sa k)).map V.int) (fun i ws H4 => Same H3 H4 ∧ ws = (((List.range i).filter fun s => decide (Dk n L sa k s + L s th = Dk n L sa (k + 1) th)).map fun s => ((s : Nat) : Int)).map V.int) (Nat.le_of_lt (small1000 (by omega))) ⟨fun _ _ e => e, rfl⟩ (fun i ws H4 _ z => SqL.of (z.1 _ _ (s3 _ _ hd))) ?_ ?_ ?_⟩
      · rintro i x ws H4 T2 hx ⟨s4, rfl⟩ hT2
        have hi : i < n := by have := (List.getElem?_eq_some_iff.mp hx).1; omega
        rw [vecI_v _ hi] at hx
        cases hx
        obtain ⟨c1, hc11, hc1⟩ := Ls_at hL hi
        have s5 := s3.trans (s4.trans (same_new hT2 (.tup [.int (i : Int), .int (Dk n L sa k i)])))
        have s45 := s4.trans (same_new hT2 (.tup [.int (i : Int), .int (Dk n L sa k i)]))
        refine ⟨T2, _, rfl, SqT.of upd_same, rfl, _, _, rfl, _, _, rfl, rfl, rfl, ?_⟩
        refine ⟨_, rfl, _, rfl, _, rfl, a, ys, _, _, rfl, rfl, SqL.of (s5 _ _ hA), atI_nat hc11, _, rfl, c1, _, _, _, rfl, rfl, SqL.of (s5 _ _ hc1), atI_nat (vecI_v _ ct), _, _, rfl, rfl, ?_⟩
        refine ⟨_, rfl, _, rfl, b, zs, _, _, rfl, rfl, SqL.of (s5 _ _ hB), atI_nat hd21, _, rfl, d2, _, _, _, rfl, rfl, SqL.of (s5 _ _ hd2), atI_nat (vecI_v _ ct), rfl, _, rfl, ?_⟩
        rw [List.range_succ, List.filter_append]
        refine ite2 (fun z => ?_) (fun z => ?_)
        · have z' := V.int.inj (of_decide_eq_true z)
          refine ⟨_, rfl, s45, ?_⟩
          rw [List.filter_cons_of_pos (by exact decide_eq_true z'), List.map_append, List.map_append]
          rfl
        · have z' : ¬ Dk n L sa k i + L i th = Dk n L sa (k + 1) th := fun y => z (decide_eq_true (congrArg V.int y))
          refine ⟨s45, ?_⟩
          rw [List.filter_cons_of_neg (by simpa using z'), List.filter_nil, List.append_nil]
      · rintro ws H4 ⟨s4, rfl⟩ D hD4
        rw [vl]
        obtain ⟨u0, hu0, eu0⟩ := (lowR_spec hn fun u => Dk n L sa k u + L u th).1
        have mem : u0 ∈ (List.range n).filter fun s => decide (Dk n L sa k s + L s th = Dk n L sa (k + 1) th) := List.mem_filter.mpr ⟨List.mem_range.mpr hu0, decide_eq_true eu0⟩
        obtain ⟨u1, us, eu⟩ : ∃ u1 us, ((List.range n).filter fun s => decide (Dk n L sa k s + L s th = Dk n L sa (k + 1) th)) = u1 :: us := by
          cases h9 : ((List.range n).filter fun s => decide (Dk n L sa k s + L s th = Dk n L sa (k + 1) th)) with
          | nil => rw [h9] at mem; cases mem
          | cons x r => exact ⟨x, r, rfl⟩
        have hu1 : u1 ∈ (List.range n).filter fun s => decide (Dk n L sa k s + L s th = Dk n L sa (k + 1) th) := by rw [eu]; exact List.mem_cons_self ..
        obtain ⟨hu1n, hu1e⟩ := List.mem_filter.mp hu1
        have hu1n := List.mem_range.mp hu1n
        have hu1e := of_decide_eq_true hu1e
        rw [eu]
        have sD := same_new hD4 (.lst ((((u1 :: us).map fun s => ((s : Nat) : Int)).map V.int)))
        have s4D := s4.trans sD
        have hqD := s4D _ _ hq3
        refine ⟨_, rfl, D, _, 0, .int (u1 : Int), rfl, rfl, SqL.of upd_same, atI_nat (j := 0) rfl, ?_⟩
        refine ⟨_, rfl, .inl ⟨rfl, _, SqL.of hqD⟩, _, rfl, q, _, _, rfl, rfl, hqD, small1000 (by rw [List.length_map, List.length_map, List.length_range]; omega), ?_⟩
        refine ⟨_, rfl, _, _, rfl, rfl, ?_⟩
        obtain ⟨r, er⟩ : ∃ r, st - 1 - (k + 1) = r := ⟨_, rfl⟩
        have er2 : st - 1 - k = 1 + r := by omega
        rw [er] at hD
        refine ⟨⟨fun i => if i = k + 1 then u1 else c i, k, some (.ref D), ?_, ?_, by omega, fun i => ?_, ?_, ?_, ?_⟩, ?_⟩
        · show [some (V.ref a), some (V.ref b), some (V.int (sa : Int)), some (V.int (st : Int)), some (V.ref q), some (V.int (u1 : Int)), some (V.int (((k + 1 : Nat) : Int) - 1)), some (V.ref D)] = [some (V.ref a), some (V.ref b), some (V.int (sa : Int)), some (V.int (st : Int)), some (V.ref q), some (V.int (((if k + 1 = k + 1 then u1 else c (k + 1)) : Nat) : Int)), some (V.int (k : Int)), some (V.ref D)]
          rw [ek, if_pos rfl]
        · exact same_upd (s3.trans s4D) hq _
        · show (if i = k + 1 then u1 else c i) < n
          split
          · exact hu1n
          · exact cn i
        · show (if st = k + 1 then u1 else c st) = sa
          rw [if_neg (by omega)]
          exact cs
        · rw [er2, wsum_shift]
          have w1 : wsum L (fun i => if k + 1 + i = k + 1 then u1 else c (k + 1 + i)) 1 = L u1 th := by
            show (0 : Int) + L (if k + 1 + 0 = k + 1 then u1 else c (k + 1 + 0)) (if k + 1 + (0 + 1) = k + 1 then u1 else c (k + 1 + (0 + 1))) = _
            rw [if_pos (by omega), if_neg (by omega), Int.zero_add, ← hth]
          have w2 : wsum L (fun i => if k + 1 + (1 + i) = k + 1 then u1 else c (k + 1 + (1 + i))) r = wsum L (fun i => c (k + 1 + 1 + i)) r := wsum_congr r fun i _ => by rw [if_neg (by omega), ← Nat.add_assoc]
          show Dk n L sa k (if k + 1 = k + 1 then u1 else c (k + 1)) + (wsum L (fun i => if k + 1 + i = k + 1 then u1 else c (k + 1 + i)) 1 + wsum L (fun i => if k + 1 + (1 + i) = k + 1 then u1 else c (k + 1 + (1 + i))) r) = _
          rw [w1, w2, if_pos rfl]
          omega
        · rw [er2, Nat.add_comm 1 r, rng_succ, List.map_append]
          have l1 : (List.range r).map (fun i => (((if st - 1 - i = k + 1 then u1 else c (st - 1 - i)) : Nat) : Int)) = (List.range r).map fun i => ((c (st - 1 - i) : Nat) : Int) := List.map_congr_left fun i hi => by rw [if_neg (by have := List.mem_range.mp hi; omega)]
          show _ = some (HO.lst (((List.range r).map (fun i => (((if st - 1 - i = k + 1 then u1 else c (st - 1 - i)) : Nat) : Int))).map V.int ++ [V.int (((if st - 1 - r = k + 1 then u1 else c (st - 1 - r)) : Nat) : Int)]))
          rw [l1, if_pos (by omega), ← er]
          exact upd_same
        · show (((k + 1 : Nat) : Int) - 1).toNat < ((k + 1 : Nat) : Int).toNat
          omega
      · rintro i ws H4 ⟨_, rfl⟩
        rw [List.length_map, List.length_map]
        exact Nat.le_trans (List.length_filter_le _ _) (by rw [List.length_range]; exact Nat.le_refl _)
    · have m0 : m = 0 := by
        have : ¬ (0 : Int) < (m : Int) := fun y => z (decide_eq_true y)
        omega
      subst m0
      refine ⟨_, rfl, .inl ⟨rfl, _, SqL.of hq3⟩, _, rfl, q, _, _, rfl, rfl, hq3, small1000 (by rw [List.length_map, List.length_map, List.length_range]; omega), ?_⟩
      refine ⟨_, rfl, q, _, rfl, SqL.of upd_same, fun p hp => ?_⟩
      have s5 : Same H (upd H3 q (.lst ((((List.range (st - 1 - 0)).map fun i => ((c (st - 1 - i) : Nat) : Int)).map V.int) ++ [.int (sa : Int)]))) := same_upd s3 hq _
      obtain ⟨r, rfl⟩ : ∃ r, st = r + 1 := ⟨st - 1, by omega⟩
      refine kk p _ (fun i => if i = 0 then sa else c i) (s5.trans (same_new hp _)) ?_ ⟨rfl, ?_, fun i => ?_, ?_⟩
      · have el : ((((List.range (r + 1 - 1 - 0)).map fun i => ((c (r + 1 - 1 - i) : Nat) : Int)).map V.int) ++ [V.int (sa : Int)]).reverse = (loopI (r + 1) fun i => if i = 0 then sa else c i).map V.int := by
          rw [List.reverse_append, List.reverse_singleton, ← List.map_reverse, ← List.map_reverse]
          unfold loopI
          show V.int (sa : Int) :: _ = _
          rw [List.range_succ_eq_map, List.map_cons, List.map_cons]
          refine congrArg (V.int (sa : Int) :: ·) (congrArg (List.map V.int) ?_)
          rw [List.map_map]
          apply List.ext_getElem?
          intro i
          have e9 : r + 1 - 1 - 0 = r := by omega
          rw [e9, List.getElem?_map, List.getElem?_map]
          by_cases hi : i < r
          · rw [List.getElem?_reverse (by rw [List.length_range]; exact hi), List.length_range, List.getElem?_range (by omega), List.getElem?_range hi]
            show some (((c (r + 1 - 1 - (r - 1 - i)) : Nat) : Int)) = some ((((if i + 1 = 0 then sa else c (i + 1)) : Nat) : Int))
            rw [if_neg (by omega), show r + 1 - 1 - (r - 1 - i) = i + 1 by omega]
          · rw [List.getElem?_eq_none (by rw [List.length_reverse, List.length_range]; omega), List.getElem?_eq_none (by rw [List.length_range]; omega)]
            rfl
        rw [← el]
        exact upd_same
      · show (if r + 1 = 0 then sa else c (r + 1)) = sa
        rw [if_neg (by omega)]
        exact cs
      · show (if i = 0 then sa else c i) < n
        split
        · exact hs
        · exact cn i
      · have e8 : r + 1 - 1 - 0 = r := by omega
        rw [e8] at hD
        rw [← hD, Nat.add_comm r 1, wsum_shift]
        have w1 : wsum L (fun i => if i = 0 then sa else c i) 1 = L sa (c 1) := by
          show (0 : Int) + L (if 0 = 0 then sa else c 0) (if 0 + 1 = 0 then sa else c (0 + 1)) = _
          rw [if_pos rfl, if_neg (by omega), Int.zero_add]
        have w2 : wsum L (fun i => if 1 + i = 0 then sa else c (1 + i)) r = wsum L (fun i => c (0 + 1 + i)) r := wsum_congr r fun i _ => by rw [if_neg (by omega)]
        rw [w1]
        show L sa (c 1) + wsum L (fun i => if 1 + i = 0 then sa else c (1 + i)) r = _
        rw [w2]
        rfl
  · rintro σ H4 Q1 Q2 hi ⟨v1, e1, i', j', e2, e3, b, e4, q'⟩
    exact ⟨v1, e1, i', j', e2, e3, b, e4, hi _ _ q'⟩
end
end KS


namespace KS
open PySem L2
local macro_rules | `(tactic| walk_at "cc") => `(tactic| first | exact ⟨by decide, by decide⟩ | (show (0 : Int) < _; decide) | (show (0 : Int) < _; omega) | (show (0 : Int) ≤ _; omega) | exact ⟨by decide, by decide, by decide⟩ | exact ⟨by omega, by omega, by decide⟩ | exact Or.inl ⟨by decide, by decide⟩ | exact Or.inl ⟨by omega, by omega⟩)
local macro_rules | `(tactic| walk_at "rd") => `(tactic| repeat (first | refine ⟨_, rfl, ?_⟩ | refine ⟨_, _, rfl, rfl, ?_⟩ | refine ⟨rfl, ?_⟩ | (refine ⟨?cc, ?_⟩; (case cc => walk_at "cc"))))

/-- what long_run tells -/
structure Run (n : Nat) (L : Nat → Nat → Int) (tot top bot g : Int) (st sa : Nat) (c : Nat → Nat) : Prop where
  ls : Least n L tot st sa
  g0 : 0 < g
  et : tot = top * g
  es : (st : Int) = bot * g
  co : Int.gcd top bot = 1
  lp : Loop n L tot st sa c
  b0 : 0 < bot
  b8 : bot ≤ 8
def RunAt (H : Hp) (v : V) (n : Nat) (L : Nat → Nat → Int) : Prop := ∃ (t p q : Addr) (tot top bot g : Int) (st sa : Nat) (c : Nat → Nat), v = .ref t ∧ H t = some (.tup [.int top, .int bot, .ref p, .ref q]) ∧ H p = some (.lst ((loopI st c).map V.int)) ∧ H q = some (.lst ((vecI n (sl n (wOf L top bot) n)).map V.int)) ∧ Run n L tot top bot g st sa c
def spLRO : Sp := fun vs H Q _ => ∃ (tv : V) (n : Nat) (L : Nat → Nat → Int), vs = [tv] ∧ LwAt H tv n L ∧ 0 < n ∧ n ≤ 8 ∧ ∀ u H', Same H H' → RunAt H' u n L → Q u H'
def lowM (n : Nat) (pat : List Col) : Nat → Nat → Int := fun s t => (stepM n pat s t).1
def spLR : Sp := fun vs H Q _ => ∃ (v : V) (r : Nat) (pat : List Col), vs = [v] ∧ PatAt H v pat ∧ Good r pat ∧ ∀ u H', Same H H' → RunAt H' u (2 ^ r) (lowM (2 ^ r) pat) → Q u H'
theorem min2 {m x z : Int} (hm : m ∈ [x, z]) (hl : ∀ y ∈ [x, z], m ≤ y) : m = if z < x then z else x := by
  have h1 := hl x (by simp)
  have h2 := hl z (by simp)
  simp only [List.mem_cons, List.not_mem_nil, or_false] at hm
  split <;> omega
section
variable {P : Program} {w : World} {K : PySem.W.Frag} {mg : Str → Option Value} {base : Heap}
theorem sc_slopes_of : FnScope ["lows", "top", "bottom", "lessened", "row", "slopes", "step"] ["lows", "top", "bottom"] (defScope s_slopes_of) := ⟨rfl, rfl, rfl, by decide +kernel, rfl, by decide +kernel, by decide +kernel⟩
theorem ok_slp {f f1 : Addr} {fd fd1 : FuncData} (F : Fun K "slopes_of" "slopes_of" s_slopes_of f fd) (T : TxtL mg) (G_one_step_on : Cal P w K mg base 2 "one_step_on" ["ahead", "lows"] spOS f1 fd1) : FnOk P w K mg base CX0 3 f fd ["lows", "top", "bottom"] spSlp := by
  refine F.ok sc_slopes_of (fun vs H Q E h => ?_) (fun cdv A outer s H vs Q E hr h => ?_)
  · obtain ⟨tv, n, top, bot, L, rfl, _⟩ := h
    rfl
  obtain ⟨tv, n, top, bot, L, rfl, ⟨a, ys, rfl, hA, hL⟩, hn, h8, b0, b8, kk⟩ := h
  have yl := Ls_len hL
  refine ⟨_, (pss_cons (ps_set (i := 3) sc_slopes_of.nd rfl (Or.inl rfl) (pe_lst pa_nil))
      (pss_cons (ps_for PassesOwn.never rfl (pi_list (pv 0)) (pg_name (i := 4) sc_slopes_of.nd rfl (Or.inl rfl)) (pss_one (ps_expr (pe_bm PySem.F.plainAttrs_list PySem.F.slot_list_append PySem.F.type_list_append mt_append (pv 3) (pa_cons (pe_compG rfl (fr := [("top", 1), ("bottom", 2)]) (xs := ["low"]) (CompG.of (by rfl) (by decide +kernel) (by rfl) (by decide +kernel) (by intro p hp; simp only [List.mem_cons, List.not_mem_nil, or_false] at hp; rcases hp with rfl | rfl <;> exact ⟨rfl, rfl⟩) (by decide +kernel) (by intro p hp; simp only [List.mem_cons, List.not_mem_nil, or_false] at hp; rcases hp with rfl | rfl <;> rfl)) (pi_list (pv 4)) (fun C ex s H => (pg_name (i := 0) (show (["low", "top", "bottom"] : List Str).Nodup from by decide +kernel) rfl (Or.inl rfl))) (fun C ex s H => pts_nil) (fun C ex s H => (pe_op op_sub (pe_op op_mul (pv 2) (pv 0)) (pv 1)))) pa_nil)))))
      (pss_cons (ps_setComp (i := 5) rfl sc_slopes_of.nd rfl rfl (fr := []) (by exact CompOk.plain (by rfl) (by decide +kernel) (by rfl) (by decide +kernel) (by rfl) (by decide +kernel)) (pi_list (pv 0)) (fun C ex s H => pe_int))
      (pss_cons (ps_for PassesOwn.never rfl (pi_range1 rfl T.n_range (pa_cons (pe_callB call_len_seq (by rfl) T.n_len bt_len (pa_cons (pv 0) pa_nil)) pa_nil)) (pg_name (i := 6) sc_slopes_of.nd rfl (Or.inl rfl)) (pss_one (ps_setComp (i := 5) rfl sc_slopes_of.nd rfl rfl (fr := []) (by exact CompOk.plain (by rfl) (by decide +kernel) (by rfl) (by decide +kernel) (by rfl) (by decide +kernel)) (pi_zipN rfl T.n_zip (pa_cons (pv 5) (pa_cons (pe_call G_one_step_on.ok (hr.mono (by decide)) rfl G_one_step_on.mg G_one_step_on.kp G_one_step_on.bn .nil pass0 (pa_cons (pv 5) (pa_cons (pv 3) pa_nil))) pa_nil))) (fun C ex s H => (pe_callB (callK_minT (K := K) rfl rfl) (by rfl) T.n_min bt_min (pa_cons (pv 0) pa_nil))))))
      (pss_one (ps_ret (pv 5))))))), ?_⟩
  refine ⟨(by show 0 ≤ sizeLine; decide), fun q hq => ?_⟩
  have s1 := same_new hq (.lst [])
  refine ⟨_, rfl, a, rfl, ⟨_, SqL.of (s1 _ _ hA)⟩, for_list (K := K) (xs := ys) (fun i σ H2 => ∃ v4 us, σ = [some (.ref a), some (.int top), some (.int bot), some (.ref q), v4, none, none] ∧ Same H H2 ∧ H2 q = some (.lst us) ∧ LsAt (IvX q) H2 us ((List.range i).map fun s => vecI n (wOf L top bot s))) ⟨_, _, rfl, s1, upd_same, LsAt.nil⟩ (fun i σ H2 _ z => ?_) ?_ ?_⟩
  · obtain ⟨v2, us, rfl, s2, _⟩ := z
    exact SqL.of (s2 _ _ hA)
  · rintro i x σ H2 hx ⟨v2, us, rfl, s2, hq2, hU⟩
    have hi : i < n := by have := (List.getElem?_eq_some_iff.mp hx).1; omega
    obtain ⟨b, hb1, hb⟩ := Ls_at hL hi
    rw [hx] at hb1
    cases hb1
    have vl := vecV_len n (L i)
    have hul : us.length = i := by rw [hU.1, List.length_map, List.length_range]
    refine ⟨_, rfl, .inl ⟨rfl, _, SqL.of hq2⟩, _, rfl, b, rfl, ⟨_, SqL.of (s2 _ _ hb)⟩, compG_list (K := K) (xs := (vecI n (L i)).map V.int) (fun j zs H3 => H3 = H2 ∧ zs = ((List.range j).map (wOf L top bot i)).map V.int) (Nat.le_of_lt (small1000 (by omega))) ⟨rfl, rfl⟩ (fun j zs H3 _ z => by rw [z.1]; exact SqL.of (s2 _ _ hb)) ?_ ?_ ?_⟩
    · rintro j x zs H3 hx ⟨rfl, rfl⟩
      have hj : j < n := by have := (List.getElem?_eq_some_iff.mp hx).1; omega
      rw [vecI_v _ hj] at hx
      cases hx
      refine ⟨rfl, yesT ⟨_, rfl, _, rfl, _, _, rfl, rfl, .inl ⟨by omega, by omega⟩, _, rfl, _, _, rfl, rfl, rfl, ?_⟩⟩
      rw [rng_succ, List.map_append]
      rfl
    · rintro zs H3 ⟨rfl, rfl⟩ D hD
      rw [vl]
      have sD := same_new hD (.lst (((List.range n).map (wOf L top bot i)).map V.int))
      have hqD := sD _ _ hq2
      have nD : D ≠ q := (ne_of_none hq2 hD).symm
      refine ⟨q, us, _, rfl, rfl, hqD, small1000 (by omega), ?_⟩
      refine ⟨_, _, rfl, same_upd (s2.trans sD) hq _, upd_same, ?_⟩
      rw [rng_succ]
      exact ((hU.imp fun _ _ y => y.mono sD).snoc (x := vecI n (wOf L top bot i)) ⟨D, rfl, nD, upd_same⟩).imp fun _ _ y => y.put
    · rintro j zs H3 ⟨_, rfl⟩
      rw [List.length_map, List.length_map, List.length_range]
      exact Nat.le_refl _
  · rintro σ H2 ⟨v4, us, rfl, s2, hq2, hU⟩
    rw [yl] at hU
    have hW : LwAt H2 (.ref q) n (wOf L top bot) := ⟨q, us, rfl, hq2, hU.imp fun _ _ y => y.off⟩
    refine ⟨_, rfl, a, rfl, ⟨_, SqL.of (s2 _ _ hA)⟩, comp_list (K := K) (xs := ys) (fun j zs H3 => H3 = H2 ∧ zs = ((List.range j).map fun _ => (0 : Int)).map V.int) (Nat.le_of_lt (small1000 (by omega))) ⟨rfl, rfl⟩ (fun j zs H3 _ z => by rw [z.1]; exact SqL.of (s2 _ _ hA)) ?_ ?_⟩
    · rintro j x zs H3 hx ⟨rfl, rfl⟩
      refine ⟨rfl, ?_⟩
      rw [rng_succ, List.map_append]
      rfl
    rintro zs H3 _ ⟨rfl, rfl⟩ D hD
    rw [yl]
    have sD := same_new hD (.lst (((List.range n).map fun _ => (0 : Int)).map V.int))
    have hV0 : IvAt (upd H3 D (.lst (((List.range n).map fun _ => (0 : Int)).map V.int))) (.ref D) (vecI n (sl n (wOf L top bot) 0)) := ⟨D, rfl, upd_same⟩
    have s3D := s2.trans sD
    refine ⟨_, rfl, a, _, rfl, .inl (SqL.of (s3D _ _ hA)), _, rfl, by omega, by omega, for_range (n := ys.length) (fun i σ H4 => ∃ v5 v6, σ = [some (.ref a), some (.int top), some (.int bot), some (.ref q), v4, some v5, v6] ∧ Same H3 H4 ∧ IvAt H4 v5 (vecI n (sl n (wOf L top bot) i))) ⟨_, _, rfl, sD, hV0⟩ ?_ ?_⟩
    · rintro i σ H4 hi ⟨v5, v6, rfl, s4, hV⟩
      refine ⟨_, rfl, _, rfl, _, rfl, v5, .ref q, n, _, _, rfl, hV, hW.mono s4, h8, fun u H5 s5 hu => ?_⟩
      obtain ⟨d1, rfl, hd1⟩ := hV.mono s5
      obtain ⟨d2, rfl, hd2⟩ := hu
      have l1 := vecV_len n (sl n (wOf L top bot) i)
      have l2 := vecV_len n (stv n (wOf L top bot) (sl n (wOf L top bot) i))
      refine ⟨d1, d2, rfl, ⟨_, SqL.of hd1⟩, ⟨_, SqL.of hd2⟩, comp_zipN (K := K) (xs := (vecI n (sl n (wOf L top bot) i)).map V.int) (zs := (vecI n (stv n (wOf L top bot) (sl n (wOf L top bot) i))).map V.int) (fun j zs H6 => Same H5 H6 ∧ zs = ((List.range j).map (sl n (wOf L top bot) (i + 1))).map V.int) (Nat.le_of_lt (small1000 (by omega))) (by omega) ⟨fun _ _ e => e, rfl⟩ (fun j zs H6 _ z => ⟨SqL.of (z.1 _ _ hd1), SqL.of (z.1 _ _ hd2)⟩) ?_ ?_⟩
      · rintro j x z zs H6 T6 hx hz ⟨s6, rfl⟩ hT6
        have hj : j < n := by have := (List.getElem?_eq_some_iff.mp hx).1; omega
        rw [vecI_v _ hj] at hx hz
        cases hx
        cases hz
        have sT := same_new hT6 (.tup [.int (sl n (wOf L top bot) i j), .int (stv n (wOf L top bot) (sl n (wOf L top bot) i) j)])
        refine ⟨_, rfl, T6, [sl n (wOf L top bot) i j, stv n (wOf L top bot) (sl n (wOf L top bot) i) j], rfl, SqT.of upd_same, by simp, fun m hm hl => ⟨s6.trans sT, ?_⟩⟩
        rw [min2 hm hl, rng_succ, List.map_append]
        rfl
      rintro zs H6 _ ⟨s6, rfl⟩ D6 hD6
      rw [l1]
      exact ⟨_, _, rfl, s4.trans (s5.trans (s6.trans (same_new hD6 _))), ⟨D6, rfl, upd_same⟩⟩
    · rintro σ H4 ⟨v5, v6, rfl, s4, hV⟩
      rw [yl] at hV
      obtain ⟨d, rfl, hd⟩ := hV
      exact ⟨_, rfl, kk _ _ (s2.trans s4) hd⟩
theorem sc_long_run_of : FnScope ["lows", "sums", "best", "divisor", "top", "bottom"] ["lows"] (defScope s_long_run_of) := ⟨rfl, rfl, rfl, by decide +kernel, rfl, by decide +kernel, by decide +kernel⟩
theorem ok_lro {f f1 f2 f3 f4 f5 : Addr} {fd fd1 fd2 fd3 fd4 fd5 : FuncData} (F : Fun K "long_run_of" "long_run_of" s_long_run_of f fd) (T : TxtL mg) (G_sums_from : Cal P w K mg base 3 "sums_from" ["lows", "start"] spSF f1 fd1) (G_cheapest_walk : Cal P w K mg base 1 "cheapest_walk" ["sums"] spCW f2 fd2) (G_common_divisor : Cal P w K mg base 1 "common_divisor" ["one", "two"] spCD f3 fd3) (G_loop_back : Cal P w K mg base 1 "loop_back" ["lows", "told", "start", "steps"] spLB f4 fd4) (G_slopes_of : Cal P w K mg base 3 "slopes_of" ["lows", "top", "bottom"] spSlp f5 fd5) : FnOk P w K mg base CX0 4 f fd ["lows"] spLRO := by
  refine F.ok sc_long_run_of (fun vs H Q E h => ?_) (fun cdv A outer s H vs Q E hr h => ?_)
  · obtain ⟨tv, n, L, rfl, _⟩ := h
    rfl
  obtain ⟨tv, n, L, rfl, hT, hn, h8, kk⟩ := h
  obtain ⟨a, ys, rfl, hA, hL⟩ := id hT
  have yl := Ls_len hL
  refine ⟨_, (pss_cons (ps_setComp (i := 1) rfl sc_long_run_of.nd rfl rfl (fr := [("lows", 0)]) (by exact CompOk.one (by rfl) (by decide +kernel) (by rfl) (by decide +kernel) (by rfl) (by decide +kernel) (by rfl) (by rfl) (by decide +kernel) (by rfl)) (pi_range1 rfl T.n_range (pa_cons (pe_callB call_len_seq (by rfl) T.n_len bt_len (pa_cons (pv 0) pa_nil)) pa_nil)) (fun C ex s H => (pe_call G_sums_from.ok (hr.mono (by decide)) rfl G_sums_from.mg G_sums_from.kp G_sums_from.bn .nil pass0 (pa_cons (pv 1) (pa_cons (pv 0) pa_nil)))))
      (pss_cons (ps_set (i := 2) sc_long_run_of.nd rfl (Or.inl rfl) (pe_call G_cheapest_walk.ok (hr.mono (by decide)) rfl G_cheapest_walk.mg G_cheapest_walk.kp G_cheapest_walk.bn .nil pass0 (pa_cons (pv 1) pa_nil)))
      (pss_cons (ps_set (i := 3) sc_long_run_of.nd rfl (Or.inl rfl) (pe_call G_common_divisor.ok (hr.mono (by decide)) rfl G_common_divisor.mg G_common_divisor.kp G_common_divisor.bn .nil pass0 (pa_cons (pe_callB call_abs (by rfl) T.n_abs bt_abs (pa_cons (pe_ix ix_tup (pv 2) pe_int (fun _ _ => rfl)) pa_nil)) (pa_cons (pe_ix ix_tup (pv 2) pe_int (fun _ _ => rfl)) pa_nil))))
      (pss_cons (ps_set (i := 4) sc_long_run_of.nd rfl (Or.inl rfl) (pe_op op_fdiv (pe_ix ix_tup (pv 2) pe_int (fun _ _ => rfl)) (pv 3)))
      (pss_cons (ps_set (i := 5) sc_long_run_of.nd rfl (Or.inl rfl) (pe_op op_fdiv (pe_ix ix_tup (pv 2) pe_int (fun _ _ => rfl)) (pv 3)))
      (pss_one (ps_ret (pe_tup (pa_cons (pv 4) (pa_cons (pv 5) (pa_cons (pe_call G_loop_back.ok (hr.mono (by decide)) rfl G_loop_back.mg G_loop_back.kp G_loop_back.bn .nil pass0 (pa_cons (pv 0) (pa_cons (pe_ix ix_list (pv 1) (pe_ix ix_tup (pv 2) pe_int (fun _ _ => rfl)) (fun _ _ => rfl)) (pa_cons (pe_ix ix_tup (pv 2) pe_int (fun _ _ => rfl)) (pa_cons (pe_ix ix_tup (pv 2) pe_int (fun _ _ => rfl)) pa_nil))))) (pa_cons (pe_call G_slopes_of.ok (hr.mono (by decide)) rfl G_slopes_of.mg G_slopes_of.kp G_slopes_of.bn .nil pass0 (pa_cons (pv 0) (pa_cons (pv 4) (pa_cons (pv 5) pa_nil)))) pa_nil)))))))))))), ?_⟩
  refine ⟨_, rfl, a, _, rfl, .inl (SqL.of hA), _, rfl, by omega, by omega, comp_range (n := ys.length) (fun i zs H2 => Same H H2 ∧ LsAt (fun H v i => LwAt H v n (Dk n L i)) H2 zs (List.range i)) (Nat.le_of_lt (small1000 (by omega))) ⟨fun _ _ e => e, LsAt.nil⟩ ?_ ?_⟩
  · rintro i zs H2 hi ⟨s2, hZ⟩
    have e0 : (0 : Int) + (i : Int) = (i : Int) := Int.zero_add _
    rw [e0]
    refine ⟨_, rfl, _, rfl, .ref a, n, i, L, rfl, hT.mono s2, by omega, h8, fun u H3 s3 hu => ⟨s2.trans s3, ?_⟩⟩
    rw [List.range_succ]
    exact (hZ.imp fun _ _ q => q.mono s3).snoc hu
  rintro zs H2 _ ⟨s2, hZ⟩ D hD
  rw [yl] at hZ
  have sD := same_new hD (.lst zs)
  have hS : SmAt (upd H2 D (.lst zs)) (.ref D) n L := ⟨D, zs, rfl, upd_same, hZ.imp fun _ _ q => q.mono sD⟩
  have s2D := s2.trans sD
  generalize upd H2 D (.lst zs) = H3 at hS s2D
  refine ⟨_, rfl, .ref D, n, L, rfl, hS, hn, h8, fun t H4 tot st sa s4 ht hl => ?_⟩
  have l1 := hl.s1
  have ln := hl.sn
  have la := hl.an
  obtain ⟨ta, eta⟩ : ∃ ta : Nat, (if tot < 0 then -tot else tot) = (ta : Int) := ⟨(if tot < 0 then -tot else tot).toNat, by split <;> omega⟩
  refine ⟨_, rfl, t, _, 0, _, rfl, rfl, SqT.of ht, rfl, _, rfl, _, rfl, t, _, 1, _, rfl, rfl, SqT.of ht, rfl, ta, st, by rw [eta]; rfl, by omega, ?_⟩
  have egg : Nat.gcd ta st = Int.gcd tot (st : Int) := by
    have : tot.natAbs = ta := by omega
    show _ = Nat.gcd tot.natAbs st
    rw [this]
  have gp : 0 < Nat.gcd ta st := Nat.gcd_pos_of_pos_right _ (by omega)
  have gs : Nat.gcd ta st ≤ st := Nat.gcd_le_right _ (by omega)
  rw [egg] at gp gs ⊢
  have co := Int.gcd_ediv_gcd_ediv_gcd gp
  have d1 : tot / ((Int.gcd tot (st : Int) : Nat) : Int) * ((Int.gcd tot (st : Int) : Nat) : Int) = tot := Int.ediv_mul_cancel (Int.gcd_dvd_left ..)
  have d2 : (st : Int) / ((Int.gcd tot (st : Int) : Nat) : Int) * ((Int.gcd tot (st : Int) : Nat) : Int) = (st : Int) := Int.ediv_mul_cancel (Int.gcd_dvd_right ..)
  generalize hgg : Int.gcd tot (st : Int) = g at gp gs co d1 d2 ⊢
  refine ⟨_, rfl, t, _, 0, _, rfl, rfl, SqT.of ht, rfl, _, rfl, _, _, rfl, rfl, ⟨by omega, by omega⟩, ?_⟩
  refine ⟨_, rfl, t, _, 1, _, rfl, rfl, SqT.of ht, rfl, _, rfl, _, _, rfl, rfl, ⟨by omega, by omega⟩, ?_⟩
  obtain ⟨top, htop⟩ : ∃ top, tot / (g : Int) = top := ⟨_, rfl⟩
  obtain ⟨bot, hbot⟩ : ∃ bot, (st : Int) / (g : Int) = bot := ⟨_, rfl⟩
  simp only [htop, hbot]
  rw [htop] at d1 co
  rw [hbot] at d2 co
  have b0 : 0 < bot := by
    by_cases z : 0 < bot
    · exact z
    · exfalso
      have := Int.mul_nonneg (show 0 ≤ -bot by omega) (show 0 ≤ (g : Int) by omega)
      rw [Int.neg_mul] at this
      omega
  have b8 : bot ≤ 8 := by
    have := Int.mul_le_mul_of_nonneg_left (show (1 : Int) ≤ (g : Int) by omega) (show 0 ≤ bot by omega)
    omega
  obtain ⟨D', zs', eD, hD3, hZ3⟩ := hS
  cases eD
  obtain ⟨y, hy, hD4⟩ := hZ3.2 sa sa (List.getElem?_range la)
  have hDs := s4 _ _ hD3
  refine ⟨_, rfl, _, rfl, _, rfl, _, rfl, _, rfl, t, _, 2, _, rfl, rfl, SqT.of ht, rfl, D, zs', _, _, rfl, rfl, SqL.of hDs, atI_nat hy, _, rfl, t, _, 2, _, rfl, rfl, SqT.of ht, rfl, _, rfl, t, _, 1, _, rfl, rfl, SqT.of ht, rfl, .ref a, y, n, sa, st, L, rfl, hT.mono (s2D.trans s4), hD4.mono s4, la, h8, l1, ln, fun p H5 c s5 hp hlp => ?_⟩
  refine ⟨_, rfl, _, rfl, _, rfl, .ref a, n, top, bot, L, rfl, hT.mono (s2D.trans (s4.trans s5)), hn, h8, by omega, b8, fun q H6 s6 hq => ?_⟩
  refine ⟨(by show 4 ≤ sizeLine; decide), fun t9 ht9 => ?_⟩
  have s9 := same_new ht9 (.tup [.int top, .int bot, .ref p, .ref q])
  rw [← hl.is] at hlp
  exact kk _ _ (s2D.trans (s4.trans (s5.trans (s6.trans s9)))) ⟨t9, p, q, tot, top, bot, g, st, sa, c, rfl, upd_same, s9 _ _ (s6 _ _ hp), s9 _ _ hq, ⟨hl, by omega, d1.symm, d2.symm, co, hlp, b0, b8⟩⟩
theorem sc_long_run : FnScope ["pattern"] ["pattern"] (defScope s_long_run) := ⟨rfl, rfl, rfl, by decide +kernel, rfl, by decide +kernel, by decide +kernel⟩
theorem ok_lr {f f1 f2 f3 : Addr} {fd fd1 fd2 fd3 : FuncData} (F : Fun K "long_run" "long_run" s_long_run f fd) (G_step_table : Cal P w K mg base 6 "step_table" ["pattern"] spStep f1 fd1) (G_lows_of : Cal P w K mg base 1 "lows_of" ["table"] spLows f2 fd2) (G_long_run_of : Cal P w K mg base 4 "long_run_of" ["lows"] spLRO f3 fd3) : FnOk P w K mg base CX0 7 f fd ["pattern"] spLR := by
  refine F.ok sc_long_run (fun vs H Q E h => ?_) (fun cdv A outer s H vs Q E hr h => ?_)
  · obtain ⟨v, r, pat, rfl, _⟩ := h
    rfl
  obtain ⟨v, r, pat, rfl, hP, g, kk⟩ := h
  obtain ⟨n0, n8⟩ := g.n8
  refine ⟨_, (pss_one (ps_ret (pe_call G_long_run_of.ok (hr.mono (by decide)) rfl G_long_run_of.mg G_long_run_of.kp G_long_run_of.bn .nil pass0 (pa_cons (pe_call G_lows_of.ok (hr.mono (by decide)) rfl G_lows_of.mg G_lows_of.kp G_lows_of.bn .nil pass0 (pa_cons (pe_call G_step_table.ok (hr.mono (by decide)) rfl G_step_table.mg G_step_table.kp G_step_table.bn .nil pass0 (pa_cons (pv 0) pa_nil)) pa_nil)) pa_nil)))), ?_⟩
  refine ⟨_, rfl, v, r, pat, rfl, hP, g, fun u H1 s1 hu => ?_⟩
  refine ⟨u, _, _, rfl, hu, n8, fun u2 H2 s2 hu2 => ?_⟩
  exact ⟨u2, _, _, rfl, hu2, n0, n8, fun u3 H3 s3 hu3 => kk _ _ (s1.trans (s2.trans s3)) hu3⟩
end
end KS


namespace KS
open PySem L2
local macro_rules | `(tactic| walk_at "cc") => `(tactic| first | exact ⟨by decide, by decide⟩ | (show (0 : Int) < _; decide) | (show (0 : Int) < _; omega) | (show (0 : Int) ≤ _; omega) | exact ⟨by decide, by decide, by decide⟩ | exact ⟨by omega, by omega, by decide⟩ | exact Or.inl ⟨by decide, by decide⟩ | exact Or.inl ⟨by omega, by omega⟩)
local macro_rules | `(tactic| walk_at "rd") => `(tactic| repeat (first | refine ⟨_, rfl, ?_⟩ | refine ⟨_, _, rfl, rfl, ?_⟩ | refine ⟨rfl, ?_⟩ | (refine ⟨?cc, ?_⟩; (case cc => walk_at "cc"))))

/-- no place comes twice -/
theorem Loop.once {n : Nat} (hn : 0 < n) {L : Nat → Nat → Int} {tot : Int} {st sa : Nat} {c : Nat → Nat} (h : Loop n L tot st sa c) (l : Least n L tot st sa) {i j : Nat} (ij : i < j) (js : j < st) : c i ≠ c j := fun e => by
  obtain ⟨d, rfl⟩ : ∃ d, j = i + d := ⟨j - i, by omega⟩
  obtain ⟨r, er⟩ : ∃ r, st = i + d + r := ⟨st - (i + d), by omega⟩
  obtain ⟨d', rfl⟩ : ∃ d', d = d' + 1 := ⟨d - 1, by omega⟩
  obtain ⟨k, ek⟩ : ∃ k, i + r = k + 1 := ⟨i + r - 1, by omega⟩
  have cn := h.cn
  have a1 := Dk_low hn L (fun m => c (i + m)) (fun m => cn _) d'
  have f1 := l.few d' (c i) (by omega) (cn _)
  have a2 := Dk_low hn L (cutW c i (d' + 1)) (cut_lt cn) k
  have e0 : cutW c i (d' + 1) 0 = sa := by unfold cutW; rw [if_pos (by omega)]; exact h.c0
  have e1 : cutW c i (d' + 1) (k + 1) = sa := by
    unfold cutW
    rw [if_neg (by omega), ← h.cs]
    congr 1
    omega
  have f2 := l.few k sa (by omega) l.an
  rw [e0, e1] at a2
  rw [← ek, wsum_cut L c i (d' + 1) e] at a2
  have s1 := wsum_shift L c (i + (d' + 1)) r
  have s2 := wsum_shift L c i (d' + 1)
  rw [← er, h.sm] at s1
  rw [← e] at a1
  replace a1 : Dk n L (c i) d' (c i) ≤ wsum L (fun m => c (i + m)) (d' + 1) := a1
  have sp : 0 ≤ (st : Int) := by omega
  have m1 := Int.mul_le_mul_of_nonneg_right a1 sp
  have m2 := Int.mul_le_mul_of_nonneg_right a2 sp
  have es : tot * (st : Int) = tot * ((d' + 1 : Nat) : Int) + tot * ((k + 1 : Nat) : Int) := by
    rw [← Int.mul_add]
    congr 1
    omega
  have et : tot * (st : Int) = wsum L (fun m => c (i + m)) (d' + 1) * (st : Int) + (wsum L c i + wsum L (fun m => c (i + (d' + 1) + m)) r) * (st : Int) := by
    rw [← Int.add_mul]
    congr 1
    omega
  omega
def spSh : Sp := fun vs H Q _ => ∃ (x : Int) (b : Nat), vs = [.int x, .int (b : Int)] ∧ Q (.int ((Int.gcd x (b : Int) : Nat) : Int)) H
def spWs : Sp := fun vs H Q _ => ∃ (a : Addr) (ns : List Int) (m : Int), vs = [.ref a, .int m] ∧ H a = some (.lst (ns.map V.int)) ∧ m ≤ (ns.length : Int) ∧ ns.length ≤ 900 ∧ ∀ H', Same H H' → Q (.bl true) H'
def spShows : Sp := fun vs H Q _ => ∃ (d : Addr) (n : Nat) (vf : V) (kvs : List (List Key × V)) (M : Mt), vs = [.ref d, .int (n : Int), vf] ∧ H d = some (.dT kvs) ∧ Owns n kvs ∧ (∀ s t, s < n → t < n → ∃ u, valV kvs (key s t) = some u ∧ PrAt H u (M s t)) ∧ RunAt H vf n (fun s t => (M s t).1) ∧ 0 < n ∧ n ≤ 8 ∧ ∀ H', Q (.bl true) H'
structure ShI (H : Hp) (d p q : Addr) (n : Nat) (kvs : List (List Key × V)) (M : Mt) (tot top bot g : Int) (st sa : Nat) (c : Nat → Nat) : Prop where
  hd : H d = some (.dT kvs)
  ow : Owns n kvs
  hk : ∀ s t, s < n → t < n → ∃ u, valV kvs (key s t) = some u ∧ PrAt H u (M s t)
  hp : H p = some (.lst ((loopI st c).map V.int))
  hq : H q = some (.lst ((vecI n (sl n (wOf (fun s t => (M s t).1) top bot) n)).map V.int))
  rn : Run n (fun s t => (M s t).1) tot top bot g st sa c
theorem ShI.mono {H H' : Hp} {d p q : Addr} {n : Nat} {kvs : List (List Key × V)} {M : Mt} {tot top bot g : Int} {st sa : Nat} {c : Nat → Nat} (h : ShI H d p q n kvs M tot top bot g st sa c) (s : Same H H') : ShI H' d p q n kvs M tot top bot g st sa c :=
  ⟨s _ _ h.hd, h.ow, fun a b ha hb => let ⟨u, e, z⟩ := h.hk a b ha hb; ⟨u, e, z.mono s⟩, s _ _ h.hp, s _ _ h.hq, h.rn⟩
theorem loopI_len (st : Nat) (c : Nat → Nat) : (loopI st c).length = st := by unfold loopI; rw [List.length_map, List.length_range]
theorem loopI_v {st : Nat} (c : Nat → Nat) {i : Nat} (h : i < st) : ((loopI st c).map V.int)[i]? = some (.int ((c i : Nat) : Int)) := by unfold loopI; rw [List.getElem?_map, List.getElem?_map, List.getElem?_range h]; rfl
theorem loopI_last {st : Nat} (c : Nat → Nat) (h : 0 < st) : atI ((loopI st c).map V.int) (-1) = some (.int ((c (st - 1) : Nat) : Int)) := by
  obtain ⟨r, rfl⟩ : ∃ r, st = r + 1 := ⟨st - 1, by omega⟩
  unfold loopI
  rw [rng_succ, List.map_append]
  exact atI_last _ _
def sh0 (d : Addr) (n : Nat) (t : Addr) (top bot : Int) (p q : Addr) : St := [some (.ref d), some (.int (n : Int)), some (.ref t), some (.int top), some (.int bot), some (.ref p), some (.ref q)]
def restA : TS := fun D σ H => ∃ (d t p q : Addr) (n : Nat) (kvs : List (List Key × V)) (M : Mt) (tot top bot g : Int) (st sa : Nat) (c : Nat → Nat), σ = sh0 d n t top bot p q ++ [none, none, none, none, none, none] ∧ ShI H d p q n kvs M tot top bot g st sa c ∧ 0 < n ∧ n ≤ 8 ∧ ∀ H', D.rt (.bl true) H'
def restB : TS := fun D σ H => ∃ (d t p q : Addr) (n : Nat) (kvs : List (List Key × V)) (M : Mt) (tot top bot g : Int) (st sa : Nat) (c : Nat → Nat) (v7 v8 : Option V), σ = sh0 d n t top bot p q ++ [v7, v8, none, none, none, none] ∧ ShI H d p q n kvs M tot top bot g st sa c ∧ 0 < n ∧ n ≤ 8 ∧ ∀ H', D.rt (.bl true) H'
def restC : TS := fun D σ H => ∃ (d t p q : Addr) (n : Nat) (kvs : List (List Key × V)) (M : Mt) (tot top bot g : Int) (st sa : Nat) (c : Nat → Nat) (v7 v8 v9 v10 : Option V), σ = sh0 d n t top bot p q ++ [v7, v8, v9, v10, none, none] ∧ ShI H d p q n kvs M tot top bot g st sa c ∧ 0 < n ∧ n ≤ 8 ∧ ∀ H', D.rt (.bl true) H'
section
variable {P : Program} {w : World} {K : PySem.W.Frag} {mg : Str → Option Value} {base : Heap}
theorem sc_law_shared : FnScope ["one", "two", "rest"] ["one", "two"] (defScope s_law_shared) := ⟨rfl, rfl, rfl, by decide +kernel, rfl, by decide +kernel, by decide +kernel⟩
theorem ok_sh {f : Addr} {fd : FuncData} (F : Fun K "_law_shared" "_law_shared" s_law_shared f fd) (T : TxtL mg) : FnOk P w K mg base CX0 1 f fd ["one", "two"] spSh := by
  refine F.ok sc_law_shared (fun vs H Q E h => ?_) (fun cdv A outer s H vs Q E hr h => ?_)
  · obtain ⟨x, b, rfl, _⟩ := h
    rfl
  obtain ⟨x, b, rfl, kk⟩ := h
  refine ⟨_, (pss_cons (ps_set (i := 0) sc_law_shared.nd rfl (Or.inl rfl) (pe_callB call_abs (by rfl) T.n_abs bt_abs (pa_cons (pv 0) pa_nil)))
      (pss_cons (ps_while PassesOwn.never (pt_cmpR op_gt (pv 1) pe_int (nomark _)) (pss_cons (ps_set (i := 2) sc_law_shared.nd rfl (Or.inl rfl) (pe_op op_mod (pv 0) (pv 1)))
      (pss_cons (ps_set (i := 0) sc_law_shared.nd rfl (Or.inl rfl) (pv 1))
      (pss_one (ps_set (i := 1) sc_law_shared.nd rfl (Or.inl rfl) (pv 2))))))
      (pss_one (ps_ret (pv 0))))), ?_⟩
  obtain ⟨ta, eta⟩ : ∃ ta : Nat, (if x < 0 then -x else x) = (ta : Int) := ⟨(if x < 0 then -x else x).toNat, by split <;> omega⟩
  refine ⟨_, rfl, x, rfl, ?_⟩
  rw [eta]
  have egg : Int.gcd x (b : Int) = Nat.gcd ta b := by
    have : x.natAbs = ta := by omega
    show Nat.gcd x.natAbs b = _
    rw [this]
  rw [egg] at kk
  refine while_by (fun σ H3 => ∃ (g l : Nat) (v2 : Option V), σ = [some (.int (g : Int)), some (.int (l : Int)), v2] ∧ H3 = H ∧ Nat.gcd g l = Nat.gcd ta b) (fun σ _ => match σ with | [_, some (.int k), _] => k.toNat | _ => 0) ⟨ta, b, _, rfl, rfl, rfl⟩ ?_ ?_
  · rintro σ H3 ⟨g, l, v4, rfl, rfl, hg⟩
    refine ⟨_, rfl, _, _, rfl, rfl, _, rfl, ?_⟩
    refine ite2 (fun z => ?_) (fun z => ?_)
    · have hl : 0 < l := by have := of_decide_eq_true z; omega
      refine ⟨_, rfl, _, rfl, _, _, rfl, rfl, (by show (0 : Int) < (l : Int); omega), _, rfl, _, rfl, ?_⟩
      have lt : g % l < l := Nat.mod_lt _ hl
      refine ⟨⟨l, g % l, _, rfl, rfl, ?_⟩, by show ((g % l : Nat) : Int).toNat < ((l : Nat) : Int).toNat; omega⟩
      rw [← hg, Nat.gcd_comm g l, Nat.gcd_rec l g, Nat.gcd_comm]
    · have l0 : l = 0 := by
        have : ¬ (0 : Int) < (l : Int) := fun y => z (decide_eq_true y)
        omega
      subst l0
      refine ⟨_, rfl, ?_⟩
      rw [Nat.gcd_zero_right] at hg
      rw [hg]
      exact kk
  · rintro σ H4 Q1 Q2 hi ⟨v1, e1, i', j', e2, e3, b, e4, q'⟩
    exact ⟨v1, e1, i', j', e2, e3, b, e4, hi _ _ q'⟩
theorem sc_law_wholes : FnScope ["found", "least_size"] ["found", "least_size"] (defScope s_law_wholes) := ⟨rfl, rfl, rfl, by decide +kernel, rfl, by decide +kernel, by decide +kernel⟩
theorem ok_ws {f f1 : Addr} {fd fd1 : FuncData} (F : Fun K "_law_wholes" "_law_wholes" s_law_wholes f fd) (T : TxtL mg) (G_law_whole : Cal P w K mg base 1 "_law_whole" ["found"] spWhole f1 fd1) : FnOk P w K mg base CX0 2 f fd ["found", "least_size"] spWs := by
  refine F.ok sc_law_wholes (fun vs H Q E h => ?_) (fun cdv A outer s H vs Q E hr h => ?_)
  · obtain ⟨a, ns, m, rfl, _⟩ := h
    rfl
  obtain ⟨a, ns, m, rfl, hA, hm, hl, kk⟩ := h
  have nl : (ns.map V.int).length = ns.length := List.length_map ..
  refine ⟨_, (pss_cons (ps_if (PW.pt (pw_or (pt_not (pt_val (pe_callB call_isi (by rfl) T.n_isinstance bt_isinstance (pa_cons (pv 0) (pa_cons (pe_bltn (v := .ty "list") rfl T.n_list bt_list rfl) pa_nil))))) (pw_or1 (pt_cmpR op_lt (pe_callB call_len_seq (by rfl) T.n_len bt_len (pa_cons (pv 0) pa_nil)) (pv 1) (nomark _))))) (pss_one (ps_ret pe_bl)) pss_nil)
      (pss_one (ps_ret (pe_callB (call_allT rfl) (by rfl) T.n_all bt_all (pa_cons (pe_comp rfl (fr := []) (by exact CompOk.plain (by rfl) (by decide +kernel) (by rfl) (by decide +kernel) (by rfl) (by decide +kernel)) (pi_list (pv 0)) (fun C ex s H => (pe_call G_law_whole.ok (hr.mono (by decide)) rfl G_law_whole.mg G_law_whole.kp G_law_whole.bn .nil pass0 (pa_cons (pv 0) pa_nil)))) pa_nil))))), ?_⟩
  refine ⟨_, rfl, _, _, _, _, _, rfl, TyOf.lst hA, Or.inl ⟨_, rfl, rfl⟩, kit_ll K, _, rfl, iteF ?_⟩
  refine ⟨_, rfl, a, _, rfl, .inl (SqL.of hA), _, rfl, _, _, rfl, rfl, _, rfl, ite2 (fun z => absurd (of_decide_eq_true z) (by rw [nl]; omega)) (fun _ => ?_)⟩
  refine ⟨_, rfl, a, rfl, ⟨_, SqL.of hA⟩, comp_list (K := K) (xs := ns.map V.int) (fun i zs H2 => H2 = H ∧ zs = (List.replicate i true).map V.bl) (Nat.le_of_lt (small1000 (by omega))) ⟨rfl, rfl⟩ (fun i zs H2 _ z => by rw [z.1]; exact SqL.of hA) ?_ ?_⟩
  · rintro i x zs H2 hx ⟨rfl, rfl⟩
    rw [List.getElem?_map] at hx
    cases e9 : ns[i]? with
    | none => rw [e9] at hx; cases hx
    | some y =>
      rw [e9] at hx
      cases hx
      refine ⟨_, rfl, y, rfl, rfl, ?_⟩
      rw [List.replicate_succ', List.map_append]
      rfl
  rintro zs H2 _ ⟨rfl, rfl⟩ D hD
  exact ⟨D, _, rfl, SqL.of upd_same, kk _ (same_new hD _)⟩
theorem sc_law_shows : FnScope ["due", "size", "found", "top", "bottom", "loop", "slopes", "seen", "signs", "total", "k", "ends", "told"] ["due", "size", "found"] (defScope s_law_shows) := ⟨rfl, rfl, rfl, by decide +kernel, rfl, by decide +kernel, by decide +kernel⟩
theorem ok_shows {f f1 : Addr} {fd fd1 : FuncData} (F : Fun K "_law_shows" "_law_shows" s_law_shows f fd) (T : TxtL mg) (G_law_wholes : Cal P w K mg base 2 "_law_wholes" ["found", "least_size"] spWs f1 fd1) : FnOk P w K mg base CX0 3 f fd ["due", "size", "found"] spShows := by
  refine F.ok sc_law_shows (fun vs H Q E h => ?_) (fun cdv A outer s H vs Q E hr h => ?_)
  · obtain ⟨d, n, vf, kvs, M, rfl, _⟩ := h
    rfl
  obtain ⟨d, n, vf, kvs, M, rfl, hd, ow, hk, ⟨t, p, q, tot, top, bot, g, st, sa, c, rfl, ht, hp, hq, rn⟩, n0, n8, kk⟩ := h
  have hu := hu_of hr
  have s1 := rn.ls.s1
  have sn := rn.ls.sn
  have ll := loopI_len st c
  have vl := vecI_len n (sl n (wOf (fun s t => (M s t).1) top bot) n)
  have vlv := vecV_len n (sl n (wOf (fun s t => (M s t).1) top bot) n)
  refine ⟨_, (pss_cons (ps_set (i := 3) sc_law_shows.nd rfl (Or.inl rfl) (pe_ix ix_tup (pv 2) pe_int (fun _ _ => rfl)))
      (pss_cons (ps_set (i := 4) sc_law_shows.nd rfl (Or.inl rfl) (pe_ix ix_tup (pv 2) pe_int (fun _ _ => rfl)))
      (pss_cons (ps_set (i := 5) sc_law_shows.nd rfl (Or.inl rfl) (pe_ix ix_tup (pv 2) pe_int (fun _ _ => rfl)))
      (pss_cons (ps_set (i := 6) sc_law_shows.nd rfl (Or.inl rfl) (pe_ix ix_tup (pv 2) pe_int (fun _ _ => rfl)))
      (pss_cons (ps_if (PW.pt (pw_or (pt_not (pt_val (pe_call G_law_wholes.ok (hr.mono (by decide)) rfl G_law_wholes.mg G_law_wholes.kp G_law_wholes.bn .nil pass0 (pa_cons (pv 5) (pa_cons pe_int pa_nil))))) (pw_or (pt_not (pt_val (pe_call G_law_wholes.ok (hr.mono (by decide)) rfl G_law_wholes.mg G_law_wholes.kp G_law_wholes.bn .nil pass0 (pa_cons (pv 6) (pa_cons (pv 1) pa_nil))))) (pw_or1 (pt_cmpR op_ne (pe_callB call_len_seq (by rfl) T.n_len bt_len (pa_cons (pv 6) pa_nil)) (pv 1) (nomark _)))))) (pss_one (ps_ret pe_bl)) pss_nil)
      (pss_imp (t2 := restA) (pss_cons (ps_set (i := 7) sc_law_shows.nd rfl (Or.inl rfl) pe_dnewK)
      (pss_cons (ps_for PassesOwn.never rfl (pi_list (pv 5)) (pg_name (i := 8) sc_law_shows.nd rfl (Or.inl rfl)) (pss_cons (ps_if (PW.pt (pw_or (pt_cmpR op_lt (pv 8) pe_int (nomark _)) (pw_or (pt_cmpR op_ge (pv 8) (pv 1) (nomark _)) (pw_or1 (pt_cmp (pc_din hu (pv 8) (pv 7))))))) (pss_one (ps_ret pe_bl)) pss_nil)
      (pss_one (ps_dput hu (pv 7) (pv 8) pe_bl rfl))))
      (pss_imp (t2 := restB) (pss_cons (ps_set (i := 9) sc_law_shows.nd rfl (Or.inl rfl) pe_int)
      (pss_cons (ps_for PassesOwn.never rfl (pi_range1 rfl T.n_range (pa_cons (pe_callB call_len_seq (by rfl) T.n_len bt_len (pa_cons (pv 5) pa_nil)) pa_nil)) (pg_name (i := 10) sc_law_shows.nd rfl (Or.inl rfl)) (pss_one (ps_set (i := 9) sc_law_shows.nd rfl (Or.inl rfl) (pe_op op_add (pv 9) (pe_ix ix_tup (pe_dget hu (pv 0) (pe_tup (pa_cons (pe_ix ix_list (pv 5) (pe_op op_sub (pv 10) pe_int) (fun _ _ => rfl)) (pa_cons (pe_ix ix_list (pv 5) (pv 10) (fun _ _ => rfl)) pa_nil))) (fun _ _ => rfl)) pe_int (fun _ _ => rfl))))))
      (pss_cons (ps_if (pt_cmpR op_ne (pe_op op_mul (pv 9) (pv 4)) (pe_op op_mul (pv 3) (pe_callB call_len_seq (by rfl) T.n_len bt_len (pa_cons (pv 5) pa_nil))) (nomark _)) (pss_one (ps_ret pe_bl)) pss_nil)
      (pss_imp (t2 := restC) (pss_cons (ps_for PassesOwn.never rfl (pi_items (pe_bm0 PySem.F.plainAttrs_dict PySem.F.slot_dict_items PySem.F.type_dict_items mt_items (pv 0))) (pg_tup rfl (pgs_cons (pg_name (i := 11) sc_law_shows.nd rfl (Or.inl rfl)) (pgs_cons (pg_name (i := 12) sc_law_shows.nd rfl (Or.inl rfl)) pgs_nil))) (pss_one (ps_if (pt_cmpR op_lt (pe_op op_sub (pe_op op_add (pe_op op_mul (pv 4) (pe_ix ix_tup (pv 12) pe_int (fun _ _ => rfl))) (pe_ix ix_list (pv 6) (pe_ix ix_tup (pv 11) pe_int (fun _ _ => rfl)) (fun _ _ => rfl))) (pe_ix ix_list (pv 6) (pe_ix ix_tup (pv 11) pe_int (fun _ _ => rfl)) (fun _ _ => rfl))) (pv 3) (nomark _)) (pss_one (ps_ret pe_bl)) pss_nil)))
      (pss_one (ps_ret pe_bl))) (fun D0 S0 H0 h0 => ?rest3))))) (fun D0 S0 H0 h0 => ?rest2)))) (fun D0 S0 H0 h0 => ?rest1))))))), ?_⟩
  case rest3 =>
    obtain ⟨d, t, p, q, n, kvs, M, tot, top, bot, g, st, sa, c, v7, v8, v9, v10, rfl, I0, n0, n8, kr⟩ := h0
    have hd := I0.hd
    refine ⟨_, rfl, .inr (.inr (.inl ⟨rfl, .inr ⟨_, hd⟩⟩)), d, .dT kvs, rfl, rfl, hd, trivial, fun vw hvw => ?_⟩
    have s1 := same_new hvw (itemsO vw d)
    have I1 := I0.mono s1
    have hd1 := I1.hd
    have hv1 : upd H0 vw (itemsO vw d) vw = some (itemsO vw d) := upd_same
    generalize upd H0 vw (itemsO vw d) = H1 at I1 hd1 hv1
    refine ⟨vw, d, .dT kvs, rfl, hv1, hd1, trivial, fun o => ?_⟩
    have hq1 : upd H1 d (.frz o (.dT kvs)) q = some (.lst ((vecI n (sl n (wOf (fun s t => (M s t).1) top bot) n)).map V.int)) := by rw [upd_ne (ne_of I1.hq hd1 (by intro z; cases z))]; exact I1.hq
    have hk1 : ∀ s t, s < n → t < n → ∃ u, valV kvs (key s t) = some u ∧ PrAt (upd H1 d (.frz o (.dT kvs))) u (M s t) := fun s t hs ht => by
      obtain ⟨u, e, tu, eu, z⟩ := I1.hk s t hs ht
      exact ⟨u, e, tu, eu, by rw [upd_ne (ne_of z hd1 (by intro z; cases z))]; exact z⟩
    have hd2 : upd H1 d (.frz o (.dT kvs)) d = some (.frz o (.dT kvs)) := upd_same
    generalize upd H1 d (.frz o (.dT kvs)) = H2 at hq1 hk1 hd2
    have rn := I0.rn
    have bt0 := rn.b0
    have bt8 := rn.b8
    have nn : NoNeg n (wOf (fun s t => (M s t).1) top bot) := rn.ls.noneg n0 rn.g0 rn.et rn.es
    refine for_items (u := .dT kvs) (d := d) (o := o) (fun i σ H3 => ∃ v11 v12, σ = sh0 d n t top bot p q ++ [v7, v8, v9, v10, v11, v12] ∧ Same H2 H3) ⟨_, _, rfl, fun _ _ e => e⟩ (fun i σ H3 _ z => ?_) ?_ ?_
    · obtain ⟨_, _, _, s3⟩ := z
      exact s3 _ _ hd2
    · rintro i x y σ H3 T3 hi hkv ⟨v11, v12, rfl, s3⟩ hT3
      rcases hkv with ⟨_, _, e, _⟩ | ⟨kvs', ke, tk, e, hkv, rfl, htk⟩
      · cases e
      · cases e
        obtain ⟨a, b, ha, hb, eab, hval⟩ := I0.ow _ (List.mem_of_getElem? hkv)
        have eab' : ke = key a b := eab
        subst eab'
        obtain ⟨u, hu1, tu, rfl, htu⟩ := hk1 a b ha hb
        have ey : y = .ref tu := by
          have h1 : valV kvs (key a b) = some y := hval
          rw [hu1] at h1
          exact (Option.some.inj h1).symm
        subst ey
        have s4 := same_new hT3 (.tup [.ref tk, .ref tu])
        have s34 := s3.trans s4
        have htk4 : (upd H3 T3 (.tup [.ref tk, .ref tu])) tk = some (.tup [.int (a : Int), .int (b : Int)]) := s4 _ _ htk
        have ok := sl_ok n0 nn ha hb
        have ok' : sl n (wOf (fun s t => (M s t).1) top bot) n b ≤ sl n (wOf (fun s t => (M s t).1) top bot) n a + (bot * (M a b).1 - top) := ok
        refine ⟨T3, _, rfl, SqT.of upd_same, rfl, _, _, rfl, _, _, rfl, rfl, ?_⟩
        refine ⟨_, rfl, _, rfl, tu, _, 0, _, rfl, rfl, SqT.of (s34 _ _ htu), at0, _, _, rfl, rfl, .inl ⟨by omega, by omega⟩, _, rfl, _, rfl, tk, _, 0, _, rfl, rfl, SqT.of htk4, at0, q, _, _, _, rfl, rfl, SqL.of (s34 _ _ hq1), atI_nat (vecI_v _ ha), _, _, rfl, rfl, _, rfl, _, rfl, tk, _, 1, _, rfl, rfl, SqT.of htk4, at1, q, _, _, _, rfl, rfl, SqL.of (s34 _ _ hq1), atI_nat (vecI_v _ hb), _, _, rfl, rfl, _, rfl, _, _, rfl, rfl, _, rfl, ite2 (fun z => absurd (of_decide_eq_true z) (by omega)) (fun _ => ?_)⟩
        exact ⟨_, _, rfl, s34⟩
    · rintro σ H3 ⟨v11, v12, rfl, s3⟩
      exact kr _
  case rest2 =>
    obtain ⟨d, t, p, q, n, kvs, M, tot, top, bot, g, st, sa, c, v7, v8, rfl, I0, n0, n8, kr⟩ := h0
    have rn := I0.rn
    have s1 := rn.ls.s1
    have sn := rn.ls.sn
    have ll : ((loopI st c).map V.int).length = st := by rw [List.length_map, loopI_len]
    refine ⟨_, rfl, p, _, rfl, .inl (SqL.of I0.hp), _, rfl, by omega, by omega, for_range (n := ((loopI st c).map V.int).length) (fun k σ H2 => ∃ v10, σ = sh0 d n t top bot p q ++ [v7, v8, some (.int (if k = 0 then 0 else (M (c (st - 1)) (c 0)).1 + wsum (fun s t => (M s t).1) c (k - 1))), v10, none, none] ∧ Same H0 H2) ⟨_, rfl, fun _ _ e => e⟩ ?_ ?_⟩
    · rintro k σ H2 hk ⟨v10, rfl, s2⟩
      rw [ll] at hk
      have e0 : (0 : Int) + (k : Int) = (k : Int) := Int.zero_add _
      rw [e0]
      have I2 := I0.mono s2
      obtain ⟨b, hb, hbat, hbn⟩ : ∃ b : Nat, (if k = 0 then (0 : Int) else (M (c (st - 1)) (c 0)).1 + wsum (fun s t => (M s t).1) c (k - 1)) + (M b (c k)).1 = (if k + 1 = 0 then (0 : Int) else (M (c (st - 1)) (c 0)).1 + wsum (fun s t => (M s t).1) c (k + 1 - 1)) ∧ atI ((loopI st c).map V.int) ((k : Int) - 1) = some (.int (b : Int)) ∧ b < n := by
        cases k with
        | zero => exact ⟨c (st - 1), by rw [if_pos rfl, if_neg (by omega)]; show 0 + _ = _ + (0 : Int); omega, loopI_last c (by omega), rn.lp.cn _⟩
        | succ j =>
          refine ⟨c j, ?_, ?_, rn.lp.cn _⟩
          · rw [if_neg (by omega), if_neg (by omega)]
            show _ + wsum _ c j + _ = _ + (wsum _ c j + (M (c j) (c (j + 1))).1)
            omega
          · rw [show ((j + 1 : Nat) : Int) - 1 = (j : Int) by omega]
            exact atI_nat (loopI_v c (by omega))
      refine ⟨_, rfl, _, rfl, _, rfl, _, rfl, _, _, rfl, rfl, p, _, _, _, rfl, rfl, SqL.of I2.hp, hbat, _, rfl, _, rfl, p, _, _, _, rfl, rfl, SqL.of I2.hp, atI_nat (loopI_v c hk), (by show 2 ≤ sizeLine; decide), fun t2 ht2 => ?_⟩
      have s3 := same_new ht2 (.tup [.int (b : Int), .int ((c k : Nat) : Int)])
      have I3 := I2.mono s3
      obtain ⟨u, e1, tu, rfl, htu⟩ := I3.hk b (c k) hbn (rn.lp.cn _)
      have dg' := DGet.t (k := key b (c k)) (b := t2) I3.hd upd_same
      rw [e1] at dg'
      refine ⟨d, _, rfl, dg', tu, _, 0, _, rfl, rfl, SqT.of htu, at0, _, _, rfl, rfl, ?_⟩
      refine ⟨some (.int (k : Int)), ?_, s2.trans s3⟩
      rw [← hb]
      rfl
    · rintro σ H2 ⟨v10, rfl, s2⟩
      have I2 := I0.mono s2
      have bt0 := rn.b0
      have bt8 := rn.b8
      have fin : (if ((loopI st c).map V.int).length = 0 then (0 : Int) else (M (c (st - 1)) (c 0)).1 + wsum (fun s t => (M s t).1) c (((loopI st c).map V.int).length - 1)) = tot := by
        rw [ll, if_neg (by omega), ← rn.lp.sm]
        obtain ⟨r, rfl⟩ : ∃ r, st = r + 1 := ⟨st - 1, by omega⟩
        show (M (c r) (c 0)).1 + wsum (fun s t => (M s t).1) c r = wsum (fun s t => (M s t).1) c r + (M (c r) (c (r + 1))).1
        rw [rn.lp.c0, rn.lp.cs]
        omega
      rw [fin]
      refine ⟨_, rfl, _, rfl, _, _, rfl, rfl, .inr ⟨by omega, by omega⟩, _, rfl, _, rfl, p, _, rfl, .inl (SqL.of I2.hp), _, _, rfl, rfl, .inr ⟨by omega, by omega⟩, rfl, _, rfl, iteNS (congrArg V.int ?_) ?_⟩
      · rw [ll, rn.et, rn.es, Int.mul_assoc, Int.mul_comm g bot]
      · exact ⟨d, t, p, q, n, kvs, M, tot, top, bot, g, st, sa, c, _, _, _, _, rfl, I2, n0, n8, kr⟩
  case rest1 =>
    obtain ⟨d, t, p, q, n, kvs, M, tot, top, bot, g, st, sa, c, rfl, I0, n0, n8, kr⟩ := h0
    have rn := I0.rn
    have s1 := rn.ls.s1
    have sn := rn.ls.sn
    have ll : ((loopI st c).map V.int).length = st := by rw [List.length_map, loopI_len]
    intro b hb
    have sb := same_new hb (.dK [])
    refine ⟨_, rfl, p, rfl, ⟨_, SqL.of (sb _ _ I0.hp)⟩, for_list (K := K) (xs := (loopI st c).map V.int) (fun i σ H2 => ∃ (v8 : Option V) (ws : List (Key × V)), σ = sh0 d n t top bot p q ++ [some (.ref b), v8, none, none, none, none] ∧ Same H0 H2 ∧ H2 b = some (.dK ws) ∧ ws.length ≤ i ∧ ∀ z : Int, valV ws (Sum.inl z) ≠ none → ∃ j, j < i ∧ z = ((c j : Nat) : Int)) ⟨_, [], rfl, sb, upd_same, Nat.le_refl _, fun z h => absurd rfl h⟩ (fun i σ H2 _ z => ?_) ?_ ?_⟩
    · obtain ⟨_, _, _, s2, _⟩ := z
      exact SqL.of (s2 _ _ I0.hp)
    · rintro i x σ H2 hx ⟨v8, ws, rfl, s2, hb2, hwl, hws⟩
      have hi : i < st := by have := (List.getElem?_eq_some_iff.mp hx).1; omega
      rw [loopI_v c hi] at hx
      cases hx
      have ci := rn.lp.cn i
      have hnone : valV ws (Sum.inl ((c i : Nat) : Int)) = none := by
        cases e9 : valV ws (Sum.inl ((c i : Nat) : Int)) with
        | none => rfl
        | some z =>
          obtain ⟨j, hj, ej⟩ := hws _ (by rw [e9]; simp)
          exact absurd (by omega) (rn.lp.once n0 rn.ls hj hi)
      refine ⟨_, rfl, _, _, rfl, rfl, _, rfl, ite2 (fun z => absurd (of_decide_eq_true z) (by omega)) (fun _ => ?_)⟩
      refine ⟨_, rfl, _, rfl, _, _, rfl, rfl, _, rfl, ite2 (fun z => absurd (of_decide_eq_true z) (by omega)) (fun _ => ?_)⟩
      refine ⟨_, rfl, _, rfl, b, _, rfl, DGet.k (k := Sum.inl ((c i : Nat) : Int)) hb2, _, rfl, ?_⟩
      rw [hnone]
      refine iteF ?_
      refine ⟨_, rfl, _, rfl, b, _, rfl, DPut.k (k := Sum.inl ((c i : Nat) : Int)) hb2 (small1000 (by omega)), ?_⟩
      refine ⟨_, _, rfl, same_upd s2 hb _, upd_same, ?_, fun z hz => ?_⟩
      · unfold putK
        split
        · rw [List.length_map]; omega
        · rw [List.length_append, List.length_singleton]; omega
      · rw [valV_put] at hz
        by_cases e : (Sum.inl z : Key) = Sum.inl ((c i : Nat) : Int)
        · exact ⟨i, by omega, Sum.inl.inj e⟩
        · rw [if_neg e] at hz
          obtain ⟨j, hj, ej⟩ := hws z hz
          exact ⟨j, by omega, ej⟩
    · rintro σ H2 ⟨v8, ws, rfl, s2, hb2, hwl, hws⟩
      exact ⟨d, t, p, q, n, kvs, M, tot, top, bot, g, st, sa, c, _, _, rfl, I0.mono s2, n0, n8, kr⟩
  refine ⟨_, rfl, t, _, 0, _, rfl, rfl, SqT.of ht, rfl, ?_⟩
  refine ⟨_, rfl, t, _, 1, _, rfl, rfl, SqT.of ht, rfl, ?_⟩
  refine ⟨_, rfl, t, _, 2, _, rfl, rfl, SqT.of ht, rfl, ?_⟩
  refine ⟨_, rfl, t, _, 3, _, rfl, rfl, SqT.of ht, rfl, ?_⟩
  have I0 : ShI H d p q n kvs M tot top bot g st sa c := ⟨hd, ow, hk, hp, hq, rn⟩
  refine ⟨_, rfl, p, _, 1, rfl, hp, by omega, by omega, fun H1 s1 => ?_⟩
  refine ⟨_, rfl, iteF ?_⟩
  refine ⟨_, rfl, _, rfl, q, _, n, rfl, s1 _ _ hq, by omega, by omega, fun H2 s2 => ?_⟩
  refine ⟨_, rfl, iteF ?_⟩
  have s12 := s1.trans s2
  refine ⟨_, rfl, q, _, rfl, .inl (SqL.of (s12 _ _ hq)), _, rfl, rfl, _, rfl, iteNS (congrArg V.int (by rw [vlv])) ?_⟩
  exact ⟨d, t, p, q, n, kvs, M, tot, top, bot, g, st, sa, c, rfl, I0.mono s12, n0, n8, kk⟩
end
end KS


namespace KS
open PySem L2
local macro_rules | `(tactic| walk_at "cc") => `(tactic| first | exact ⟨by decide, by decide⟩ | (show (0 : Int) < _; decide) | (show (0 : Int) < _; omega) | (show (0 : Int) ≤ _; omega) | exact ⟨by decide, by decide, by decide⟩ | exact ⟨by omega, by omega, by decide⟩ | exact Or.inl ⟨by decide, by decide⟩ | exact Or.inl ⟨by omega, by omega⟩)
local macro_rules | `(tactic| walk_at "rd") => `(tactic| repeat (first | refine ⟨_, rfl, ?_⟩ | refine ⟨_, _, rfl, rfl, ?_⟩ | refine ⟨rfl, ?_⟩ | (refine ⟨?cc, ?_⟩; (case cc => walk_at "cc"))))

def restL : TS := fun D σ H => ∃ (a : Addr) (sh : Int) (r p : Nat) (vp : V) (pat : List Col), σ = [some (.ref a), some (.int sh), some (.int (r : Int)), some (.int (p : Int)), some vp, none, none] ∧ PatAt H vp pat ∧ Good r pat ∧ r * (pat.length + 1) ≤ 8 ∧ ∀ H', D.rt (.bl true) H'
section
variable {P : Program} {w : World} {K : PySem.W.Frag} {mg : Str → Option Value} {base : Heap}
theorem sc_law : FnScope ["script", "shape", "rows", "period", "pattern", "handed", "found"] ["script"] (defScope s_law) := ⟨rfl, rfl, rfl, by decide +kernel, rfl, by decide +kernel, by decide +kernel⟩
theorem ok_law {f f1 f2 f3 f4 f5 f6 f7 f8 : Addr} {fd fd1 fd2 fd3 fd4 fd5 fd6 fd7 fd8 : FuncData} (F : Fun K "law" "law" s_law f fd) (T : TxtL mg) (G_law_cell : Cal P w K mg base 1 "_law_cell" ["script", "k"] (spCell K) f1 fd1) (G_law_pattern : Cal P w K mg base 2 "_law_pattern" ["script", "rows", "period", "mode"] (spPat K) f2 fd2) (G_law_copy : Cal P w K mg base 1 "_law_copy" ["pattern"] spCopy f3 fd3) (G_long_run : Cal P w K mg base 7 "long_run" ["pattern"] spLR f4 fd4) (G_law_whole : Cal P w K mg base 1 "_law_whole" ["found"] spWhole f5 fd5) (G_law_shared : Cal P w K mg base 1 "_law_shared" ["one", "two"] spSh f6 fd6) (G_law_steps : Cal P w K mg base 3 "_law_steps" ["pattern", "rows"] spSteps f7 fd7) (G_law_shows : Cal P w K mg base 3 "_law_shows" ["due", "size", "found"] spShows f8 fd8) : FnOk P w K mg base CX0 8 f fd ["script"] (spLaw K) := by
  refine F.ok sc_law (fun vs H Q E h => ?_) (fun cdv A outer s H vs Q E hr h => ?_)
  · obtain ⟨a, ns, rfl, _⟩ := h
    rfl
  obtain ⟨a, ns, rfl, hS, h63, kl⟩ := h
  have hu64 := hr.units
  have hu := hu_of hr
  refine ⟨_, WSs.ok (wss_cons (ws_set (i := 1) sc_law.nd rfl (Or.inl rfl) (pe_op op_mod (pe_call G_law_cell.ok (hr.mono (by decide)) rfl G_law_cell.mg G_law_cell.kp G_law_cell.bn .nil pass0 (pa_cons (pv 0) (pa_cons pe_int pa_nil))) pe_int))
      (wss_cons (ws_set (i := 2) sc_law.nd rfl (Or.inl rfl) (pe_ix ix_list (pe_lst (pa_cons pe_int (pa_cons pe_int (pa_cons pe_int (pa_cons pe_int (pa_cons pe_int (pa_cons pe_int (pa_cons pe_int (pa_cons pe_int (pa_cons pe_int (pa_cons pe_int pa_nil))))))))))) (pv 1) (fun _ _ => rfl)))
      (wss_cons (ws_set (i := 3) sc_law.nd rfl (Or.inl rfl) (pe_ix ix_list (pe_lst (pa_cons pe_int (pa_cons pe_int (pa_cons pe_int (pa_cons pe_int (pa_cons pe_int (pa_cons pe_int (pa_cons pe_int (pa_cons pe_int (pa_cons pe_int (pa_cons pe_int pa_nil))))))))))) (pv 1) (fun _ _ => rfl)))
      (wss_cons (ws_set (i := 4) sc_law.nd rfl (Or.inl rfl) (pe_call G_law_pattern.ok (hr.mono (by decide)) rfl G_law_pattern.mg G_law_pattern.kp G_law_pattern.bn .nil pass0 (pa_cons (pv 0) (pa_cons (pv 2) (pa_cons (pv 3) (pa_cons (pe_op op_mod (pe_op op_fdiv (pe_call G_law_cell.ok (hr.mono (by decide)) rfl G_law_cell.mg G_law_cell.kp G_law_cell.bn .nil pass0 (pa_cons (pv 0) (pa_cons pe_int pa_nil))) pe_int) pe_int) pa_nil))))))
      (wss_imp (t2 := restL) (wss_cons (ws_set (i := 5) sc_law.nd rfl (Or.inl rfl) (pe_call G_law_copy.ok (hr.mono (by decide)) rfl G_law_copy.mg G_law_copy.kp G_law_copy.bn .nil pass0 (pa_cons (pv 4) pa_nil)))
      (wss_cons (ws_set (i := 6) sc_law.nd rfl (Or.inl rfl) (pe_call G_long_run.ok (hr.mono (by decide)) rfl G_long_run.mg G_long_run.kp G_long_run.bn .nil pass0 (pa_cons (pv 5) pa_nil)))
      (wss_cons (ws_if (PW.pt (pw_or (pt_cmpR (op_neD hu64) (pv 5) (pv 4) (nomark _)) (pw_or (pt_not (pt_val (pe_callB call_isi (by rfl) T.n_isinstance bt_isinstance (pa_cons (pv 6) (pa_cons (pe_bltn (v := .ty "tuple") rfl T.n_tuple bt_tuple rfl) pa_nil))))) (pw_or1 (pt_cmpR op_ne (pe_callB call_len_seq (by rfl) T.n_len bt_len (pa_cons (pv 6) pa_nil)) pe_int (nomark _)))))) (wss_one (ws_ret pe_bl)) wss_nil)
      (wss_cons (ws_if (PW.pt (pw_or (pt_not (pt_val (pe_call G_law_whole.ok (hr.mono (by decide)) rfl G_law_whole.mg G_law_whole.kp G_law_whole.bn .nil pass0 (pa_cons (pe_ix ix_tup (pv 6) pe_int (fun _ _ => rfl)) pa_nil)))) (pw_or (pt_not (pt_val (pe_call G_law_whole.ok (hr.mono (by decide)) rfl G_law_whole.mg G_law_whole.kp G_law_whole.bn .nil pass0 (pa_cons (pe_ix ix_tup (pv 6) pe_int (fun _ _ => rfl)) pa_nil)))) (pw_or1 (pt_cmpR op_lt (pe_ix ix_tup (pv 6) pe_int (fun _ _ => rfl)) pe_int (nomark _)))))) (wss_one (ws_ret pe_bl)) wss_nil)
      (wss_cons (ws_if (pt_cmpR op_ne (pe_call G_law_shared.ok (hr.mono (by decide)) rfl G_law_shared.mg G_law_shared.kp G_law_shared.bn .nil pass0 (pa_cons (pe_ix ix_tup (pv 6) pe_int (fun _ _ => rfl)) (pa_cons (pe_ix ix_tup (pv 6) pe_int (fun _ _ => rfl)) pa_nil))) pe_int (nomark _)) (wss_one (ws_ret pe_bl)) wss_nil)
      (wss_one (ws_ret (pe_call G_law_shows.ok (hr.mono (by decide)) rfl G_law_shows.mg G_law_shows.kp G_law_shows.bn .nil pass0 (pa_cons (pe_call G_law_steps.ok (hr.mono (by decide)) rfl G_law_steps.mg G_law_steps.kp G_law_steps.bn .nil pass0 (pa_cons (pv 4) (pa_cons (pv 2) pa_nil))) (pa_cons (pe_op op_shl pe_int (pv 2)) (pa_cons (pv 6) pa_nil))))))))))) (fun D0 S0 H0 h0 => ?rest1)))))), ?_⟩
  case rest1 =>
    obtain ⟨a, sh, r, p, vp, pat, rfl, hP, g, h8, kr⟩ := h0
    obtain ⟨n0, n8⟩ := g.n8
    have g1 := g.r1
    have g3 := g.r3
    have g6 := g.p6
    have e8 : (1 : Int) * 2 ^ ((r : Nat) : Int).toNat = ((2 ^ r : Nat) : Int) := by rw [Int.one_mul, Int.toNat_natCast]; push_cast; rfl
    have cp : CPow 1 (r : Int) := ⟨Int.natCast_nonneg _, by omega, by decide⟩
    refine ⟨_, rfl, vp, pat, rfl, hP, by omega, fun vh H1 s1 hh => ?_⟩
    refine ⟨_, rfl, vh, r, pat, rfl, hh, g, fun vf H2 s2 hf => ?_⟩
    refine ⟨_, rfl, _, rfl, _, (hh.mono s2).rd, (hP.mono (s1.trans s2)).rd, shapedP pat, _, rfl, iteF ?_⟩
    obtain ⟨t, pf, qf, tot, top, bot, gg, st, sa, c, rfl, ht, hp, hq, run⟩ := id hf
    have bt0 := run.b0
    obtain ⟨nb, enb⟩ : ∃ nb : Nat, bot = (nb : Int) := ⟨bot.toNat, by omega⟩
    refine ⟨_, rfl, _, _, _, _, _, rfl, TyOf.tup ht, Or.inl ⟨_, rfl, rfl⟩, kit_tt K, _, rfl, iteF ?_⟩
    refine ⟨_, rfl, t, _, rfl, .inr (SqT.of ht), rfl, _, rfl, iteNS rfl ?_⟩
    refine ⟨_, rfl, t, _, 0, _, rfl, rfl, SqT.of ht, rfl, top, rfl, _, rfl, iteF ?_⟩
    refine ⟨_, rfl, t, _, 1, _, rfl, rfl, SqT.of ht, rfl, bot, rfl, _, rfl, iteF ?_⟩
    refine ⟨_, rfl, t, _, 1, _, rfl, rfl, SqT.of ht, rfl, _, _, rfl, rfl, _, rfl, ite2 (fun z => absurd (of_decide_eq_true z) (by omega)) (fun _ => ?_)⟩
    have co : Int.gcd top (nb : Int) = 1 := by rw [← enb]; exact run.co
    refine ⟨_, rfl, t, _, 0, _, rfl, rfl, SqT.of ht, rfl, _, rfl, t, _, 1, _, rfl, rfl, SqT.of ht, rfl, top, nb, by rw [enb]; rfl, rfl, _, rfl, iteNS (congrArg V.int (by rw [co]; rfl)) ?_⟩
    refine ⟨_, rfl, _, rfl, vp, r, pat, rfl, hP.mono (s1.trans s2), g, h8, fun d kvs H3 s3 hd ow hk => ?_⟩
    refine ⟨_, rfl, _, _, rfl, rfl, cp, _, rfl, d, 2 ^ r, .ref t, kvs, stepM (2 ^ r) pat, by show [V.ref d, V.int (1 * 2 ^ ((r : Nat) : Int).toNat), V.ref t] = _; rw [e8], hd, ow, hk, ?_, n0, n8, kr⟩
    exact ⟨t, pf, qf, tot, top, bot, gg, st, sa, c, rfl, s3 _ _ ht, s3 _ _ hp, s3 _ _ hq, run⟩
  refine ⟨_, rfl, a, 0, ns, rfl, hS, ?_⟩
  generalize hfi : cellD ns 0 = fi
  have c0 := Int.emod_nonneg fi (show (10 : Int) ≠ 0 by decide)
  have c1 := Int.emod_lt_of_pos fi (show (0 : Int) < 10 by decide)
  refine ⟨_, _, rfl, rfl, (by show (0 : Int) < 10; decide), ?_⟩
  obtain ⟨sh, esh⟩ : ∃ sh, fi % 10 = sh := ⟨_, rfl⟩
  rw [esh] at c0 c1
  simp only [esh]
  obtain ⟨r, p, er, ep, r1, r3, p1, p6, h8⟩ : ∃ r p : Nat, atI [V.int 1, V.int 1, V.int 1, V.int 1, V.int 1, V.int 1, V.int 2, V.int 2, V.int 2, V.int 3] sh = some (V.int (r : Int)) ∧ atI [V.int 1, V.int 2, V.int 3, V.int 4, V.int 5, V.int 6, V.int 1, V.int 2, V.int 3, V.int 1] sh = some (V.int (p : Int)) ∧ 1 ≤ r ∧ r ≤ 3 ∧ 1 ≤ p ∧ p ≤ 6 ∧ r * (p + 1) ≤ 8 := by
    have : sh = 0 ∨ sh = 1 ∨ sh = 2 ∨ sh = 3 ∨ sh = 4 ∨ sh = 5 ∨ sh = 6 ∨ sh = 7 ∨ sh = 8 ∨ sh = 9 := by omega
    rcases this with rfl | rfl | rfl | rfl | rfl | rfl | rfl | rfl | rfl | rfl
    · exact ⟨1, 1, rfl, rfl, by decide, by decide, by decide, by decide, by decide⟩
    · exact ⟨1, 2, rfl, rfl, by decide, by decide, by decide, by decide, by decide⟩
    · exact ⟨1, 3, rfl, rfl, by decide, by decide, by decide, by decide, by decide⟩
    · exact ⟨1, 4, rfl, rfl, by decide, by decide, by decide, by decide, by decide⟩
    · exact ⟨1, 5, rfl, rfl, by decide, by decide, by decide, by decide, by decide⟩
    · exact ⟨1, 6, rfl, rfl, by decide, by decide, by decide, by decide, by decide⟩
    · exact ⟨2, 1, rfl, rfl, by decide, by decide, by decide, by decide, by decide⟩
    · exact ⟨2, 2, rfl, rfl, by decide, by decide, by decide, by decide, by decide⟩
    · exact ⟨2, 3, rfl, rfl, by decide, by decide, by decide, by decide, by decide⟩
    · exact ⟨3, 1, rfl, rfl, by decide, by decide, by decide, by decide, by decide⟩
  refine ⟨(by show 10 ≤ sizeLine; decide), fun q1 hq1 => ?_⟩
  have s1 := same_new hq1 (.lst [V.int 1, V.int 1, V.int 1, V.int 1, V.int 1, V.int 1, V.int 2, V.int 2, V.int 2, V.int 3])
  refine ⟨_, rfl, q1, _, _, _, rfl, rfl, SqL.of upd_same, er, ?_⟩
  refine ⟨(by show 10 ≤ sizeLine; decide), fun q2 hq2 => ?_⟩
  have s2 := same_new hq2 (.lst [V.int 1, V.int 2, V.int 3, V.int 4, V.int 5, V.int 6, V.int 1, V.int 2, V.int 3, V.int 1])
  refine ⟨_, rfl, q2, _, _, _, rfl, rfl, SqL.of upd_same, ep, ?_⟩
  have hS2 := (s1.trans s2).seq hS
  have d0 := Int.emod_nonneg (fi / 10) (show (3 : Int) ≠ 0 by decide)
  have d1 := Int.emod_lt_of_pos (fi / 10) (show (0 : Int) < 3 by decide)
  refine ⟨_, rfl, _, rfl, _, rfl, _, rfl, a, 0, ns, rfl, hS2, ?_⟩
  rw [hfi]
  refine ⟨_, _, rfl, rfl, ⟨by decide, by decide⟩, _, _, rfl, rfl, (by show (0 : Int) < 3; decide), a, ns, r, p, fi / 10 % 3, rfl, hS2, h63, r1, r3, p1, p6, d0, by omega, fun vp H1 pat s3 hP hpl g => ?_⟩
  exact ⟨a, sh, r, p, vp, pat, rfl, hP, g, by rw [hpl]; exact h8, kl⟩
end
end KS

namespace KS
open PySem L2
theorem all_mk {l : PySem.W.OpenLaw} {w : World} {K : PySem.W.Frag} {h : Heap} {mg : Str → Option Value} {fa f_counted_together f_joined_row f_tables_joined f_paid_alike f_paid_unlike f_refuse_pattern f_rows_of f_price_between f_price_of_all f_price_across f_price_along f_column_table f_step_table f_lows_of f_least_to f_one_step_on f_sums_from f_cheapest_walk f_loop_back f_common_divisor f_slopes_of f_long_run_of f_long_run f_law_cell f_law_whole f_law_strength f_law_pattern f_law_copy f_law_paid f_law_sign f_law_across f_law_along f_law_steps f_law_shared f_law_wholes f_law_shows f_law : Addr} (X : K.In h) (G : h.Ns mainGlobals mg) (hfa : mg "law" = some (.ref fa))
    {od_counted_together an_counted_together od_joined_row an_joined_row od_tables_joined an_tables_joined od_paid_alike an_paid_alike od_paid_unlike an_paid_unlike od_refuse_pattern an_refuse_pattern od_rows_of an_rows_of od_price_between an_price_between od_price_of_all an_price_of_all od_price_across an_price_across od_price_along an_price_along od_column_table an_column_table od_step_table an_step_table od_lows_of an_lows_of od_least_to an_least_to od_one_step_on an_one_step_on od_sums_from an_sums_from od_cheapest_walk an_cheapest_walk od_loop_back an_loop_back od_common_divisor an_common_divisor od_slopes_of an_slopes_of od_long_run_of an_long_run_of od_long_run an_long_run od_law_cell an_law_cell od_law_whole an_law_whole od_law_strength an_law_strength od_law_pattern an_law_pattern od_law_copy an_law_copy od_law_paid an_law_paid od_law_sign an_law_sign od_law_across an_law_across od_law_along an_law_along od_law_steps an_law_steps od_law_shared an_law_shared od_law_wholes an_law_wholes od_law_shows an_law_shows od_law an_law : Option Addr} {sl_counted_together sl_joined_row sl_tables_joined sl_paid_alike sl_paid_unlike sl_refuse_pattern sl_rows_of sl_price_between sl_price_of_all sl_price_across sl_price_along sl_column_table sl_step_table sl_lows_of sl_least_to sl_one_step_on sl_sums_from sl_cheapest_walk sl_loop_back sl_common_divisor sl_slopes_of sl_long_run_of sl_long_run sl_law_cell sl_law_whole sl_law_strength sl_law_pattern sl_law_copy sl_law_paid sl_law_sign sl_law_across sl_law_along sl_law_steps sl_law_shared sl_law_wholes sl_law_shows sl_law : Array (Option Value)} {oc_counted_together kV_counted_together dc_counted_together pm_counted_together cd_counted_together ct_counted_together oc_joined_row kV_joined_row dc_joined_row pm_joined_row cd_joined_row ct_joined_row oc_tables_joined kV_tables_joined dc_tables_joined pm_tables_joined cd_tables_joined ct_tables_joined oc_paid_alike kV_paid_alike dc_paid_alike pm_paid_alike cd_paid_alike ct_paid_alike oc_paid_unlike kV_paid_unlike dc_paid_unlike pm_paid_unlike cd_paid_unlike ct_paid_unlike oc_refuse_pattern kV_refuse_pattern dc_refuse_pattern pm_refuse_pattern cd_refuse_pattern ct_refuse_pattern oc_rows_of kV_rows_of dc_rows_of pm_rows_of cd_rows_of ct_rows_of oc_price_between kV_price_between dc_price_between pm_price_between cd_price_between ct_price_between oc_price_of_all kV_price_of_all dc_price_of_all pm_price_of_all cd_price_of_all ct_price_of_all oc_price_across kV_price_across dc_price_across pm_price_across cd_price_across ct_price_across oc_price_along kV_price_along dc_price_along pm_price_along cd_price_along ct_price_along oc_column_table kV_column_table dc_column_table pm_column_table cd_column_table ct_column_table oc_step_table kV_step_table dc_step_table pm_step_table cd_step_table ct_step_table oc_lows_of kV_lows_of dc_lows_of pm_lows_of cd_lows_of ct_lows_of oc_least_to kV_least_to dc_least_to pm_least_to cd_least_to ct_least_to oc_one_step_on kV_one_step_on dc_one_step_on pm_one_step_on cd_one_step_on ct_one_step_on oc_sums_from kV_sums_from dc_sums_from pm_sums_from cd_sums_from ct_sums_from oc_cheapest_walk kV_cheapest_walk dc_cheapest_walk pm_cheapest_walk cd_cheapest_walk ct_cheapest_walk oc_loop_back kV_loop_back dc_loop_back pm_loop_back cd_loop_back ct_loop_back oc_common_divisor kV_common_divisor dc_common_divisor pm_common_divisor cd_common_divisor ct_common_divisor oc_slopes_of kV_slopes_of dc_slopes_of pm_slopes_of cd_slopes_of ct_slopes_of oc_long_run_of kV_long_run_of dc_long_run_of pm_long_run_of cd_long_run_of ct_long_run_of oc_long_run kV_long_run dc_long_run pm_long_run cd_long_run ct_long_run oc_law_cell kV_law_cell dc_law_cell pm_law_cell cd_law_cell ct_law_cell oc_law_whole kV_law_whole dc_law_whole pm_law_whole cd_law_whole ct_law_whole oc_law_strength kV_law_strength dc_law_strength pm_law_strength cd_law_strength ct_law_strength oc_law_pattern kV_law_pattern dc_law_pattern pm_law_pattern cd_law_pattern ct_law_pattern oc_law_copy kV_law_copy dc_law_copy pm_law_copy cd_law_copy ct_law_copy oc_law_paid kV_law_paid dc_law_paid pm_law_paid cd_law_paid ct_law_paid oc_law_sign kV_law_sign dc_law_sign pm_law_sign cd_law_sign ct_law_sign oc_law_across kV_law_across dc_law_across pm_law_across cd_law_across ct_law_across oc_law_along kV_law_along dc_law_along pm_law_along cd_law_along ct_law_along oc_law_steps kV_law_steps dc_law_steps pm_law_steps cd_law_steps ct_law_steps oc_law_shared kV_law_shared dc_law_shared pm_law_shared cd_law_shared ct_law_shared oc_law_wholes kV_law_wholes dc_law_wholes pm_law_wholes cd_law_wholes ct_law_wholes oc_law_shows kV_law_shows dc_law_shows pm_law_shows cd_law_shows ct_law_shows oc_law kV_law dc_law pm_law cd_law ct_law : Value}
    {ti_most ti_rows : Tok}
    (a_counted_together : PySem.W.nsIn K mainGlobals "counted_together" = some (some (.ref f_counted_together)))
    (l_counted_together : K.lookup f_counted_together = some ⟨oc_counted_together, od_counted_together, .func (PySem.W.fnOf "counted_together" "counted_together" (defArgs s_counted_together) (defBody s_counted_together) (defScope s_counted_together) .none kV_counted_together dc_counted_together pm_counted_together an_counted_together cd_counted_together ct_counted_together), sl_counted_together⟩)
    (c_counted_together : PySem.W.codeIn K cd_counted_together "counted_together" = true)
    (k_counted_together : PySem.W.keepIn K (.ref f_counted_together) = true)
    (a_joined_row : PySem.W.nsIn K mainGlobals "joined_row" = some (some (.ref f_joined_row)))
    (l_joined_row : K.lookup f_joined_row = some ⟨oc_joined_row, od_joined_row, .func (PySem.W.fnOf "joined_row" "joined_row" (defArgs s_joined_row) (defBody s_joined_row) (defScope s_joined_row) .none kV_joined_row dc_joined_row pm_joined_row an_joined_row cd_joined_row ct_joined_row), sl_joined_row⟩)
    (c_joined_row : PySem.W.codeIn K cd_joined_row "joined_row" = true)
    (k_joined_row : PySem.W.keepIn K (.ref f_joined_row) = true)
    (a_tables_joined : PySem.W.nsIn K mainGlobals "tables_joined" = some (some (.ref f_tables_joined)))
    (l_tables_joined : K.lookup f_tables_joined = some ⟨oc_tables_joined, od_tables_joined, .func (PySem.W.fnOf "tables_joined" "tables_joined" (defArgs s_tables_joined) (defBody s_tables_joined) (defScope s_tables_joined) .none kV_tables_joined dc_tables_joined pm_tables_joined an_tables_joined cd_tables_joined ct_tables_joined), sl_tables_joined⟩)
    (c_tables_joined : PySem.W.codeIn K cd_tables_joined "tables_joined" = true)
    (k_tables_joined : PySem.W.keepIn K (.ref f_tables_joined) = true)
    (a_paid_alike : PySem.W.nsIn K mainGlobals "paid_alike" = some (some (.ref f_paid_alike)))
    (l_paid_alike : K.lookup f_paid_alike = some ⟨oc_paid_alike, od_paid_alike, .func (PySem.W.fnOf "paid_alike" "paid_alike" (defArgs s_paid_alike) (defBody s_paid_alike) (defScope s_paid_alike) .none kV_paid_alike dc_paid_alike pm_paid_alike an_paid_alike cd_paid_alike ct_paid_alike), sl_paid_alike⟩)
    (c_paid_alike : PySem.W.codeIn K cd_paid_alike "paid_alike" = true)
    (k_paid_alike : PySem.W.keepIn K (.ref f_paid_alike) = true)
    (a_paid_unlike : PySem.W.nsIn K mainGlobals "paid_unlike" = some (some (.ref f_paid_unlike)))
    (l_paid_unlike : K.lookup f_paid_unlike = some ⟨oc_paid_unlike, od_paid_unlike, .func (PySem.W.fnOf "paid_unlike" "paid_unlike" (defArgs s_paid_unlike) (defBody s_paid_unlike) (defScope s_paid_unlike) .none kV_paid_unlike dc_paid_unlike pm_paid_unlike an_paid_unlike cd_paid_unlike ct_paid_unlike), sl_paid_unlike⟩)
    (c_paid_unlike : PySem.W.codeIn K cd_paid_unlike "paid_unlike" = true)
    (k_paid_unlike : PySem.W.keepIn K (.ref f_paid_unlike) = true)
    (a_refuse_pattern : PySem.W.nsIn K mainGlobals "refuse_pattern" = some (some (.ref f_refuse_pattern)))
    (l_refuse_pattern : K.lookup f_refuse_pattern = some ⟨oc_refuse_pattern, od_refuse_pattern, .func (PySem.W.fnOf "refuse_pattern" "refuse_pattern" (defArgs s_refuse_pattern) (defBody s_refuse_pattern) (defScope s_refuse_pattern) .none kV_refuse_pattern dc_refuse_pattern pm_refuse_pattern an_refuse_pattern cd_refuse_pattern ct_refuse_pattern), sl_refuse_pattern⟩)
    (c_refuse_pattern : PySem.W.codeIn K cd_refuse_pattern "refuse_pattern" = true)
    (k_refuse_pattern : PySem.W.keepIn K (.ref f_refuse_pattern) = true)
    (a_rows_of : PySem.W.nsIn K mainGlobals "rows_of" = some (some (.ref f_rows_of)))
    (l_rows_of : K.lookup f_rows_of = some ⟨oc_rows_of, od_rows_of, .func (PySem.W.fnOf "rows_of" "rows_of" (defArgs s_rows_of) (defBody s_rows_of) (defScope s_rows_of) .none kV_rows_of dc_rows_of pm_rows_of an_rows_of cd_rows_of ct_rows_of), sl_rows_of⟩)
    (c_rows_of : PySem.W.codeIn K cd_rows_of "rows_of" = true)
    (k_rows_of : PySem.W.keepIn K (.ref f_rows_of) = true)
    (a_price_between : PySem.W.nsIn K mainGlobals "price_between" = some (some (.ref f_price_between)))
    (l_price_between : K.lookup f_price_between = some ⟨oc_price_between, od_price_between, .func (PySem.W.fnOf "price_between" "price_between" (defArgs s_price_between) (defBody s_price_between) (defScope s_price_between) .none kV_price_between dc_price_between pm_price_between an_price_between cd_price_between ct_price_between), sl_price_between⟩)
    (c_price_between : PySem.W.codeIn K cd_price_between "price_between" = true)
    (k_price_between : PySem.W.keepIn K (.ref f_price_between) = true)
    (a_price_of_all : PySem.W.nsIn K mainGlobals "price_of_all" = some (some (.ref f_price_of_all)))
    (l_price_of_all : K.lookup f_price_of_all = some ⟨oc_price_of_all, od_price_of_all, .func (PySem.W.fnOf "price_of_all" "price_of_all" (defArgs s_price_of_all) (defBody s_price_of_all) (defScope s_price_of_all) .none kV_price_of_all dc_price_of_all pm_price_of_all an_price_of_all cd_price_of_all ct_price_of_all), sl_price_of_all⟩)
    (c_price_of_all : PySem.W.codeIn K cd_price_of_all "price_of_all" = true)
    (k_price_of_all : PySem.W.keepIn K (.ref f_price_of_all) = true)
    (a_price_across : PySem.W.nsIn K mainGlobals "price_across" = some (some (.ref f_price_across)))
    (l_price_across : K.lookup f_price_across = some ⟨oc_price_across, od_price_across, .func (PySem.W.fnOf "price_across" "price_across" (defArgs s_price_across) (defBody s_price_across) (defScope s_price_across) .none kV_price_across dc_price_across pm_price_across an_price_across cd_price_across ct_price_across), sl_price_across⟩)
    (c_price_across : PySem.W.codeIn K cd_price_across "price_across" = true)
    (k_price_across : PySem.W.keepIn K (.ref f_price_across) = true)
    (a_price_along : PySem.W.nsIn K mainGlobals "price_along" = some (some (.ref f_price_along)))
    (l_price_along : K.lookup f_price_along = some ⟨oc_price_along, od_price_along, .func (PySem.W.fnOf "price_along" "price_along" (defArgs s_price_along) (defBody s_price_along) (defScope s_price_along) .none kV_price_along dc_price_along pm_price_along an_price_along cd_price_along ct_price_along), sl_price_along⟩)
    (c_price_along : PySem.W.codeIn K cd_price_along "price_along" = true)
    (k_price_along : PySem.W.keepIn K (.ref f_price_along) = true)
    (a_column_table : PySem.W.nsIn K mainGlobals "column_table" = some (some (.ref f_column_table)))
    (l_column_table : K.lookup f_column_table = some ⟨oc_column_table, od_column_table, .func (PySem.W.fnOf "column_table" "column_table" (defArgs s_column_table) (defBody s_column_table) (defScope s_column_table) .none kV_column_table dc_column_table pm_column_table an_column_table cd_column_table ct_column_table), sl_column_table⟩)
    (c_column_table : PySem.W.codeIn K cd_column_table "column_table" = true)
    (k_column_table : PySem.W.keepIn K (.ref f_column_table) = true)
    (a_step_table : PySem.W.nsIn K mainGlobals "step_table" = some (some (.ref f_step_table)))
    (l_step_table : K.lookup f_step_table = some ⟨oc_step_table, od_step_table, .func (PySem.W.fnOf "step_table" "step_table" (defArgs s_step_table) (defBody s_step_table) (defScope s_step_table) .none kV_step_table dc_step_table pm_step_table an_step_table cd_step_table ct_step_table), sl_step_table⟩)
    (c_step_table : PySem.W.codeIn K cd_step_table "step_table" = true)
    (k_step_table : PySem.W.keepIn K (.ref f_step_table) = true)
    (a_lows_of : PySem.W.nsIn K mainGlobals "lows_of" = some (some (.ref f_lows_of)))
    (l_lows_of : K.lookup f_lows_of = some ⟨oc_lows_of, od_lows_of, .func (PySem.W.fnOf "lows_of" "lows_of" (defArgs s_lows_of) (defBody s_lows_of) (defScope s_lows_of) .none kV_lows_of dc_lows_of pm_lows_of an_lows_of cd_lows_of ct_lows_of), sl_lows_of⟩)
    (c_lows_of : PySem.W.codeIn K cd_lows_of "lows_of" = true)
    (k_lows_of : PySem.W.keepIn K (.ref f_lows_of) = true)
    (a_least_to : PySem.W.nsIn K mainGlobals "least_to" = some (some (.ref f_least_to)))
    (l_least_to : K.lookup f_least_to = some ⟨oc_least_to, od_least_to, .func (PySem.W.fnOf "least_to" "least_to" (defArgs s_least_to) (defBody s_least_to) (defScope s_least_to) .none kV_least_to dc_least_to pm_least_to an_least_to cd_least_to ct_least_to), sl_least_to⟩)
    (c_least_to : PySem.W.codeIn K cd_least_to "least_to" = true)
    (k_least_to : PySem.W.keepIn K (.ref f_least_to) = true)
    (a_one_step_on : PySem.W.nsIn K mainGlobals "one_step_on" = some (some (.ref f_one_step_on)))
    (l_one_step_on : K.lookup f_one_step_on = some ⟨oc_one_step_on, od_one_step_on, .func (PySem.W.fnOf "one_step_on" "one_step_on" (defArgs s_one_step_on) (defBody s_one_step_on) (defScope s_one_step_on) .none kV_one_step_on dc_one_step_on pm_one_step_on an_one_step_on cd_one_step_on ct_one_step_on), sl_one_step_on⟩)
    (c_one_step_on : PySem.W.codeIn K cd_one_step_on "one_step_on" = true)
    (k_one_step_on : PySem.W.keepIn K (.ref f_one_step_on) = true)
    (a_sums_from : PySem.W.nsIn K mainGlobals "sums_from" = some (some (.ref f_sums_from)))
    (l_sums_from : K.lookup f_sums_from = some ⟨oc_sums_from, od_sums_from, .func (PySem.W.fnOf "sums_from" "sums_from" (defArgs s_sums_from) (defBody s_sums_from) (defScope s_sums_from) .none kV_sums_from dc_sums_from pm_sums_from an_sums_from cd_sums_from ct_sums_from), sl_sums_from⟩)
    (c_sums_from : PySem.W.codeIn K cd_sums_from "sums_from" = true)
    (k_sums_from : PySem.W.keepIn K (.ref f_sums_from) = true)
    (a_cheapest_walk : PySem.W.nsIn K mainGlobals "cheapest_walk" = some (some (.ref f_cheapest_walk)))
    (l_cheapest_walk : K.lookup f_cheapest_walk = some ⟨oc_cheapest_walk, od_cheapest_walk, .func (PySem.W.fnOf "cheapest_walk" "cheapest_walk" (defArgs s_cheapest_walk) (defBody s_cheapest_walk) (defScope s_cheapest_walk) .none kV_cheapest_walk dc_cheapest_walk pm_cheapest_walk an_cheapest_walk cd_cheapest_walk ct_cheapest_walk), sl_cheapest_walk⟩)
    (c_cheapest_walk : PySem.W.codeIn K cd_cheapest_walk "cheapest_walk" = true)
    (k_cheapest_walk : PySem.W.keepIn K (.ref f_cheapest_walk) = true)
    (a_loop_back : PySem.W.nsIn K mainGlobals "loop_back" = some (some (.ref f_loop_back)))
    (l_loop_back : K.lookup f_loop_back = some ⟨oc_loop_back, od_loop_back, .func (PySem.W.fnOf "loop_back" "loop_back" (defArgs s_loop_back) (defBody s_loop_back) (defScope s_loop_back) .none kV_loop_back dc_loop_back pm_loop_back an_loop_back cd_loop_back ct_loop_back), sl_loop_back⟩)
    (c_loop_back : PySem.W.codeIn K cd_loop_back "loop_back" = true)
    (k_loop_back : PySem.W.keepIn K (.ref f_loop_back) = true)
    (a_common_divisor : PySem.W.nsIn K mainGlobals "common_divisor" = some (some (.ref f_common_divisor)))
    (l_common_divisor : K.lookup f_common_divisor = some ⟨oc_common_divisor, od_common_divisor, .func (PySem.W.fnOf "common_divisor" "common_divisor" (defArgs s_common_divisor) (defBody s_common_divisor) (defScope s_common_divisor) .none kV_common_divisor dc_common_divisor pm_common_divisor an_common_divisor cd_common_divisor ct_common_divisor), sl_common_divisor⟩)
    (c_common_divisor : PySem.W.codeIn K cd_common_divisor "common_divisor" = true)
    (k_common_divisor : PySem.W.keepIn K (.ref f_common_divisor) = true)
    (a_slopes_of : PySem.W.nsIn K mainGlobals "slopes_of" = some (some (.ref f_slopes_of)))
    (l_slopes_of : K.lookup f_slopes_of = some ⟨oc_slopes_of, od_slopes_of, .func (PySem.W.fnOf "slopes_of" "slopes_of" (defArgs s_slopes_of) (defBody s_slopes_of) (defScope s_slopes_of) .none kV_slopes_of dc_slopes_of pm_slopes_of an_slopes_of cd_slopes_of ct_slopes_of), sl_slopes_of⟩)
    (c_slopes_of : PySem.W.codeIn K cd_slopes_of "slopes_of" = true)
    (k_slopes_of : PySem.W.keepIn K (.ref f_slopes_of) = true)
    (a_long_run_of : PySem.W.nsIn K mainGlobals "long_run_of" = some (some (.ref f_long_run_of)))
    (l_long_run_of : K.lookup f_long_run_of = some ⟨oc_long_run_of, od_long_run_of, .func (PySem.W.fnOf "long_run_of" "long_run_of" (defArgs s_long_run_of) (defBody s_long_run_of) (defScope s_long_run_of) .none kV_long_run_of dc_long_run_of pm_long_run_of an_long_run_of cd_long_run_of ct_long_run_of), sl_long_run_of⟩)
    (c_long_run_of : PySem.W.codeIn K cd_long_run_of "long_run_of" = true)
    (k_long_run_of : PySem.W.keepIn K (.ref f_long_run_of) = true)
    (a_long_run : PySem.W.nsIn K mainGlobals "long_run" = some (some (.ref f_long_run)))
    (l_long_run : K.lookup f_long_run = some ⟨oc_long_run, od_long_run, .func (PySem.W.fnOf "long_run" "long_run" (defArgs s_long_run) (defBody s_long_run) (defScope s_long_run) .none kV_long_run dc_long_run pm_long_run an_long_run cd_long_run ct_long_run), sl_long_run⟩)
    (c_long_run : PySem.W.codeIn K cd_long_run "long_run" = true)
    (k_long_run : PySem.W.keepIn K (.ref f_long_run) = true)
    (a_law_cell : PySem.W.nsIn K mainGlobals "_law_cell" = some (some (.ref f_law_cell)))
    (l_law_cell : K.lookup f_law_cell = some ⟨oc_law_cell, od_law_cell, .func (PySem.W.fnOf "_law_cell" "_law_cell" (defArgs s_law_cell) (defBody s_law_cell) (defScope s_law_cell) .none kV_law_cell dc_law_cell pm_law_cell an_law_cell cd_law_cell ct_law_cell), sl_law_cell⟩)
    (c_law_cell : PySem.W.codeIn K cd_law_cell "_law_cell" = true)
    (k_law_cell : PySem.W.keepIn K (.ref f_law_cell) = true)
    (a_law_whole : PySem.W.nsIn K mainGlobals "_law_whole" = some (some (.ref f_law_whole)))
    (l_law_whole : K.lookup f_law_whole = some ⟨oc_law_whole, od_law_whole, .func (PySem.W.fnOf "_law_whole" "_law_whole" (defArgs s_law_whole) (defBody s_law_whole) (defScope s_law_whole) .none kV_law_whole dc_law_whole pm_law_whole an_law_whole cd_law_whole ct_law_whole), sl_law_whole⟩)
    (c_law_whole : PySem.W.codeIn K cd_law_whole "_law_whole" = true)
    (k_law_whole : PySem.W.keepIn K (.ref f_law_whole) = true)
    (a_law_strength : PySem.W.nsIn K mainGlobals "_law_strength" = some (some (.ref f_law_strength)))
    (l_law_strength : K.lookup f_law_strength = some ⟨oc_law_strength, od_law_strength, .func (PySem.W.fnOf "_law_strength" "_law_strength" (defArgs s_law_strength) (defBody s_law_strength) (defScope s_law_strength) .none kV_law_strength dc_law_strength pm_law_strength an_law_strength cd_law_strength ct_law_strength), sl_law_strength⟩)
    (c_law_strength : PySem.W.codeIn K cd_law_strength "_law_strength" = true)
    (k_law_strength : PySem.W.keepIn K (.ref f_law_strength) = true)
    (a_law_pattern : PySem.W.nsIn K mainGlobals "_law_pattern" = some (some (.ref f_law_pattern)))
    (l_law_pattern : K.lookup f_law_pattern = some ⟨oc_law_pattern, od_law_pattern, .func (PySem.W.fnOf "_law_pattern" "_law_pattern" (defArgs s_law_pattern) (defBody s_law_pattern) (defScope s_law_pattern) .none kV_law_pattern dc_law_pattern pm_law_pattern an_law_pattern cd_law_pattern ct_law_pattern), sl_law_pattern⟩)
    (c_law_pattern : PySem.W.codeIn K cd_law_pattern "_law_pattern" = true)
    (k_law_pattern : PySem.W.keepIn K (.ref f_law_pattern) = true)
    (a_law_copy : PySem.W.nsIn K mainGlobals "_law_copy" = some (some (.ref f_law_copy)))
    (l_law_copy : K.lookup f_law_copy = some ⟨oc_law_copy, od_law_copy, .func (PySem.W.fnOf "_law_copy" "_law_copy" (defArgs s_law_copy) (defBody s_law_copy) (defScope s_law_copy) .none kV_law_copy dc_law_copy pm_law_copy an_law_copy cd_law_copy ct_law_copy), sl_law_copy⟩)
    (c_law_copy : PySem.W.codeIn K cd_law_copy "_law_copy" = true)
    (k_law_copy : PySem.W.keepIn K (.ref f_law_copy) = true)
    (a_law_paid : PySem.W.nsIn K mainGlobals "_law_paid" = some (some (.ref f_law_paid)))
    (l_law_paid : K.lookup f_law_paid = some ⟨oc_law_paid, od_law_paid, .func (PySem.W.fnOf "_law_paid" "_law_paid" (defArgs s_law_paid) (defBody s_law_paid) (defScope s_law_paid) .none kV_law_paid dc_law_paid pm_law_paid an_law_paid cd_law_paid ct_law_paid), sl_law_paid⟩)
    (c_law_paid : PySem.W.codeIn K cd_law_paid "_law_paid" = true)
    (k_law_paid : PySem.W.keepIn K (.ref f_law_paid) = true)
    (a_law_sign : PySem.W.nsIn K mainGlobals "_law_sign" = some (some (.ref f_law_sign)))
    (l_law_sign : K.lookup f_law_sign = some ⟨oc_law_sign, od_law_sign, .func (PySem.W.fnOf "_law_sign" "_law_sign" (defArgs s_law_sign) (defBody s_law_sign) (defScope s_law_sign) .none kV_law_sign dc_law_sign pm_law_sign an_law_sign cd_law_sign ct_law_sign), sl_law_sign⟩)
    (c_law_sign : PySem.W.codeIn K cd_law_sign "_law_sign" = true)
    (k_law_sign : PySem.W.keepIn K (.ref f_law_sign) = true)
    (a_law_across : PySem.W.nsIn K mainGlobals "_law_across" = some (some (.ref f_law_across)))
    (l_law_across : K.lookup f_law_across = some ⟨oc_law_across, od_law_across, .func (PySem.W.fnOf "_law_across" "_law_across" (defArgs s_law_across) (defBody s_law_across) (defScope s_law_across) .none kV_law_across dc_law_across pm_law_across an_law_across cd_law_across ct_law_across), sl_law_across⟩)
    (c_law_across : PySem.W.codeIn K cd_law_across "_law_across" = true)
    (k_law_across : PySem.W.keepIn K (.ref f_law_across) = true)
    (a_law_along : PySem.W.nsIn K mainGlobals "_law_along" = some (some (.ref f_law_along)))
    (l_law_along : K.lookup f_law_along = some ⟨oc_law_along, od_law_along, .func (PySem.W.fnOf "_law_along" "_law_along" (defArgs s_law_along) (defBody s_law_along) (defScope s_law_along) .none kV_law_along dc_law_along pm_law_along an_law_along cd_law_along ct_law_along), sl_law_along⟩)
    (c_law_along : PySem.W.codeIn K cd_law_along "_law_along" = true)
    (k_law_along : PySem.W.keepIn K (.ref f_law_along) = true)
    (a_law_steps : PySem.W.nsIn K mainGlobals "_law_steps" = some (some (.ref f_law_steps)))
    (l_law_steps : K.lookup f_law_steps = some ⟨oc_law_steps, od_law_steps, .func (PySem.W.fnOf "_law_steps" "_law_steps" (defArgs s_law_steps) (defBody s_law_steps) (defScope s_law_steps) .none kV_law_steps dc_law_steps pm_law_steps an_law_steps cd_law_steps ct_law_steps), sl_law_steps⟩)
    (c_law_steps : PySem.W.codeIn K cd_law_steps "_law_steps" = true)
    (k_law_steps : PySem.W.keepIn K (.ref f_law_steps) = true)
    (a_law_shared : PySem.W.nsIn K mainGlobals "_law_shared" = some (some (.ref f_law_shared)))
    (l_law_shared : K.lookup f_law_shared = some ⟨oc_law_shared, od_law_shared, .func (PySem.W.fnOf "_law_shared" "_law_shared" (defArgs s_law_shared) (defBody s_law_shared) (defScope s_law_shared) .none kV_law_shared dc_law_shared pm_law_shared an_law_shared cd_law_shared ct_law_shared), sl_law_shared⟩)
    (c_law_shared : PySem.W.codeIn K cd_law_shared "_law_shared" = true)
    (k_law_shared : PySem.W.keepIn K (.ref f_law_shared) = true)
    (a_law_wholes : PySem.W.nsIn K mainGlobals "_law_wholes" = some (some (.ref f_law_wholes)))
    (l_law_wholes : K.lookup f_law_wholes = some ⟨oc_law_wholes, od_law_wholes, .func (PySem.W.fnOf "_law_wholes" "_law_wholes" (defArgs s_law_wholes) (defBody s_law_wholes) (defScope s_law_wholes) .none kV_law_wholes dc_law_wholes pm_law_wholes an_law_wholes cd_law_wholes ct_law_wholes), sl_law_wholes⟩)
    (c_law_wholes : PySem.W.codeIn K cd_law_wholes "_law_wholes" = true)
    (k_law_wholes : PySem.W.keepIn K (.ref f_law_wholes) = true)
    (a_law_shows : PySem.W.nsIn K mainGlobals "_law_shows" = some (some (.ref f_law_shows)))
    (l_law_shows : K.lookup f_law_shows = some ⟨oc_law_shows, od_law_shows, .func (PySem.W.fnOf "_law_shows" "_law_shows" (defArgs s_law_shows) (defBody s_law_shows) (defScope s_law_shows) .none kV_law_shows dc_law_shows pm_law_shows an_law_shows cd_law_shows ct_law_shows), sl_law_shows⟩)
    (c_law_shows : PySem.W.codeIn K cd_law_shows "_law_shows" = true)
    (k_law_shows : PySem.W.keepIn K (.ref f_law_shows) = true)
    (a_law : PySem.W.nsIn K mainGlobals "law" = some (some (.ref f_law)))
    (l_law : K.lookup f_law = some ⟨oc_law, od_law, .func (PySem.W.fnOf "law" "law" (defArgs s_law) (defBody s_law) (defScope s_law) .none kV_law dc_law pm_law an_law cd_law ct_law), sl_law⟩)
    (c_law : PySem.W.codeIn K cd_law "law" = true)
    (k_law : PySem.W.keepIn K (.ref f_law) = true)
    (gi_most : PySem.W.nsIn K mainGlobals "MOST_IN_PATTERN" = some (some (.int 6 ti_most)))
    (gi_rows : PySem.W.nsIn K mainGlobals "MOST_ROWS" = some (some (.int 3 ti_rows)))
    (z_len : PySem.W.nsIn K mainGlobals "len" = some none)
    (z_int : PySem.W.nsIn K mainGlobals "int" = some none)
    (z_bool : PySem.W.nsIn K mainGlobals "bool" = some none)
    (z_list : PySem.W.nsIn K mainGlobals "list" = some none)
    (z_tuple : PySem.W.nsIn K mainGlobals "tuple" = some none)
    (z_range : PySem.W.nsIn K mainGlobals "range" = some none)
    (z_min : PySem.W.nsIn K mainGlobals "min" = some none)
    (z_max : PySem.W.nsIn K mainGlobals "max" = some none)
    (z_sum : PySem.W.nsIn K mainGlobals "sum" = some none)
    (z_zip : PySem.W.nsIn K mainGlobals "zip" = some none)
    (z_any : PySem.W.nsIn K mainGlobals "any" = some none)
    (z_enumerate : PySem.W.nsIn K mainGlobals "enumerate" = some none)
    (z_abs : PySem.W.nsIn K mainGlobals "abs" = some none)
    (z_isinstance : PySem.W.nsIn K mainGlobals "isinstance" = some none)
    (z_reversed : PySem.W.nsIn K mainGlobals "reversed" = some none)
    (z_all : PySem.W.nsIn K mainGlobals "all" = some none)
    : ∃ fd : FuncData, (∀ (s : Shared) (v : Value), BindsTo s fd ⟨[v], []⟩ [("script", v)]) ∧ ∀ base : Heap, K.In base → base.Ns mainGlobals mg → FnOk l.prog w K mg base CX0 8 fa fd ["script"] (spLaw K) := by
  have e := hfa.symm.trans (PySem.W.mg_of X G a_law)
  cases e
  have F_counted_together := fun_mk (st := s_counted_together) l_counted_together c_counted_together k_counted_together
  have b_counted_together := F_counted_together.binds (ps := ["entries"]) fun _ _ _ _ _ _ us hl => match us, hl with | [_], _ => rfl
  have F_joined_row := fun_mk (st := s_joined_row) l_joined_row c_joined_row k_joined_row
  have b_joined_row := F_joined_row.binds (ps := ["row", "table", "modulus"]) fun _ _ _ _ _ _ us hl => match us, hl with | [_, _, _], _ => rfl
  have F_tables_joined := fun_mk (st := s_tables_joined) l_tables_joined c_tables_joined k_tables_joined
  have b_tables_joined := F_tables_joined.binds (ps := ["one", "two", "modulus"]) fun _ _ _ _ _ _ us hl => match us, hl with | [_, _, _], _ => rfl
  have F_paid_alike := fun_mk (st := s_paid_alike) l_paid_alike c_paid_alike k_paid_alike
  have b_paid_alike := F_paid_alike.binds (ps := ["pull"]) fun _ _ _ _ _ _ us hl => match us, hl with | [_], _ => rfl
  have F_paid_unlike := fun_mk (st := s_paid_unlike) l_paid_unlike c_paid_unlike k_paid_unlike
  have b_paid_unlike := F_paid_unlike.binds (ps := ["pull"]) fun _ _ _ _ _ _ us hl => match us, hl with | [_], _ => rfl
  have F_refuse_pattern := fun_mk (st := s_refuse_pattern) l_refuse_pattern c_refuse_pattern k_refuse_pattern
  have b_refuse_pattern := F_refuse_pattern.binds (ps := ["pattern"]) fun _ _ _ _ _ _ us hl => match us, hl with | [_], _ => rfl
  have F_rows_of := fun_mk (st := s_rows_of) l_rows_of c_rows_of k_rows_of
  have b_rows_of := F_rows_of.binds (ps := ["pattern"]) fun _ _ _ _ _ _ us hl => match us, hl with | [_], _ => rfl
  have F_price_between := fun_mk (st := s_price_between) l_price_between c_price_between k_price_between
  have b_price_between := F_price_between.binds (ps := ["signed", "differ"]) fun _ _ _ _ _ _ us hl => match us, hl with | [_, _], _ => rfl
  have F_price_of_all := fun_mk (st := s_price_of_all) l_price_of_all c_price_of_all k_price_of_all
  have b_price_of_all := F_price_of_all.binds (ps := ["strengths", "differ"]) fun _ _ _ _ _ _ us hl => match us, hl with | [_, _], _ => rfl
  have F_price_across := fun_mk (st := s_price_across) l_price_across c_price_across k_price_across
  have b_price_across := F_price_across.binds (ps := ["column", "signs"]) fun _ _ _ _ _ _ us hl => match us, hl with | [_, _], _ => rfl
  have F_price_along := fun_mk (st := s_price_along) l_price_along c_price_along k_price_along
  have b_price_along := F_price_along.binds (ps := ["column", "signs", "then"]) fun _ _ _ _ _ _ us hl => match us, hl with | [_, _, _], _ => rfl
  have F_column_table := fun_mk (st := s_column_table) l_column_table c_column_table k_column_table
  have b_column_table := F_column_table.binds (ps := ["column"]) fun _ _ _ _ _ _ us hl => match us, hl with | [_], _ => rfl
  have F_step_table := fun_mk (st := s_step_table) l_step_table c_step_table k_step_table
  have b_step_table := F_step_table.binds (ps := ["pattern"]) fun _ _ _ _ _ _ us hl => match us, hl with | [_], _ => rfl
  have F_lows_of := fun_mk (st := s_lows_of) l_lows_of c_lows_of k_lows_of
  have b_lows_of := F_lows_of.binds (ps := ["table"]) fun _ _ _ _ _ _ us hl => match us, hl with | [_], _ => rfl
  have F_least_to := fun_mk (st := s_least_to) l_least_to c_least_to k_least_to
  have b_least_to := F_least_to.binds (ps := ["ahead", "lows", "then"]) fun _ _ _ _ _ _ us hl => match us, hl with | [_, _, _], _ => rfl
  have F_one_step_on := fun_mk (st := s_one_step_on) l_one_step_on c_one_step_on k_one_step_on
  have b_one_step_on := F_one_step_on.binds (ps := ["ahead", "lows"]) fun _ _ _ _ _ _ us hl => match us, hl with | [_, _], _ => rfl
  have F_sums_from := fun_mk (st := s_sums_from) l_sums_from c_sums_from k_sums_from
  have b_sums_from := F_sums_from.binds (ps := ["lows", "start"]) fun _ _ _ _ _ _ us hl => match us, hl with | [_, _], _ => rfl
  have F_cheapest_walk := fun_mk (st := s_cheapest_walk) l_cheapest_walk c_cheapest_walk k_cheapest_walk
  have b_cheapest_walk := F_cheapest_walk.binds (ps := ["sums"]) fun _ _ _ _ _ _ us hl => match us, hl with | [_], _ => rfl
  have F_loop_back := fun_mk (st := s_loop_back) l_loop_back c_loop_back k_loop_back
  have b_loop_back := F_loop_back.binds (ps := ["lows", "told", "start", "steps"]) fun _ _ _ _ _ _ us hl => match us, hl with | [_, _, _, _], _ => rfl
  have F_common_divisor := fun_mk (st := s_common_divisor) l_common_divisor c_common_divisor k_common_divisor
  have b_common_divisor := F_common_divisor.binds (ps := ["one", "two"]) fun _ _ _ _ _ _ us hl => match us, hl with | [_, _], _ => rfl
  have F_slopes_of := fun_mk (st := s_slopes_of) l_slopes_of c_slopes_of k_slopes_of
  have b_slopes_of := F_slopes_of.binds (ps := ["lows", "top", "bottom"]) fun _ _ _ _ _ _ us hl => match us, hl with | [_, _, _], _ => rfl
  have F_long_run_of := fun_mk (st := s_long_run_of) l_long_run_of c_long_run_of k_long_run_of
  have b_long_run_of := F_long_run_of.binds (ps := ["lows"]) fun _ _ _ _ _ _ us hl => match us, hl with | [_], _ => rfl
  have F_long_run := fun_mk (st := s_long_run) l_long_run c_long_run k_long_run
  have b_long_run := F_long_run.binds (ps := ["pattern"]) fun _ _ _ _ _ _ us hl => match us, hl with | [_], _ => rfl
  have F_law_cell := fun_mk (st := s_law_cell) l_law_cell c_law_cell k_law_cell
  have b_law_cell := F_law_cell.binds (ps := ["script", "k"]) fun _ _ _ _ _ _ us hl => match us, hl with | [_, _], _ => rfl
  have F_law_whole := fun_mk (st := s_law_whole) l_law_whole c_law_whole k_law_whole
  have b_law_whole := F_law_whole.binds (ps := ["found"]) fun _ _ _ _ _ _ us hl => match us, hl with | [_], _ => rfl
  have F_law_strength := fun_mk (st := s_law_strength) l_law_strength c_law_strength k_law_strength
  have b_law_strength := F_law_strength.binds (ps := ["cell", "mode"]) fun _ _ _ _ _ _ us hl => match us, hl with | [_, _], _ => rfl
  have F_law_pattern := fun_mk (st := s_law_pattern) l_law_pattern c_law_pattern k_law_pattern
  have b_law_pattern := F_law_pattern.binds (ps := ["script", "rows", "period", "mode"]) fun _ _ _ _ _ _ us hl => match us, hl with | [_, _, _, _], _ => rfl
  have F_law_copy := fun_mk (st := s_law_copy) l_law_copy c_law_copy k_law_copy
  have b_law_copy := F_law_copy.binds (ps := ["pattern"]) fun _ _ _ _ _ _ us hl => match us, hl with | [_], _ => rfl
  have F_law_paid := fun_mk (st := s_law_paid) l_law_paid c_law_paid k_law_paid
  have b_law_paid := F_law_paid.binds (ps := ["strength", "one", "two"]) fun _ _ _ _ _ _ us hl => match us, hl with | [_, _, _], _ => rfl
  have F_law_sign := fun_mk (st := s_law_sign) l_law_sign c_law_sign k_law_sign
  have b_law_sign := F_law_sign.binds (ps := ["signs", "row"]) fun _ _ _ _ _ _ us hl => match us, hl with | [_, _], _ => rfl
  have F_law_across := fun_mk (st := s_law_across) l_law_across c_law_across k_law_across
  have b_law_across := F_law_across.binds (ps := ["column", "signs"]) fun _ _ _ _ _ _ us hl => match us, hl with | [_, _], _ => rfl
  have F_law_along := fun_mk (st := s_law_along) l_law_along c_law_along k_law_along
  have b_law_along := F_law_along.binds (ps := ["column", "signs", "after"]) fun _ _ _ _ _ _ us hl => match us, hl with | [_, _, _], _ => rfl
  have F_law_steps := fun_mk (st := s_law_steps) l_law_steps c_law_steps k_law_steps
  have b_law_steps := F_law_steps.binds (ps := ["pattern", "rows"]) fun _ _ _ _ _ _ us hl => match us, hl with | [_, _], _ => rfl
  have F_law_shared := fun_mk (st := s_law_shared) l_law_shared c_law_shared k_law_shared
  have b_law_shared := F_law_shared.binds (ps := ["one", "two"]) fun _ _ _ _ _ _ us hl => match us, hl with | [_, _], _ => rfl
  have F_law_wholes := fun_mk (st := s_law_wholes) l_law_wholes c_law_wholes k_law_wholes
  have b_law_wholes := F_law_wholes.binds (ps := ["found", "least_size"]) fun _ _ _ _ _ _ us hl => match us, hl with | [_, _], _ => rfl
  have F_law_shows := fun_mk (st := s_law_shows) l_law_shows c_law_shows k_law_shows
  have b_law_shows := F_law_shows.binds (ps := ["due", "size", "found"]) fun _ _ _ _ _ _ us hl => match us, hl with | [_, _, _], _ => rfl
  have F_law := fun_mk (st := s_law) l_law c_law k_law
  refine ⟨PySem.W.fnOf "law" "law" (defArgs s_law) (defBody s_law) (defScope s_law) .none kV_law dc_law pm_law an_law cd_law ct_law, fun s v => .of_eq rfl, fun base _ _ => ?_⟩
  have m_counted_together := PySem.W.mg_of X G a_counted_together
  have m_joined_row := PySem.W.mg_of X G a_joined_row
  have m_tables_joined := PySem.W.mg_of X G a_tables_joined
  have m_paid_alike := PySem.W.mg_of X G a_paid_alike
  have m_paid_unlike := PySem.W.mg_of X G a_paid_unlike
  have m_refuse_pattern := PySem.W.mg_of X G a_refuse_pattern
  have m_rows_of := PySem.W.mg_of X G a_rows_of
  have m_price_between := PySem.W.mg_of X G a_price_between
  have m_price_of_all := PySem.W.mg_of X G a_price_of_all
  have m_price_across := PySem.W.mg_of X G a_price_across
  have m_price_along := PySem.W.mg_of X G a_price_along
  have m_column_table := PySem.W.mg_of X G a_column_table
  have m_step_table := PySem.W.mg_of X G a_step_table
  have m_lows_of := PySem.W.mg_of X G a_lows_of
  have m_least_to := PySem.W.mg_of X G a_least_to
  have m_one_step_on := PySem.W.mg_of X G a_one_step_on
  have m_sums_from := PySem.W.mg_of X G a_sums_from
  have m_cheapest_walk := PySem.W.mg_of X G a_cheapest_walk
  have m_loop_back := PySem.W.mg_of X G a_loop_back
  have m_common_divisor := PySem.W.mg_of X G a_common_divisor
  have m_slopes_of := PySem.W.mg_of X G a_slopes_of
  have m_long_run_of := PySem.W.mg_of X G a_long_run_of
  have m_long_run := PySem.W.mg_of X G a_long_run
  have m_law_cell := PySem.W.mg_of X G a_law_cell
  have m_law_whole := PySem.W.mg_of X G a_law_whole
  have m_law_strength := PySem.W.mg_of X G a_law_strength
  have m_law_pattern := PySem.W.mg_of X G a_law_pattern
  have m_law_copy := PySem.W.mg_of X G a_law_copy
  have m_law_paid := PySem.W.mg_of X G a_law_paid
  have m_law_sign := PySem.W.mg_of X G a_law_sign
  have m_law_across := PySem.W.mg_of X G a_law_across
  have m_law_along := PySem.W.mg_of X G a_law_along
  have m_law_steps := PySem.W.mg_of X G a_law_steps
  have m_law_shared := PySem.W.mg_of X G a_law_shared
  have m_law_wholes := PySem.W.mg_of X G a_law_wholes
  have m_law_shows := PySem.W.mg_of X G a_law_shows
  have m_law := PySem.W.mg_of X G a_law
  have most := PySem.W.mg_of X G gi_most
  have rows := PySem.W.mg_of X G gi_rows
  have n_len := PySem.W.mg_none_of X G z_len
  have n_int := PySem.W.mg_none_of X G z_int
  have n_bool := PySem.W.mg_none_of X G z_bool
  have n_list := PySem.W.mg_none_of X G z_list
  have n_tuple := PySem.W.mg_none_of X G z_tuple
  have n_range := PySem.W.mg_none_of X G z_range
  have n_min := PySem.W.mg_none_of X G z_min
  have n_max := PySem.W.mg_none_of X G z_max
  have n_sum := PySem.W.mg_none_of X G z_sum
  have n_zip := PySem.W.mg_none_of X G z_zip
  have n_any := PySem.W.mg_none_of X G z_any
  have n_enumerate := PySem.W.mg_none_of X G z_enumerate
  have n_abs := PySem.W.mg_none_of X G z_abs
  have n_isinstance := PySem.W.mg_none_of X G z_isinstance
  have n_reversed := PySem.W.mg_none_of X G z_reversed
  have n_all := PySem.W.mg_none_of X G z_all
  have T : Txt mg := ⟨n_len, n_int, n_bool, n_list, n_tuple, n_range, n_min, n_max, n_sum, n_zip, n_any, n_enumerate, n_abs, ⟨_, most⟩, ⟨_, rows⟩, n_isinstance⟩
  have G1 : Cal l.prog w K mg base 1 "counted_together" _ (spCT K) f_counted_together _ := ⟨ok_ct F_counted_together T, b_counted_together, m_counted_together, k_counted_together⟩
  have G2 : Cal l.prog w K mg base 2 "joined_row" _ (spJR K) f_joined_row _ := ⟨ok_jr F_joined_row T G1, b_joined_row, m_joined_row, k_joined_row⟩
  have G3 : Cal l.prog w K mg base 3 "tables_joined" _ (spJT K) f_tables_joined _ := ⟨ok_jt F_tables_joined T G2, b_tables_joined, m_tables_joined, k_tables_joined⟩
  have A1 : Cal l.prog w K mg base 1 "paid_alike" _ spPA f_paid_alike _ := ⟨ok_pa F_paid_alike T, b_paid_alike, m_paid_alike, k_paid_alike⟩
  have A2 : Cal l.prog w K mg base 1 "paid_unlike" _ spPU f_paid_unlike _ := ⟨ok_pu F_paid_unlike T, b_paid_unlike, m_paid_unlike, k_paid_unlike⟩
  have A3 : Cal l.prog w K mg base 2 "price_between" _ spPB f_price_between _ := ⟨ok_pb F_price_between T A1 A2, b_price_between, m_price_between, k_price_between⟩
  have A4 : Cal l.prog w K mg base 3 "price_of_all" _ (spPall K) f_price_of_all _ := ⟨ok_pall F_price_of_all T A3, b_price_of_all, m_price_of_all, k_price_of_all⟩
  have A5 : Cal l.prog w K mg base 4 "price_across" _ spPac f_price_across _ := ⟨ok_pac F_price_across T A4, b_price_across, m_price_across, k_price_across⟩
  have A6 : Cal l.prog w K mg base 4 "price_along" _ spPal f_price_along _ := ⟨ok_pal F_price_along T A4, b_price_along, m_price_along, k_price_along⟩
  have A7 : Cal l.prog w K mg base 5 "column_table" _ spCol f_column_table _ := ⟨ok_col F_column_table T A5 A6, b_column_table, m_column_table, k_column_table⟩
  have B1 : Cal l.prog w K mg base 1 "rows_of" _ spRows f_rows_of _ := ⟨ok_rows F_rows_of T, b_rows_of, m_rows_of, k_rows_of⟩
  have B4 : Cal l.prog w K mg base 2 "refuse_pattern" _ spRef f_refuse_pattern _ := ⟨ok_ref F_refuse_pattern T B1, b_refuse_pattern, m_refuse_pattern, k_refuse_pattern⟩
  have B5 : Cal l.prog w K mg base 6 "step_table" _ spStep f_step_table _ := ⟨ok_step F_step_table T B4 A7 G3, b_step_table, m_step_table, k_step_table⟩
  have C1 : Cal l.prog w K mg base 1 "_law_cell" _ (spCell K) f_law_cell _ := ⟨ok_cell F_law_cell T, b_law_cell, m_law_cell, k_law_cell⟩
  have C2 : Cal l.prog w K mg base 1 "_law_whole" _ spWhole f_law_whole _ := ⟨ok_whole F_law_whole T, b_law_whole, m_law_whole, k_law_whole⟩
  have C4 : Cal l.prog w K mg base 1 "_law_strength" _ spStr f_law_strength _ := ⟨ok_str F_law_strength, b_law_strength, m_law_strength, k_law_strength⟩
  have C5 : Cal l.prog w K mg base 2 "_law_pattern" _ (spPat K) f_law_pattern _ := ⟨ok_pat F_law_pattern T C4, b_law_pattern, m_law_pattern, k_law_pattern⟩
  have C6 : Cal l.prog w K mg base 1 "_law_copy" _ spCopy f_law_copy _ := ⟨ok_copy F_law_copy T, b_law_copy, m_law_copy, k_law_copy⟩
  have C7 : Cal l.prog w K mg base 1 "_law_paid" _ spPaid f_law_paid _ := ⟨ok_paid F_law_paid, b_law_paid, m_law_paid, k_law_paid⟩
  have C8 : Cal l.prog w K mg base 1 "_law_sign" _ spSign f_law_sign _ := ⟨ok_sign F_law_sign, b_law_sign, m_law_sign, k_law_sign⟩
  have C9 : Cal l.prog w K mg base 2 "_law_across" _ spLac f_law_across _ := ⟨ok_lac F_law_across T C7 C8, b_law_across, m_law_across, k_law_across⟩
  have D1 : Cal l.prog w K mg base 2 "_law_along" _ spLal f_law_along _ := ⟨ok_lal F_law_along T C7 C8, b_law_along, m_law_along, k_law_along⟩
  have D2 : Cal l.prog w K mg base 3 "_law_steps" _ spSteps f_law_steps _ := ⟨ok_steps F_law_steps T C9 D1, b_law_steps, m_law_steps, k_law_steps⟩
  have TL : TxtL mg := ⟨T, n_reversed, n_all⟩
  have E1 : Cal l.prog w K mg base 1 "lows_of" _ spLows f_lows_of _ := ⟨ok_lows F_lows_of TL, b_lows_of, m_lows_of, k_lows_of⟩
  have E2 : Cal l.prog w K mg base 1 "least_to" _ spLT f_least_to _ := ⟨ok_lt F_least_to TL, b_least_to, m_least_to, k_least_to⟩
  have E3 : Cal l.prog w K mg base 2 "one_step_on" _ spOS f_one_step_on _ := ⟨ok_os F_one_step_on TL E2, b_one_step_on, m_one_step_on, k_one_step_on⟩
  have E4 : Cal l.prog w K mg base 3 "sums_from" _ spSF f_sums_from _ := ⟨ok_sf F_sums_from TL E3, b_sums_from, m_sums_from, k_sums_from⟩
  have E5 : Cal l.prog w K mg base 1 "cheapest_walk" _ spCW f_cheapest_walk _ := ⟨ok_cw F_cheapest_walk TL, b_cheapest_walk, m_cheapest_walk, k_cheapest_walk⟩
  have E6 : Cal l.prog w K mg base 1 "loop_back" _ spLB f_loop_back _ := ⟨ok_lb F_loop_back TL, b_loop_back, m_loop_back, k_loop_back⟩
  have E7 : Cal l.prog w K mg base 1 "common_divisor" _ spCD f_common_divisor _ := ⟨ok_cd F_common_divisor, b_common_divisor, m_common_divisor, k_common_divisor⟩
  have E8 : Cal l.prog w K mg base 3 "slopes_of" _ spSlp f_slopes_of _ := ⟨ok_slp F_slopes_of TL E3, b_slopes_of, m_slopes_of, k_slopes_of⟩
  have E9 : Cal l.prog w K mg base 4 "long_run_of" _ spLRO f_long_run_of _ := ⟨ok_lro F_long_run_of TL E4 E5 E7 E6 E8, b_long_run_of, m_long_run_of, k_long_run_of⟩
  have E0 : Cal l.prog w K mg base 7 "long_run" _ spLR f_long_run _ := ⟨ok_lr F_long_run B5 E1 E9, b_long_run, m_long_run, k_long_run⟩
  have D3 : Cal l.prog w K mg base 1 "_law_shared" _ spSh f_law_shared _ := ⟨ok_sh F_law_shared TL, b_law_shared, m_law_shared, k_law_shared⟩
  have D4 : Cal l.prog w K mg base 2 "_law_wholes" _ spWs f_law_wholes _ := ⟨ok_ws F_law_wholes TL C2, b_law_wholes, m_law_wholes, k_law_wholes⟩
  have D5 : Cal l.prog w K mg base 3 "_law_shows" _ spShows f_law_shows _ := ⟨ok_shows F_law_shows TL D4, b_law_shows, m_law_shows, k_law_shows⟩
  exact ok_law F_law TL C1 C5 C6 E0 C2 D3 D2 D5
theorem walk {l : PySem.W.OpenLaw} {q : Program} {loose : List Str} {XP : (Str → Option Value) → Heap → Prop} {YP : World → Heap → Prop} {d : DefRec} {K : Params → PySem.W.Frag} (hn : l.most = some 63) (hdf : d.params.defaults = [])
    (hY : ∀ (w : World) (h : Heap), YP w h → (K w.params).In h)
    (F : ∀ (w : World) (mg : Str → Option Value) (fa : Addr) (h : Heap), (K w.params).In h → h.Ns mainGlobals mg → mg d.name = some (.ref fa) →
      ∃ fd : FuncData, (∀ (s : Shared) (u : Value), BindsTo s fd ⟨[u], []⟩ [("script", u)]) ∧ ∀ base : Heap, (K w.params).In base → base.Ns mainGlobals mg → FnOk l.prog w (K w.params) mg base CX0 8 fa fd ["script"] (spLaw (K w.params))) :
    PySem.W.WalkO q loose XP YP l.row.toRowW d [] (fun f vs => PySem.call f vs) :=
  L2.walk_of (n := 63) (k := 8) (x := "script") (CX := fun _ => CX0) (sp := fun w => spLaw (K w.params)) hn (by decide) hdf ⟨rfl, by decide, by decide⟩ hY F (fun _ _ a ns hl _ hS => ⟨a, ns, rfl, hS, hl, fun _ => rfl⟩) fun _ _ _ _ _ z => z
end KS


open PySem PySem.W PyProof.Rows
set_option maxRecDepth 100000 in
set_option maxHeartbeats 0 in
theorem PySem.Challenge.cw_spinfloor_k51_long_run_papers_holds : PySem.Challenge.rw_spinfloor_k51_long_run_papers.Holds := by
  w_on; o_law; k_head; (case hw => w_witness2)
  k_fill
  refine KS.walk (l := PySem.Challenge.rw_spinfloor_k51_long_run_papers) rfl rfl (fun w h Y => PySem.W.kIn_of Y) ?F
  case F =>
    intro w mg fa h KX G hmg
    refine' KS.all_mk KX G hmg ?a_counted_together ?l_counted_together ?c_counted_together ?k_counted_together ?a_joined_row ?l_joined_row ?c_joined_row ?k_joined_row ?a_tables_joined ?l_tables_joined ?c_tables_joined ?k_tables_joined ?a_paid_alike ?l_paid_alike ?c_paid_alike ?k_paid_alike ?a_paid_unlike ?l_paid_unlike ?c_paid_unlike ?k_paid_unlike ?a_refuse_pattern ?l_refuse_pattern ?c_refuse_pattern ?k_refuse_pattern ?a_rows_of ?l_rows_of ?c_rows_of ?k_rows_of ?a_price_between ?l_price_between ?c_price_between ?k_price_between ?a_price_of_all ?l_price_of_all ?c_price_of_all ?k_price_of_all ?a_price_across ?l_price_across ?c_price_across ?k_price_across ?a_price_along ?l_price_along ?c_price_along ?k_price_along ?a_column_table ?l_column_table ?c_column_table ?k_column_table ?a_step_table ?l_step_table ?c_step_table ?k_step_table ?a_lows_of ?l_lows_of ?c_lows_of ?k_lows_of ?a_least_to ?l_least_to ?c_least_to ?k_least_to ?a_one_step_on ?l_one_step_on ?c_one_step_on ?k_one_step_on ?a_sums_from ?l_sums_from ?c_sums_from ?k_sums_from ?a_cheapest_walk ?l_cheapest_walk ?c_cheapest_walk ?k_cheapest_walk ?a_loop_back ?l_loop_back ?c_loop_back ?k_loop_back ?a_common_divisor ?l_common_divisor ?c_common_divisor ?k_common_divisor ?a_slopes_of ?l_slopes_of ?c_slopes_of ?k_slopes_of ?a_long_run_of ?l_long_run_of ?c_long_run_of ?k_long_run_of ?a_long_run ?l_long_run ?c_long_run ?k_long_run ?a_law_cell ?l_law_cell ?c_law_cell ?k_law_cell ?a_law_whole ?l_law_whole ?c_law_whole ?k_law_whole ?a_law_strength ?l_law_strength ?c_law_strength ?k_law_strength ?a_law_pattern ?l_law_pattern ?c_law_pattern ?k_law_pattern ?a_law_copy ?l_law_copy ?c_law_copy ?k_law_copy ?a_law_paid ?l_law_paid ?c_law_paid ?k_law_paid ?a_law_sign ?l_law_sign ?c_law_sign ?k_law_sign ?a_law_across ?l_law_across ?c_law_across ?k_law_across ?a_law_along ?l_law_along ?c_law_along ?k_law_along ?a_law_steps ?l_law_steps ?c_law_steps ?k_law_steps ?a_law_shared ?l_law_shared ?c_law_shared ?k_law_shared ?a_law_wholes ?l_law_wholes ?c_law_wholes ?k_law_wholes ?a_law_shows ?l_law_shows ?c_law_shows ?k_law_shows ?a_law ?l_law ?c_law ?k_law ?gi_most ?gi_rows ?z_len ?z_int ?z_bool ?z_list ?z_tuple ?z_range ?z_min ?z_max ?z_sum ?z_zip ?z_any ?z_enumerate ?z_abs ?z_isinstance ?z_reversed ?z_all
    (case a_counted_together => k_is)
    (case l_counted_together => k_is)
    (case c_counted_together => k_is)
    (case k_counted_together => k_is)
    (case a_joined_row => k_is)
    (case l_joined_row => k_is)
    (case c_joined_row => k_is)
    (case k_joined_row => k_is)
    (case a_tables_joined => k_is)
    (case l_tables_joined => k_is)
    (case c_tables_joined => k_is)
    (case k_tables_joined => k_is)
    (case a_paid_alike => k_is)
    (case l_paid_alike => k_is)
    (case c_paid_alike => k_is)
    (case k_paid_alike => k_is)
    (case a_paid_unlike => k_is)
    (case l_paid_unlike => k_is)
    (case c_paid_unlike => k_is)
    (case k_paid_unlike => k_is)
    (case a_refuse_pattern => k_is)
    (case l_refuse_pattern => k_is)
    (case c_refuse_pattern => k_is)
    (case k_refuse_pattern => k_is)
    (case a_rows_of => k_is)
    (case l_rows_of => k_is)
    (case c_rows_of => k_is)
    (case k_rows_of => k_is)
    (case a_price_between => k_is)
    (case l_price_between => k_is)
    (case c_price_between => k_is)
    (case k_price_between => k_is)
    (case a_price_of_all => k_is)
    (case l_price_of_all => k_is)
    (case c_price_of_all => k_is)
    (case k_price_of_all => k_is)
    (case a_price_across => k_is)
    (case l_price_across => k_is)
    (case c_price_across => k_is)
    (case k_price_across => k_is)
    (case a_price_along => k_is)
    (case l_price_along => k_is)
    (case c_price_along => k_is)
    (case k_price_along => k_is)
    (case a_column_table => k_is)
    (case l_column_table => k_is)
    (case c_column_table => k_is)
    (case k_column_table => k_is)
    (case a_step_table => k_is)
    (case l_step_table => k_is)
    (case c_step_table => k_is)
    (case k_step_table => k_is)
    (case a_lows_of => k_is)
    (case l_lows_of => k_is)
    (case c_lows_of => k_is)
    (case k_lows_of => k_is)
    (case a_least_to => k_is)
    (case l_least_to => k_is)
    (case c_least_to => k_is)
    (case k_least_to => k_is)
    (case a_one_step_on => k_is)
    (case l_one_step_on => k_is)
    (case c_one_step_on => k_is)
    (case k_one_step_on => k_is)
    (case a_sums_from => k_is)
    (case l_sums_from => k_is)
    (case c_sums_from => k_is)
    (case k_sums_from => k_is)
    (case a_cheapest_walk => k_is)
    (case l_cheapest_walk => k_is)
    (case c_cheapest_walk => k_is)
    (case k_cheapest_walk => k_is)
    (case a_loop_back => k_is)
    (case l_loop_back => k_is)
    (case c_loop_back => k_is)
    (case k_loop_back => k_is)
    (case a_common_divisor => k_is)
    (case l_common_divisor => k_is)
    (case c_common_divisor => k_is)
    (case k_common_divisor => k_is)
    (case a_slopes_of => k_is)
    (case l_slopes_of => k_is)
    (case c_slopes_of => k_is)
    (case k_slopes_of => k_is)
    (case a_long_run_of => k_is)
    (case l_long_run_of => k_is)
    (case c_long_run_of => k_is)
    (case k_long_run_of => k_is)
    (case a_long_run => k_is)
    (case l_long_run => k_is)
    (case c_long_run => k_is)
    (case k_long_run => k_is)
    (case a_law_cell => k_is)
    (case l_law_cell => k_is)
    (case c_law_cell => k_is)
    (case k_law_cell => k_is)
    (case a_law_whole => k_is)
    (case l_law_whole => k_is)
    (case c_law_whole => k_is)
    (case k_law_whole => k_is)
    (case a_law_strength => k_is)
    (case l_law_strength => k_is)
    (case c_law_strength => k_is)
    (case k_law_strength => k_is)
    (case a_law_pattern => k_is)
    (case l_law_pattern => k_is)
    (case c_law_pattern => k_is)
    (case k_law_pattern => k_is)
    (case a_law_copy => k_is)
    (case l_law_copy => k_is)
    (case c_law_copy => k_is)
    (case k_law_copy => k_is)
    (case a_law_paid => k_is)
    (case l_law_paid => k_is)
    (case c_law_paid => k_is)
    (case k_law_paid => k_is)
    (case a_law_sign => k_is)
    (case l_law_sign => k_is)
    (case c_law_sign => k_is)
    (case k_law_sign => k_is)
    (case a_law_across => k_is)
    (case l_law_across => k_is)
    (case c_law_across => k_is)
    (case k_law_across => k_is)
    (case a_law_along => k_is)
    (case l_law_along => k_is)
    (case c_law_along => k_is)
    (case k_law_along => k_is)
    (case a_law_steps => k_is)
    (case l_law_steps => k_is)
    (case c_law_steps => k_is)
    (case k_law_steps => k_is)
    (case a_law_shared => k_is)
    (case l_law_shared => k_is)
    (case c_law_shared => k_is)
    (case k_law_shared => k_is)
    (case a_law_wholes => k_is)
    (case l_law_wholes => k_is)
    (case c_law_wholes => k_is)
    (case k_law_wholes => k_is)
    (case a_law_shows => k_is)
    (case l_law_shows => k_is)
    (case c_law_shows => k_is)
    (case k_law_shows => k_is)
    (case a_law => k_is)
    (case l_law => k_is)
    (case c_law => k_is)
    (case k_law => k_is)
    (case gi_most => k_is)
    (case gi_rows => k_is)
    (case z_len => k_is)
    (case z_int => k_is)
    (case z_bool => k_is)
    (case z_list => k_is)
    (case z_tuple => k_is)
    (case z_range => k_is)
    (case z_min => k_is)
    (case z_max => k_is)
    (case z_sum => k_is)
    (case z_zip => k_is)
    (case z_any => k_is)
    (case z_enumerate => k_is)
    (case z_abs => k_is)
    (case z_isinstance => k_is)
    (case z_reversed => k_is)
    (case z_all => k_is)

