import PyProof.Rows.All
import Wide.All
import OpenK.AllK
import Wide.FinOn
import Lean
import PyProof.EqAt
import PyProof.EqKinds
import PyProof.TupleCall
import PySem.Challenge.RW_spinfloor_k50_no_strips
set_option Elab.async false
set_option linter.all false
set_option maxRecDepth 100000
/-! THE HAND LAYER, for ints, bools, texts, own classes, LISTS and tuples (index, slices, in, append, pop ..), calls, loops. Paste it whole ahead of your own text; what your proof does not reach may be deleted. -/
namespace L2
open PySem PySem.Spec PyProof.Rows

/-- a key: an int or a str -/
abbrev Key := Sum Int Str
def keyIs : Key → Value → Bool
  | .inl k, v => Value.isInt k v
  | .inr x, v => Value.isStrOf x v
def keyH (w : World) : Key → Int
  | .inl k => hashInt k
  | .inr x => hashStr w x
theorem keyIs_shape : ∀ {k : Key} {v : Value}, keyIs k v = true → (∃ i t, k = Sum.inl i ∧ v = Value.int i t) ∨ (∃ x t, k = Sum.inr x ∧ v = Value.str x t)
  | .inl i, v, h => by
    obtain ⟨t, e⟩ := Value.isInt_shape (k := i) (v := v) h
    exact .inl ⟨i, t, rfl, e⟩
  | .inr x, v, h => by
    obtain ⟨t, e⟩ := Value.isStrOf_shape (x := x) (v := v) h
    exact .inr ⟨x, t, rfl, e⟩
theorem key_ll (a b : Int) : decide ((Sum.inl a : Key) = Sum.inl b) = (a == b) := by
  by_cases e : a = b
  · subst e; simp
  · have h : ¬ (Sum.inl a : Key) = Sum.inl b := fun q => e (Sum.inl.inj q)
    rw [decide_eq_false h]
    exact (beq_eq_false_iff_ne.mpr e).symm
theorem key_rr (a b : Str) : decide ((Sum.inr a : Key) = Sum.inr b) = decide (a = b) := by
  by_cases e : a = b
  · subst e; simp
  · have h : ¬ (Sum.inr a : Key) = Sum.inr b := fun q => e (Sum.inr.inj q)
    rw [decide_eq_false h, decide_eq_false e]
theorem key_lr (a : Int) (b : Str) : decide ((Sum.inl a : Key) = Sum.inr b) = false := decide_eq_false (fun q => nomatch q)
theorem key_rl (a : Str) (b : Int) : decide ((Sum.inr a : Key) = Sum.inl b) = false := decide_eq_false (fun q => nomatch q)

def mixKind (prog : Program) (w : World) : PySem.KeyKind prog w Key where
  is := keyIs
  hash := keyH w
  inj := fun v a b ha hb => by
    rcases keyIs_shape ha with ⟨i, t, rfl, rfl⟩ | ⟨x, t, rfl, rfl⟩
    · rcases keyIs_shape hb with ⟨j, u, rfl, e⟩ | ⟨y, u, rfl, e⟩
      · injection e with e1 _; rw [e1]
      · exact nomatch e
    · rcases keyIs_shape hb with ⟨j, u, rfl, e⟩ | ⟨y, u, rfl, e⟩
      · exact nomatch e
      · injection e with e1 _; rw [e1]
  byValue := fun k v h => by
    rcases keyIs_shape h with ⟨i, t, rfl, rfl⟩ | ⟨x, t, rfl, rfl⟩ <;> rfl
  pyHash := fun hv h => by
    rcases keyIs_shape hv with ⟨i, t, rfl, rfl⟩ | ⟨x, t, rfl, rfl⟩
    · exact wpAny_pyHash_int h
    · exact wpAny_pyHash_str h
  eqBool := fun hu hv h => by
    rcases keyIs_shape hu with ⟨i, t, rfl, rfl⟩ | ⟨x, t, rfl, rfl⟩
    · rcases keyIs_shape hv with ⟨j, u, rfl, rfl⟩ | ⟨y, u, rfl, rfl⟩
      · rw [key_ll] at h; exact wpAny_eqBool_int h
      · rw [key_lr] at h; exact SeqAt.EqAt.int_str i t y u _ _ _ _ h
    · rcases keyIs_shape hv with ⟨j, u, rfl, rfl⟩ | ⟨y, u, rfl, rfl⟩
      · rw [key_rl] at h; exact SeqAt.EqAt.str_int x t j u _ _ _ _ h
      · rw [key_rr] at h; exact wpAny_eqBool_str h
  «strs» := fun k x t v h => by
    rcases keyIs_shape h with ⟨i, u, rfl, e⟩ | ⟨y, u, rfl, e⟩
    · exact nomatch e
    · injection e with e1 _
      subst e1
      cases v <;> rfl

end L2

namespace L2
open PySem PySem.Spec PyProof.Rows

/-- a value, without the heap -/
inductive V where
  | non | bl (b : Bool) | int (i : Int) | str (x : Str) | byt (b : Array UInt8) | flt (b : UInt64) | ref (a : Addr) | ty (n : String)
  deriving DecidableEq

def RelV : V → Value → Prop
  | .non, u => u = Value.none
  | .bl b, u => u = Value.bool b
  | .int i, u => ∃ t, u = Value.int i t
  | .str x, u => ∃ t, u = Value.str x t
  | .byt b, u => ∃ t, u = Value.bytes b t
  | .flt b, u => ∃ t, u = Value.float b t
  | .ref a, u => u = Value.ref a
  | .ty n, u => u = Value.type n

abbrev Vals : List V → List Value → Prop := Paired RelV
theorem Vals.length {xs : List V} {us : List Value} (r : Vals xs us) : xs.length = us.length := Paired.length r
theorem Vals.get : ∀ {xs : List V} {us : List Value} {i : Nat} {x : V}, Vals xs us → xs[i]? = some x → ∃ u, us[i]? = some u ∧ RelV x u
  | _, _, _, _, .nil, e => by simp at e
  | _, _, 0, _, .cons r _, e => by simp at e; subst e; exact ⟨_, rfl, r⟩
  | _, _, i + 1, x, .cons _ t, e => by
    obtain ⟨u, h1, h2⟩ := Vals.get (i := i) (x := x) t (by simpa using e)
    exact ⟨u, by simpa using h1, h2⟩
theorem Vals.set {x : V} {u : Value} (r : RelV x u) : ∀ {xs : List V} {us : List Value} (i : Nat), Vals xs us → Vals (xs.set i x) (us.set i u)
  | _, _, _, .nil => .nil
  | _, _, 0, .cons _ t => .cons r t
  | _, _, i + 1, .cons q t => .cons q (Vals.set r i t)
theorem Vals.append : ∀ {xs ys : List V} {us ws : List Value}, Vals xs us → Vals ys ws → Vals (xs ++ ys) (us ++ ws)
  | _, _, _, _, .nil, s => s
  | _, _, _, _, .cons r t, s => .cons r (Vals.append t s)
theorem Vals.take : ∀ {xs : List V} {us : List Value} (n : Nat), Vals xs us → Vals (xs.take n) (us.take n)
  | _, _, 0, _ => .nil
  | _, _, _ + 1, .nil => .nil
  | _, _, n + 1, .cons r t => .cons r (Vals.take n t)
theorem Vals.drop : ∀ {xs : List V} {us : List Value} (n : Nat), Vals xs us → Vals (xs.drop n) (us.drop n)
  | _, _, 0, r => r
  | _, _, _ + 1, .nil => .nil
  | _, _, n + 1, .cons _ t => Vals.drop n t

def RelO : Option V → Option Value → Prop
  | some v, some u => RelV v u
  | none, none => True
  | _, _ => False
def KV {κ : Type} : List (κ × V) → List (κ × Value) → Prop := Paired fun (p : κ × V) (q : κ × Value) => p.1 = q.1 ∧ RelV p.2 q.2

/-- a key of a dict (00_mix): an int or a text -/
def kV : Key → V
  | .inl i => .int i
  | .inr x => .str x

/-- what stands at a tracked address -/
inductive HO where
  /-- a list -/
  | lst (xs : List V)
  /-- a tuple (never changes) -/
  | tup (xs : List V)
  /-- a dict whose keys are ints and texts; one whose keys are tuples of ints and texts (the empty one is both) -/
  | dK (kvs : List (Key × V)) | dT (kvs : List (List Key × V))
  /-- a set of ints: its members, its size -/
  | set (S : Int → Bool) (n : Nat)
  /-- an instance of the class at C, its dict at dx, its attributes -/
  | ins (C dx : Addr) (fs : List (Str × V))
  /-- the dict of the instance at x -/
  | own (x : Addr)
  /-- the dict of an exception -/
  | xd (fs : List (Str × V))
  /-- a bound method, f of x -/
  | met (f x : Addr)
  /-- a range object lo, lo + 1, .. below hi -/
  | rng (lo hi : Int)
  /-- a thing that is known to the object (the script; a dict while a loop walks it): read, never written while it is so -/
  | frz (o : Obj) (u : HO)
  /-- a code object's table -/
  | tbl (ps : Array Value)
  /-- any other thing, by what is true of its one object (a def of one's own: SetO a S n := HO.ext fun h => ..) -/
  | ext (φ : Heap → Prop)

abbrev Hp := Addr → Option HO
def upd (H : Hp) (a : Addr) (o : HO) : Hp := fun b => if b = a then some o else H b
theorem upd_same {H : Hp} {a : Addr} {o : HO} : upd H a o a = some o := by unfold upd; rw [if_pos rfl]
theorem upd_ne {H : Hp} {a b : Addr} {o : HO} (h : b ≠ a) : upd H a o b = H b := by unfold upd; rw [if_neg h]
theorem ne_of_none {H : Hp} {a b : Addr} {o : HO} (h : H a = some o) (h' : H b = none) : a ≠ b := by
  intro e; subst e; rw [h] at h'; cases h'

section
variable (P : Program) (w : World)
def ObjOk (H : Hp) (h : Heap) (a : Addr) : HO → Prop
  | .lst xs => xs.length ≤ sizeLine ∧ ∃ (its : List Value) (n : Nat), Vals xs its ∧ h.get? a = some { cls := .type "list", data := .seq its.toArray n }
  | .tup xs => xs.length ≤ sizeLine ∧ ∃ its : List Value, Vals xs its ∧ IsTup h a its.toArray
  | .dK kvs => kvs.length ≤ sizeLine ∧ (a == sysModules) = false ∧ ∃ vs, KV kvs vs ∧ h.DictOf (mixKind P w) a vs
  | .dT kvs => kvs.length ≤ sizeLine ∧ (a == sysModules) = false ∧ ∃ xs : List (List Key × Addr × Value),
      Paired (fun (p : List Key × V) (q : List Key × Addr × Value) => p.1 = q.1 ∧ H q.2.1 = some (.tup (p.1.map kV)) ∧ RelV p.2 q.2.2) kvs xs ∧
      ∃ o es ep, h.get? a = some o ∧ o.ExactDict ∧ o.data = .dict es ep ∧ es.toList = xs.map (entryOfKey (tupleKind (mixKind P w))) ∧ (xs.map (·.1)).Nodup
  | .set S n => h.SetOf (intKind P w) a S n
  | .ins C dx fs => H dx = some (.own a) ∧ fs.length ≤ 1000 ∧ dx ≠ a ∧ h.get? a = some (PySem.W.instObj C dx) ∧
      ∃ mA, h.Ns1 dx mA ∧ (∀ f, RelO (fs.lookup f) (mA f)) ∧ PySem.Within mA (fs.map (·.1))
  | .own _ => ∃ o, h.get? a = some o
  | .xd fs => ∃ mA, h.Ns1 a mA ∧ ∀ f, RelO (fs.lookup f) (mA f)
  | .rng lo hi => ∃ t u v, h.get? a = some { cls := .type "range", data := .fields #[.int lo t, .int hi u, .int 1 v] }
  | .frz o u => h.get? a = some o ∧ ObjOk H h a u
  | .tbl ps => h.get? a = some { cls := .none, data := .fields ps }
  | .met f x => h.get? a = some (PySem.W.methodObj (.ref f) (.ref x))
  | .ext φ => φ h ∧ (∃ o, h.get? a = some o) ∧ ∀ h1 h2 : Heap, φ h1 → (∀ o, h1.get? a = some o → h2.get? a = some o) → φ h2
/-- the abstract heap is held -/
def HOk (H : Hp) (h : Heap) : Prop := ∀ a o, H a = some o → ObjOk P w H h a o
end

section
variable {P : Program} {w : World} {H H' : Hp} {h h' : Heap} {a : Addr} {o : HO}
theorem ObjOk.lt (x : ObjOk P w H h a o) : a < h.objs.size := by
  cases o with
  | lst xs => obtain ⟨_, _, _, _, e⟩ := x; exact Heap.lt_size e
  | tup xs => obtain ⟨_, _, _, p⟩ := x; exact p.lt
  | dK kvs => obtain ⟨_, _, _, _, o, _, _, e, _⟩ := x; exact Heap.lt_size e
  | dT kvs => obtain ⟨_, _, _, _, o, _, _, e, _⟩ := x; exact Heap.lt_size e
  | set S n => obtain ⟨o, _, _, _, e, _⟩ := x; exact Heap.lt_size e
  | ins C dx fs => obtain ⟨_, _, _, e, _⟩ := x; exact Heap.lt_size e
  | own y => obtain ⟨_, e⟩ := x; exact Heap.lt_size e
  | xd fs => obtain ⟨_, ⟨_, _, _, e, _⟩, _⟩ := x; exact Heap.lt_size e
  | rng lo hi => obtain ⟨_, _, _, e⟩ := x; exact Heap.lt_size e
  | frz ob u => obtain ⟨e, _⟩ := x; exact Heap.lt_size e
  | tbl ps => exact Heap.lt_size (show h.get? a = some _ from x)
  | met f y => exact Heap.lt_size (show h.get? a = some _ from x)
  | ext φ => obtain ⟨_, ⟨_, e⟩, _⟩ := x; exact Heap.lt_size e
theorem Paired.mapP {α β : Type} {F G : α → β → Prop} : ∀ {l₁ : List α} {l₂ : List β}, Paired F l₁ l₂ → (∀ a b, F a b → G a b) → Paired G l₁ l₂
  | _, _, .nil, _ => .nil
  | _, _, .cons r t, f => .cons (f _ _ r) (Paired.mapP t f)
/-- what an object's description leans on: its own object, its own dict, the tuples -/
theorem ObjOk.stay (x : ObjOk P w H h a o) (k : ∀ b u, (b = a ∨ H b = some (.own a)) → h.get? b = some u → h'.get? b = some u)
    (ho : ∀ b, H b = some (.own a) → H' b = some (.own a)) (ht : ∀ b xs, H b = some (.tup xs) → H' b = some (.tup xs)) : ObjOk P w H' h' a o := by
  induction o with
  | lst xs => obtain ⟨z, its, n, r, e⟩ := x; exact ⟨z, its, n, r, k _ _ (.inl rfl) e⟩
  | tup xs => obtain ⟨z, its, r, ob, e, c⟩ := x; exact ⟨z, its, r, ob, k _ _ (.inl rfl) e, c⟩
  | dK kvs => obtain ⟨z, y, vs, r, ob, es, ep, e, c⟩ := x; exact ⟨z, y, vs, r, ob, es, ep, k _ _ (.inl rfl) e, c⟩
  | dT kvs =>
    obtain ⟨z, y, xs, r, ob, es, ep, e, c⟩ := x
    exact ⟨z, y, xs, Paired.mapP r fun p q z => ⟨z.1, ht _ _ z.2.1, z.2.2⟩, ob, es, ep, k _ _ (.inl rfl) e, c⟩
  | set S n => obtain ⟨ob, es, ep, t, e, c⟩ := x; exact ⟨ob, es, ep, t, k _ _ (.inl rfl) e, c⟩
  | ins C dx fs =>
    obtain ⟨d, z, ne, e, mA, ⟨od, es, ep, e2, c⟩, r⟩ := x
    exact ⟨ho _ d, z, ne, k _ _ (.inl rfl) e, mA, ⟨od, es, ep, k _ _ (.inr d) e2, c⟩, r⟩
  | own y => obtain ⟨ob, e⟩ := x; exact ⟨ob, k _ _ (.inl rfl) e⟩
  | xd fs => obtain ⟨mA, ⟨od, es, ep, e, c⟩, r⟩ := x; exact ⟨mA, ⟨od, es, ep, k _ _ (.inl rfl) e, c⟩, r⟩
  | rng lo hi => obtain ⟨t, u, v, e⟩ := x; exact ⟨t, u, v, k _ _ (.inl rfl) e⟩
  | frz ob u ih => obtain ⟨e, q⟩ := x; exact ⟨k _ _ (.inl rfl) e, ih q⟩
  | tbl ps =>
    have e : h.get? a = some { cls := .none, data := .fields ps } := x
    show h'.get? a = some { cls := .none, data := .fields ps }
    exact k a _ (.inl rfl) e
  | met f y =>
    have e : h.get? a = some (PySem.W.methodObj (.ref f) (.ref y)) := x
    show h'.get? a = some (PySem.W.methodObj (.ref f) (.ref y))
    exact k a _ (.inl rfl) e
  | ext φ => obtain ⟨p, ⟨o, e⟩, st⟩ := x; exact ⟨st _ _ p fun o q => k _ _ (.inl rfl) q, ⟨o, k _ _ (.inl rfl) e⟩, st⟩
theorem HOk.lt (x : HOk P w H h) (e : H a = some o) : a < h.objs.size := (x a o e).lt
theorem HOk.fresh (x : HOk P w H h) (e : h.objs.size ≤ a) : H a = none := by
  cases q : H a with
  | none => rfl
  | some u => exact absurd (Nat.lt_of_lt_of_le (x.lt q) e) (Nat.lt_irrefl _)
/-- every object of the heap is kept -/
theorem HOk.kept (x : HOk P w H h) (k : ∀ b u, h.get? b = some u → h'.get? b = some u) : HOk P w H h' := fun a o e =>
  (x a o e).stay (fun b u _ q => k b u q) (fun _ q => q) fun _ _ q => q
/-- a new object is laid and tracked -/
theorem HOk.laid (x : HOk P w H h) (k : ∀ b u, h.get? b = some u → h'.get? b = some u) (hp : h.objs.size ≤ a) (new : ObjOk P w (upd H a o) h' a o) : HOk P w (upd H a o) h' := fun b u e => by
  have hn := x.fresh hp
  by_cases hb : b = a
  · subst hb; rw [upd_same] at e; cases e; exact new
  · rw [upd_ne hb] at e
    exact (x b u e).stay (fun c v _ q => k c v q) (fun c q => by rw [upd_ne (ne_of_none q hn)]; exact q) fun c xs q => by rw [upd_ne (ne_of_none q hn)]; exact q
end

/-- what may be read as u: it is u, or a known u -/
def Rd (H : Hp) (a : Addr) (u : HO) : Prop := H a = some u ∨ ∃ o, H a = some (.frz o u)
theorem Rd.ok {P : Program} {w : World} {H : Hp} {h : Heap} {a : Addr} {u : HO} (r : Rd H a u) (x : HOk P w H h) : ObjOk P w H h a u := by
  rcases r with r | ⟨o, r⟩
  · exact x a u r
  · obtain ⟨_, q⟩ := x a _ r
    exact q
/-- what may be written -/
def Mut : Option HO → Prop
  | some (.lst _) => True
  | some (.dK _) => True
  | some (.dT _) => True
  | some (.set _ _) => True
  | some (.ins _ _ _) => True
  | some (.ext _) => True
  | _ => False
section
variable {P : Program} {w : World} {H : Hp} {h h' : Heap} {x e : Addr} {o' : HO}
/-- the object at e is changed: x itself, or the dict of the instance x -/
theorem HOk.write (ok : HOk P w H h) (mu : Mut (H x)) (he : e = x ∨ H e = some (.own x)) (k : ∀ b u, b ≠ e → h.get? b = some u → h'.get? b = some u) (heo : ∃ u, h'.get? e = some u)
    (new : ObjOk P w (upd H x o') h' x o') : HOk P w (upd H x o') h' := fun b u q => by
  have nown : ∀ c y, H c = some (.own y) → c ≠ x := fun c y r z => by subst z; rw [r] at mu; exact mu
  have ntup : ∀ c xs, H c = some (.tup xs) → c ≠ x := fun c xs r z => by subst z; rw [r] at mu; exact mu
  by_cases hb : b = x
  · subst hb; rw [upd_same] at q; cases q; exact new
  · rw [upd_ne hb] at q
    by_cases hbe : b = e
    · have q' : H b = some (.own x) := by
        rcases he with z | z
        · exact absurd (hbe.trans z) hb
        · rw [hbe]; exact z
      rw [q] at q'; cases q'
      obtain ⟨v, hv⟩ := heo
      exact ⟨v, by rw [hbe]; exact hv⟩
    · refine (ok b u q).stay (fun c v hc r => k c v ?_ r) (fun c r => by rw [upd_ne (nown c b r)]; exact r) fun c xs r => by rw [upd_ne (ntup c xs r)]; exact r
      rcases hc with rfl | hc
      · exact hbe
      · rintro rfl
        rcases he with z | z
        · exact nown c b hc z
        · rw [hc] at z; cases z; exact hb rfl
end

/-! ### kept unless tracked; of the frames at fs (the callers') the slots may change (an exception that passes writes there); of the records at ex (iterators) nothing is said -/
structure Un (fs ex : List Addr) (H H' : Hp) (h h' : Heap) : Prop where
  keep : ∀ b o, h.get? b = some o → H b = none → b ∉ fs → b ∉ ex → h'.get? b = some o
  slot : ∀ b o, h.get? b = some o → H b = none → b ∈ fs → b ∉ ex → ∃ sl, h'.get? b = some { o with slots := sl }
  free : ∀ b o, h.get? b = some o → H b = none → b ∉ ex → H' b = none
  there : ∀ b o, h.get? b = some o → b ∉ ex → ∃ o', h'.get? b = some o'
  tups : ∀ b xs, H b = some (.tup xs) → H' b = some (.tup xs)
  frzs : ∀ b o u, H b = some (.frz o u) → H' b = some (.frz o u)
  tbls : ∀ b ps, H b = some (.tbl ps) → ∃ more, H' b = some (.tbl (ps ++ more))
section
variable {fs fs' ex ex' : List Addr} {H H1 H2 : Hp} {h h1 h2 h' : Heap} {a x e : Addr} {o : HO}
theorem Un.any (u : Un fs ex H H1 h h1) {b : Addr} {ob : Obj} (q : h.get? b = some ob) (n : H b = none) (hx : b ∉ ex) : ∃ sl, h1.get? b = some { ob with slots := sl } := by
  by_cases hb : b ∈ fs
  · exact u.slot b ob q n hb hx
  · exact ⟨ob.slots, u.keep b ob q n hb hx⟩
theorem Un.kept (k : ∀ b u, h.get? b = some u → h'.get? b = some u) : Un fs ex H H h h' :=
  ⟨fun b ob q _ _ _ => k b ob q, fun b ob q _ _ _ => ⟨ob.slots, k b ob q⟩, fun _ _ _ n _ => n, fun b ob q _ => ⟨ob, k b ob q⟩, fun _ _ q => q, fun _ _ _ q => q, fun _ ps q => ⟨#[], by rw [q]; simp⟩⟩
theorem Un.refl : Un fs ex H H h h := Un.kept fun _ _ q => q
theorem Un.laid (k : ∀ b u, h.get? b = some u → h'.get? b = some u) (hp : h.objs.size ≤ a) (hn : H a = none) : Un fs ex H (upd H a o) h h' where
  keep := fun b u q _ _ _ => k b u q
  slot := fun b u q _ _ _ => ⟨u.slots, k b u q⟩
  free := fun b u q n _ => by rw [upd_ne (Nat.ne_of_lt (Nat.lt_of_lt_of_le (Heap.lt_size q) hp))]; exact n
  there := fun b u q _ => ⟨u, k b u q⟩
  tups := fun b xs q => by rw [upd_ne (ne_of_none q hn)]; exact q
  frzs := fun b u xs q => by rw [upd_ne (ne_of_none q hn)]; exact q
  tbls := fun b ps q => ⟨#[], by rw [upd_ne (ne_of_none q hn), q]; simp⟩
theorem Un.write (mu : Mut (H x)) (he : e = x ∨ H e = some (.own x)) (k : ∀ b u, b ≠ e → h.get? b = some u → h'.get? b = some u) (heo : ∃ u, h'.get? e = some u) : Un fs ex H (upd H x o) h h' := by
  have hx : ∀ b, H b = none → b ≠ x := fun b n z => by subst z; rw [n] at mu; exact mu
  have hb : ∀ b, H b = none → b ≠ e := fun b n z => by
    subst z
    rcases he with r | r
    · exact hx b n r
    · rw [n] at r; cases r
  have hm : ∀ b u, H b = some u → ¬ Mut (some u) → b ≠ x := fun b u q nm z => by subst z; rw [q] at mu; exact nm mu
  refine ⟨fun b u q n _ _ => k b u (hb b n) q, fun b u q n _ _ => ⟨u.slots, k b u (hb b n) q⟩, fun b u q n _ => by rw [upd_ne (hx b n)]; exact n, fun b u q _ => ?_,
    fun b xs q => by rw [upd_ne (hm b _ q fun z => z)]; exact q, fun b u xs q => by rw [upd_ne (hm b _ q fun z => z)]; exact q, fun b ps q => ⟨#[], by rw [upd_ne (hm b _ q fun z => z), q]; simp⟩⟩
  by_cases hbe : b = e
  · subst hbe; exact heo
  · exact ⟨u, k b u hbe q⟩
end

/-! ### the heap without what is tracked -/
def trk (h : Heap) (H : Hp) : List Addr := (List.range h.objs.size).filter fun a => (H a).isSome
def hidT (h : Heap) (H : Hp) : Heap := PySem.W.hideAll h (trk h H)
theorem hidT_size (h : Heap) (H : Hp) : (hidT h H).objs.size = h.objs.size := PySem.W.hideAll_size _ _
theorem hidT_get {h : Heap} {H : Hp} {b : Addr} {o : Obj} (e : h.get? b = some o) (n : H b = none) : (hidT h H).get? b = some o :=
  PySem.W.hideAll_get _ e fun hm => by
    have q : (H b).isSome = true := (List.mem_filter.mp hm).2
    rw [n] at q; simp at q
theorem of_hidT {h : Heap} {H : Hp} {b : Addr} {o : Obj} (e : (hidT h H).get? b = some o) : h.get? b = some o ∧ H b = none := by
  have e' : h.get? b = some o := PySem.W.of_hideAll (trk h H) e
  refine ⟨e', ?_⟩
  cases q : H b with
  | none => rfl
  | some x =>
    have hm : b ∈ trk h H := List.mem_filter.mpr ⟨List.mem_range.mpr (Heap.lt_size e'), by simp [q]⟩
    have z : (hidT h H).get? b = none := PySem.W.hideAll_none (trk h H) hm
    rw [z] at e; cases e

/-! ### OpenK's ledger, filled with every new object but one -/
end L2

namespace L2
open PySem PySem.Spec PyProof.Rows

/-- the module's facts, over the base: the heap at the law's entry without what is tracked there -/
structure Mod (K : PySem.W.Frag) (mg : Str → Option Value) (base : Heap) : Prop where
  kin : K.In base
  glob : base.Ns mainGlobals mg
  blt : ∃ mb, base.Ns builtinsNs mb ∧ ∀ x : Str, x ≠ "__name__" → mb x = bootBuiltins x
  nolimit : base.NoLimit

/-- the context: a def's body (or a comprehension's block) running. base: fixed through the whole law; s₀, H₀: the entry; outer: the frames whose slots others may change (a def's callers); stack: all frames that run;
   ex: iterators that were made ahead of the entry and are walked here (a comprehension's); fn: the names whose cells were made at the entry (a def: all; a comprehension's block: its own); calm: not within an except suite; pn: pins that every state bears; xe: what is wanted of an exception that leaves the code -/
structure Cx where
  prog : Program
  w : World
  K : PySem.W.Frag
  mg : Str → Option Value
  base : Heap
  A : Around
  N : List Str
  s₀ : Shared
  H₀ : Hp
  env : Env
  outer : List Env
  stack : List Env
  ex : List Addr
  fn : Str → Bool
  calm : Bool
  pn : List (Addr × Obj)
  xe : Value → Shared → Prop
/-- the callers' frames -/
def frs (l : List Env) : List Addr := l.filterMap (·.frame)
abbrev Cx.fs (X : Cx) : List Addr := frs X.outer

def Vis (sc : Scope) (x : Str) : Prop := sc.names.lookup x = some .local ∨ sc.names.lookup x = some .cell ∨ sc.names.lookup x = some .free
def Loc (sc : Scope) (x : Str) : Prop := sc.names.lookup x = some .local ∨ sc.names.lookup x = some .cell
def Look (env : Env) (h : Heap) (m : Str → Option Value) (x : Str) (u : Value) : Prop :=
  (env.kindOf x = some .local ∧ m x = some u) ∨ ((env.kindOf x = some .cell ∨ env.kindOf x = some .free) ∧ ∃ c, env.cells.lookup x = some c ∧ h.IsCell c (some u))

structure Cx.Ok (X : Cx) : Prop where
  mod : Mod X.K X.mg X.base
  kind : X.env.scope.kind = .function
  glob : X.env.globals = mainGlobals
  blt : X.env.builtins = builtinsNs
  above : X.s₀.heap.objs.size ≤ X.env.locals
  inj : ∀ x y c, X.env.cells.lookup x = some c → X.env.cells.lookup y = some c → x = y
  has : ∀ x, (X.env.kindOf x = some .cell ∨ X.env.kindOf x = some .free) → ∃ c, X.env.cells.lookup x = some c
  cab : ∀ x c, X.fn x = true → X.env.cells.lookup x = some c → X.s₀.heap.objs.size ≤ c
  hd : X.calm = true → X.A.handled = none
  frames : X.A.frames = some X.stack
  stk : X.stack = X.outer ∨ (X.stack = X.env :: X.outer ∧ X.env.frame = some X.env.locals)
  exf : ∀ b ∈ X.ex, b ≠ X.env.locals ∧ ∀ x c, X.env.cells.lookup x = some c → c ≠ b
  bs : ∀ b o, X.base.get? b = some o → X.s₀.heap.get? b = some o ∧ X.H₀ b = none
  bsz : X.base.objs.size ≤ X.s₀.heap.objs.size
  noex : ∀ b o, X.base.get? b = some o → b ∉ X.ex
  exfs : ∀ b ∈ X.ex, b ∉ X.fs
  funs : X.s₀.heap.FunFrames X.base X.outer
  frf : ∀ b ∈ X.fs, X.H₀ b = none

structure Inv (X : Cx) (pins : List (Addr × Obj)) (σ : List (Option V)) (H : Hp) (s : Shared) : Prop where
  ok : X.Ok
  os : s.os = X.s₀.os
  bare : AllBare s.gens
  base : Un X.fs X.ex X.H₀ H X.s₀.heap s.heap
  loc : ∃ m, s.heap.Ns X.env.locals m ∧ ∀ (i : Nat) (x : Str) (v : V), X.N[i]? = some x → σ[i]? = some (some v) → Vis X.env.scope x → ∃ u, RelV v u ∧ Look X.env s.heap m x u
  cell : ∀ x c, X.env.cells.lookup x = some c → ∃ v, s.heap.IsCell c v
  free : H X.env.locals = none
  freeC : ∀ x c, X.env.cells.lookup x = some c → H c = none
  pin : ∀ p ∈ X.pn ++ pins, s.heap.get? p.1 = some p.2 ∧ H p.1 = none ∧ p.1 ≠ X.env.locals ∧ p.1 ∉ X.fs ∧ ∀ v, p.2.data ≠ .cell v
  hok : HOk X.prog X.w H s.heap
  len : σ.length = X.N.length

section
variable {X : Cx} {pins : List (Addr × Obj)} {σ : List (Option V)} {H H' : Hp} {s : Shared} {h' : Heap}

theorem Cx.Ok.nofr (ok : X.Ok) {b : Addr} {o : Obj} (e : X.base.get? b = some o) : b ∉ X.fs := fun hb => by
  have := (ok.funs.mem hb).1
  rw [e] at this; cases this
theorem Inv.bs (I : Inv X pins σ H s) : ∀ b o, X.base.get? b = some o → s.heap.get? b = some o ∧ H b = none := fun b o e =>
  ⟨I.base.keep b o (I.ok.bs b o e).1 (I.ok.bs b o e).2 (I.ok.nofr e) (I.ok.noex b o e), I.base.free b o (I.ok.bs b o e).1 (I.ok.bs b o e).2 (I.ok.noex b o e)⟩
theorem Inv.bk (I : Inv X pins σ H s) : ∀ b o, X.base.get? b = some o → s.heap.get? b = some o := fun b o e => (I.bs b o e).1
theorem Inv.mod (I : Inv X pins σ H s) : Mod X.K X.mg X.base := I.ok.mod
theorem Inv.kIn (I : Inv X pins σ H s) : X.K.In s.heap := I.ok.mod.kin.keeps I.bk
theorem Inv.lt (I : Inv X pins σ H s) : X.env.locals < s.heap.objs.size := let ⟨_, hn, _⟩ := I.loc; hn.lt
theorem Inv.sz (I : Inv X pins σ H s) : X.s₀.heap.objs.size ≤ s.heap.objs.size := Nat.le_trans I.ok.above (Nat.le_of_lt I.lt)
theorem Inv.nofs (I : Inv X pins σ H s) {a : Addr} (h : s.heap.objs.size ≤ a) : a ∉ X.fs := fun hb => by
  obtain ⟨_, o, ho, _⟩ := I.ok.funs.mem hb
  exact absurd (Nat.lt_of_lt_of_le (Heap.lt_size ho) (Nat.le_trans I.sz h)) (Nat.lt_irrefl _)
theorem Inv.cne (I : Inv X pins σ H s) : ∀ x c, X.env.cells.lookup x = some c → c ≠ X.env.locals := fun x c e z => by
  obtain ⟨v, o, ho, hd⟩ := I.cell x c e
  obtain ⟨m, ⟨o', es, ep, ho', hd', _⟩, _⟩ := I.loc
  rw [z, ho'] at ho; cases ho; rw [hd'] at hd; cases hd
theorem Inv.funs (I : Inv X pins σ H s) : s.heap.FunFrames X.base X.outer := by
  have all : ∀ (l : List Env), (∀ b ∈ frs l, b ∈ X.fs) → X.s₀.heap.FunFrames X.base l → s.heap.FunFrames X.base l := by
    intro l
    induction l with
    | nil => intro _ _; trivial
    | cons env r ih =>
      intro hs hl
      obtain ⟨hk, ⟨L, o, hf, hn, ho, hd⟩, hr⟩ := hl
      have hL : L ∈ X.fs := hs L (by unfold frs; rw [List.filterMap_cons, hf]; exact List.mem_cons_self)
      obtain ⟨sl, e⟩ := I.base.slot L o ho (I.ok.frf L hL) hL fun z => I.ok.exfs L z hL
      exact ⟨hk, ⟨L, _, hf, hn, e, hd⟩, ih (fun b hb => hs b (by unfold frs; rw [List.filterMap_cons, hf]; exact List.mem_cons_of_mem _ hb)) hr⟩
  exact all X.outer (fun _ hb => hb) I.ok.funs

/-- the frames that run, for a call -/
theorem Inv.stack (I : Inv X pins σ H s) : s.heap.FunFrames X.base X.stack := by
  rcases I.ok.stk with e | ⟨e, hf⟩
  · rw [e]; exact I.funs
  · rw [e]
    obtain ⟨m, hn, _⟩ := I.loc
    refine .cons (by rw [I.ok.kind]; decide) hf hn ?_ I.funs
    exact Heap.get?_none_of_le (Nat.le_trans I.ok.bsz I.ok.above)
theorem Inv.stkSub (I : Inv X pins σ H s) : ∀ b ∈ frs X.stack, b ∈ X.env.locals :: X.fs := fun b hb => by
  rcases I.ok.stk with e | ⟨e, hf⟩
  · rw [e] at hb; exact List.mem_cons_of_mem _ hb
  · rw [e] at hb
    unfold frs at hb
    rw [List.filterMap_cons, hf] at hb
    exact hb
theorem Inv.stkFree (I : Inv X pins σ H s) : ∀ b ∈ frs X.stack, H b = none := fun b hb => by
  rcases List.mem_cons.mp (I.stkSub b hb) with e | hb
  · rw [e]; exact I.free
  · obtain ⟨_, o, ho, _⟩ := I.ok.funs.mem hb
    exact I.base.free b o ho (I.ok.frf b hb) fun z => I.ok.exfs b z hb

/-- THE STEP: the untracked objects but the frame and the records at ch are kept (the callers' frames up to slots), the frame's map is kept, the new abstract heap is held -/
theorem Inv.step {g' : Array GenState} {t' : Nat} {d' : Drawn} {ch : List Addr} (I : Inv X pins σ H s)
    (hch : ∀ b ∈ ch, (b ∈ X.ex ∨ X.s₀.heap.objs.size ≤ b) ∧ b ≠ X.env.locals ∧ (∀ x c, X.env.cells.lookup x = some c → c ≠ b) ∧ ∀ p ∈ X.pn ++ pins, p.1 ≠ b)
    (keep : ∀ b o, b ≠ X.env.locals → b ∉ X.fs → b ∉ ch → s.heap.get? b = some o → H b = none → h'.get? b = some o)
    (slot : ∀ b o, b ≠ X.env.locals → b ∈ X.fs → b ∉ ch → s.heap.get? b = some o → H b = none → ∃ sl, h'.get? b = some { o with slots := sl }) (free : ∀ b o, b ∉ ch → s.heap.get? b = some o → H b = none → H' b = none)
    (there : ∀ b o, b ∉ ch → s.heap.get? b = some o → ∃ o', h'.get? b = some o')
    (tups : ∀ b xs, H b = some (.tup xs) → H' b = some (.tup xs)) (frzs : ∀ b o u, H b = some (.frz o u) → H' b = some (.frz o u)) (tbls : ∀ b ps, H b = some (.tbl ps) → ∃ more, H' b = some (.tbl (ps ++ more)))
    (ns : ∀ m, s.heap.Ns X.env.locals m → h'.Ns X.env.locals m) (hok : HOk X.prog X.w H' h') (hg : AllBare g') :
    Inv X pins σ H' { s with heap := h', gens := g', drawn := d', toks := t' } := by
  have neL : ∀ b o, X.s₀.heap.get? b = some o → b ≠ X.env.locals := fun b o e => Nat.ne_of_lt (Nat.lt_of_lt_of_le (Heap.lt_size e) I.ok.above)
  have neC : ∀ b o, X.s₀.heap.get? b = some o → b ∉ X.ex → b ∉ ch := fun b o e hx hb => by
    rcases (hch b hb).1 with z | z
    · exact hx z
    · exact absurd (Nat.lt_of_lt_of_le (Heap.lt_size e) z) (Nat.lt_irrefl _)
  have cellK : ∀ x c, X.env.cells.lookup x = some c → ∀ v, s.heap.IsCell c v → h'.IsCell c v := fun x c e v ⟨o, ho, hd⟩ => by
    have nch : c ∉ ch := fun z => (hch c z).2.2.1 x c e rfl
    by_cases hc : c ∈ X.fs
    · obtain ⟨sl, q⟩ := slot c o (I.cne x c e) hc nch ho (I.freeC x c e)
      exact ⟨_, q, hd⟩
    · exact ⟨o, keep c o (I.cne x c e) hc nch ho (I.freeC x c e), hd⟩
  refine ⟨I.ok, I.os, hg, ⟨fun b o e n hb hx => ?_, fun b o e n hb hx => ?_, fun b o e n hx => ?_, fun b o e hx => ?_, fun b xs e => tups b xs (I.base.tups b xs e), fun b o xs e => frzs b o xs (I.base.frzs b o xs e), fun b ps e => ?_⟩, ?_, fun x c e => ?_, ?_, fun x c e => ?_, fun p hp => ?_, hok, I.len⟩
  · exact keep b o (neL b o e) hb (neC b o e hx) (I.base.keep b o e n hb hx) (I.base.free b o e n hx)
  · obtain ⟨sl, e1⟩ := I.base.slot b o e n hb hx
    obtain ⟨sl', e2⟩ := slot b _ (neL b o e) hb (neC b o e hx) e1 (I.base.free b o e n hx)
    exact ⟨sl', e2⟩
  · obtain ⟨o', e1⟩ := I.base.there b o e hx
    exact free b o' (neC b o e hx) e1 (I.base.free b o e n hx)
  · obtain ⟨o', e1⟩ := I.base.there b o e hx
    exact there b o' (neC b o e hx) e1
  · obtain ⟨m1, e1⟩ := I.base.tbls b ps e
    obtain ⟨m2, e2⟩ := tbls b _ e1
    exact ⟨m1 ++ m2, by rw [e2, Array.append_assoc]⟩
  · obtain ⟨m, hn, hl⟩ := I.loc
    refine ⟨m, ns m hn, fun i x v e1 e2 e3 => ?_⟩
    obtain ⟨u, r, l⟩ := hl i x v e1 e2 e3
    refine ⟨u, r, ?_⟩
    rcases l with l | ⟨k, c, e, z⟩
    · exact .inl l
    · exact .inr ⟨k, c, e, cellK x c e _ z⟩
  · obtain ⟨v, z⟩ := I.cell x c e
    exact ⟨v, cellK x c e v z⟩
  · obtain ⟨m, ⟨o, _, _, ho, _⟩, _⟩ := I.loc
    exact free _ o (fun z => (hch _ z).2.1 rfl) ho I.free
  · obtain ⟨v, o, ho, hd⟩ := I.cell x c e
    exact free c o (fun z => (hch c z).2.2.1 x c e rfl) ho (I.freeC x c e)
  · obtain ⟨e, n, ne, nf, d⟩ := I.pin p hp
    have nch : p.1 ∉ ch := fun z => (hch p.1 z).2.2.2 p hp rfl
    exact ⟨keep p.1 p.2 ne nf nch e n, free p.1 p.2 nch e n, ne, nf, d⟩
/-- .. where the frame's own object is kept too -/
theorem Inv.un {t' : Nat} (I : Inv X pins σ H s) (u : Un X.fs [] H H' s.heap h') (hok : HOk X.prog X.w H' h') : Inv X pins σ H' { s with heap := h', toks := t' } := by
  obtain ⟨m, ⟨o, es, ep, ho, r⟩, _⟩ := id I.loc
  obtain ⟨sl, hL⟩ := u.any ho I.free (by simp)
  exact I.step (g' := s.gens) (d' := s.drawn) (ch := []) (fun _ z => nomatch z) (fun b o _ hb _ e n => u.keep b o e n hb (by simp)) (fun b o _ hb _ e n => u.slot b o e n hb (by simp)) (fun b o _ e n => u.free b o e n (by simp)) (fun b o _ e => u.there b o e (by simp)) u.tups u.frzs u.tbls (fun m' hm => by
    obtain ⟨o', es', ep', ho', r'⟩ := hm
    rw [ho] at ho'; cases ho'
    exact ⟨_, es', ep', hL, r'⟩) hok I.bare
/-- behind a call (or a comprehension's block): the slots of this frame may have changed too, the records at ch may have turned -/
theorem Inv.call {g' : Array GenState} {t' : Nat} {d' : Drawn} {ch : List Addr} (I : Inv X pins σ H s) (u : Un (frs X.stack) ch H H' s.heap h') (hok : HOk X.prog X.w H' h') (hg : AllBare g')
    (hch : ∀ b ∈ ch, (b ∈ X.ex ∨ X.s₀.heap.objs.size ≤ b) ∧ b ≠ X.env.locals ∧ (∀ x c, X.env.cells.lookup x = some c → c ≠ b) ∧ ∀ p ∈ X.pn ++ pins, p.1 ≠ b) :
    Inv X pins σ H' { s with heap := h', gens := g', drawn := d', toks := t' } := by
  obtain ⟨m, ⟨o, es, ep, ho, r⟩, _⟩ := id I.loc
  obtain ⟨sl, hL⟩ := u.any ho I.free fun z => (hch _ z).2.1 rfl
  exact I.step (ch := ch) hch (fun b o hL hb hc e n => u.keep b o e n (fun z => (List.mem_cons.mp (I.stkSub b z)).elim hL hb) hc) (fun b o _ _ hc e n => u.any e n hc) (fun b o hc e n => u.free b o e n hc) (fun b o hc e => u.there b o e hc) u.tups u.frzs u.tbls (fun m' hm => by
    obtain ⟨o', es', ep', ho', r'⟩ := hm
    rw [ho] at ho'; cases ho'
    exact ⟨_, es', ep', hL, r'⟩) hok hg
/-- an untracked record of ours (an iterator) has turned -/
theorem Inv.turned {t' : Nat} {it : Addr} (I : Inv X pins σ H s) (k : ∀ b o, b ≠ it → s.heap.get? b = some o → h'.get? b = some o) (hn : H it = none) (hL : it ≠ X.env.locals)
    (h1 : it ∈ X.ex ∨ X.s₀.heap.objs.size ≤ it) (h2 : ∀ x c, X.env.cells.lookup x = some c → c ≠ it) (h3 : ∀ p ∈ X.pn ++ pins, p.1 ≠ it) : Inv X pins σ H { s with heap := h', toks := t' } := by
  have nit : ∀ b u, H b = some u → b ≠ it := fun b u e z => by rw [z, hn] at e; cases e
  refine I.step (g' := s.gens) (d' := s.drawn) (ch := [it]) (fun b hb => ?_) (fun b o _ _ hc e _ => k b o (fun z => hc (by simp [z])) e) (fun b o _ _ hc e _ => ⟨o.slots, k b o (fun z => hc (by simp [z])) e⟩) (fun _ _ _ _ n => n)
    (fun b o hc e => ⟨o, k b o (fun z => hc (by simp [z])) e⟩) (fun _ _ e => e) (fun _ _ _ e => e) (fun b ps e => ⟨#[], by rw [e]; simp⟩) (fun m hm => ?_) (fun b u e => ?_) I.bare
  · have e : b = it := by simpa using hb
    subst e
    exact ⟨h1, hL, h2, h3⟩
  · obtain ⟨o, es, ep, ho, r⟩ := hm
    exact ⟨o, es, ep, k _ o (Ne.symm hL) ho, r⟩
  · refine (I.hok b u e).stay (fun c v hc q => k c v ?_ q) (fun _ q => q) fun _ _ q => q
    rcases hc with z | z
    · rw [z]; exact nit b u e
    · exact nit c _ z
theorem Inv.tok (I : Inv X pins σ H s) (t : Nat) : Inv X pins σ H { s with toks := t } := I.un (h' := s.heap) (t' := t) Un.refl I.hok
/-- all objects kept -/
theorem Inv.kept {t' : Nat} (I : Inv X pins σ H s) (k : ∀ b u, s.heap.get? b = some u → h'.get? b = some u) : Inv X pins σ H { s with heap := h', toks := t' } := I.un (Un.kept k) (I.hok.kept k)
/-- a new object laid and tracked -/
theorem Inv.laid {a : Addr} {o : HO} {t' : Nat} (I : Inv X pins σ H s) (k : ∀ b u, s.heap.get? b = some u → h'.get? b = some u) (hp : s.heap.objs.size ≤ a) (new : ObjOk X.prog X.w (upd H a o) h' a o) :
    Inv X pins σ (upd H a o) { s with heap := h', toks := t' } := I.un (Un.laid k hp (I.hok.fresh hp)) (I.hok.laid k hp new)
/-- an object written -/
theorem Inv.write {x e : Addr} {o : HO} {t' : Nat} (I : Inv X pins σ H s) (mu : Mut (H x)) (he : e = x ∨ H e = some (.own x)) (k : ∀ b u, b ≠ e → s.heap.get? b = some u → h'.get? b = some u) (heo : ∃ u, h'.get? e = some u)
    (new : ObjOk X.prog X.w (upd H x o) h' x o) : Inv X pins σ (upd H x o) { s with heap := h', toks := t' } := I.un (Un.write mu he k heo) (I.hok.write mu he k heo new)
/-- forgetting slots, pins -/
theorem Inv.weak {σ' : List (Option V)} (I : Inv X pins σ H s) (hl : σ'.length = σ.length) (w : ∀ (i : Nat) v, σ'[i]? = some (some v) → σ[i]? = some (some v)) : Inv X pins σ' H s :=
  ⟨I.ok, I.os, I.bare, I.base, let ⟨m, hn, hl'⟩ := I.loc; ⟨m, hn, fun i x v e1 e2 e3 => hl' i x v e1 (w i v e2) e3⟩, I.cell, I.free, I.freeC, I.pin, I.hok, hl.trans I.len⟩
theorem Inv.pins_of {pins' : List (Addr × Obj)} (I : Inv X pins σ H s) (h : ∀ p ∈ pins', s.heap.get? p.1 = some p.2 ∧ H p.1 = none ∧ p.1 ≠ X.env.locals ∧ p.1 ∉ X.fs ∧ ∀ v, p.2.data ≠ .cell v) : Inv X pins' σ H s :=
  ⟨I.ok, I.os, I.bare, I.base, I.loc, I.cell, I.free, I.freeC, fun p hp => (List.mem_append.mp hp).elim (fun z => I.pin p (List.mem_append_left _ z)) (h p), I.hok, I.len⟩

theorem nodup_ix {N : List Str} (hN : N.Nodup) {i j : Nat} {x : Str} (a : N[i]? = some x) (b : N[j]? = some x) : i = j := by
  obtain ⟨h1, e1⟩ := List.getElem?_eq_some_iff.mp a
  obtain ⟨h2, e2⟩ := List.getElem?_eq_some_iff.mp b
  exact (List.getElem_inj hN).mp (e1.trans e2.symm)

/-- a name is stored; what changed -/
theorem store_ok2 {M : Model} {A : Around} {E : Value → Shared → Prop} {i : Nat} {x : Str} {v : V} {u : Value} {Q : Unit → Shared → Prop} (I : Inv X pins σ H s) (hN : X.N.Nodup) (hi : X.N[i]? = some x) (hx : Loc X.env.scope x) (r : RelV v u)
    (h : ∀ s', Inv X pins (σ.set i (some v)) H s' → (∃ a, Heap.SameBut a s.heap s'.heap ∧ (a = X.env.locals ∨ X.env.cells.lookup x = some a)) → Q () s') (hf : X.fn x = true ∨ X.env.scope.names.lookup x = some .local := by first | exact .inl rfl | exact .inr rfl | assumption) : wpAny M A (storeName X.env x u) Q E s := by
  obtain ⟨m, hn, hl⟩ := id I.loc
  have hcls : (X.env.scope.kind == .class || (X.env.scope.kind == .module && X.env.locals != X.env.globals)) = false := by rw [I.ok.kind]; rfl
  have hiσ : i < σ.length := by rw [I.len]; exact (List.getElem?_eq_some_iff.mp hi).1
  have cne := I.cne
  have tracked : ∀ {a : Addr} {h' : Heap}, (∃ o, s.heap.get? a = some o ∧ H a = none) → Heap.SameBut a s.heap h' → HOk X.prog X.w H h' := fun {a h'} ha hs b ob e => by
    obtain ⟨_, _, hfree⟩ := ha
    refine (I.hok b ob e).stay (fun c w' hc q => (hs.2 c ?_).trans q) (fun _ q => q) fun _ _ q => q
    rintro rfl
    rcases hc with rfl | hc
    · rw [hfree] at e; cases e
    · rw [hfree] at hc; cases hc
  rcases hx with hk | hk
  · refine wpAny_storeName_local hk hn (fun h' hn' hs => ?_) hcls
    obtain ⟨oL, _, _, hoL, _⟩ := id hn
    refine h _ ⟨I.ok, I.os, I.bare, ⟨fun b o e n hb hx => ?_, fun b o e n hb hx => ?_, I.base.free, fun b o e hx => ?_, I.base.tups, I.base.frzs, I.base.tbls⟩, ⟨_, hn', fun j y v' e1 e2 e3 => ?_⟩, fun y c e => ?_, I.free, I.freeC, fun p hp => ?_, tracked ⟨oL, hoL, I.free⟩ hs, by simpa using I.len⟩ ⟨_, hs, .inl rfl⟩
    · exact (hs.2 b (Nat.ne_of_lt (Nat.lt_of_lt_of_le (Heap.lt_size e) I.ok.above))).trans (I.base.keep b o e n hb hx)
    · obtain ⟨sl, e1⟩ := I.base.slot b o e n hb hx
      exact ⟨sl, (hs.2 b (Nat.ne_of_lt (Nat.lt_of_lt_of_le (Heap.lt_size e) I.ok.above))).trans e1⟩
    · obtain ⟨o', e1⟩ := I.base.there b o e hx
      exact ⟨o', (hs.2 b (Nat.ne_of_lt (Nat.lt_of_lt_of_le (Heap.lt_size e) I.ok.above))).trans e1⟩
    · by_cases hj : j = i
      · subst hj
        rw [hi] at e1; cases e1
        rw [List.getElem?_set_self hiσ] at e2
        cases e2
        exact ⟨u, r, .inl ⟨hk, by simp⟩⟩
      · rw [List.getElem?_set_ne (Ne.symm hj)] at e2
        obtain ⟨u', r', q⟩ := hl j y v' e1 e2 e3
        refine ⟨u', r', ?_⟩
        rcases q with ⟨k, e⟩ | ⟨k, c, e, z⟩
        · refine .inl ⟨k, ?_⟩
          have : y ≠ x := fun e => hj (nodup_ix hN e1 (e ▸ hi))
          simp [this, e]
        · exact .inr ⟨k, c, e, z.sameBut hs (cne y c e)⟩
    · obtain ⟨w', z⟩ := I.cell y c e
      exact ⟨w', z.sameBut hs (cne y c e)⟩
    · obtain ⟨e, n, ne, nf, d⟩ := I.pin p hp
      exact ⟨(hs.2 p.1 ne).trans e, n, ne, nf, d⟩
  · have hfn : X.fn x = true := by
      rcases hf with z | z
      · exact z
      · rw [z] at hk; cases hk
    obtain ⟨c, hc⟩ := I.ok.has x (.inl hk)
    obtain ⟨w', z⟩ := I.cell x c hc
    refine wpAny_storeName_cell I.ok.kind hk hc z (fun h' hc' hs => ?_)
    obtain ⟨oc, hoc, hocd⟩ := id z
    refine h { s with heap := h' } ⟨I.ok, I.os, I.bare, ⟨fun b o e n hb hx => ?_, fun b o e n hb hx => ?_, I.base.free, fun b o e hx => ?_, I.base.tups, I.base.frzs, I.base.tbls⟩, ⟨m, hn.sameBut hs (Ne.symm (cne x c hc)), fun j y v' e1 e2 e3 => ?_⟩, fun y c' e => ?_, I.free, I.freeC, fun p hp => ?_, tracked ⟨oc, hoc, I.freeC x c hc⟩ hs, by simpa using I.len⟩ ⟨c, hs, .inr hc⟩
    · exact (hs.2 b (Nat.ne_of_lt (Nat.lt_of_lt_of_le (Heap.lt_size e) (I.ok.cab x c hfn hc)))).trans (I.base.keep b o e n hb hx)
    · obtain ⟨sl, e1⟩ := I.base.slot b o e n hb hx
      exact ⟨sl, (hs.2 b (Nat.ne_of_lt (Nat.lt_of_lt_of_le (Heap.lt_size e) (I.ok.cab x c hfn hc)))).trans e1⟩
    · obtain ⟨o', e1⟩ := I.base.there b o e hx
      exact ⟨o', (hs.2 b (Nat.ne_of_lt (Nat.lt_of_lt_of_le (Heap.lt_size e) (I.ok.cab x c hfn hc)))).trans e1⟩
    · by_cases hj : j = i
      · subst hj
        rw [hi] at e1; cases e1
        rw [List.getElem?_set_self hiσ] at e2
        cases e2
        exact ⟨u, r, .inr ⟨.inl hk, c, hc, hc'⟩⟩
      · rw [List.getElem?_set_ne (Ne.symm hj)] at e2
        obtain ⟨u', r', q⟩ := hl j y v' e1 e2 e3
        refine ⟨u', r', ?_⟩
        rcases q with q | ⟨k, c', e, z'⟩
        · exact .inl q
        · refine .inr ⟨k, c', e, z'.sameBut hs ?_⟩
          rintro rfl
          exact hj (nodup_ix hN e1 (I.ok.inj _ _ _ e hc ▸ hi))
    · by_cases hcc : c' = c
      · subst hcc; exact ⟨_, hc'⟩
      · obtain ⟨w2, z2⟩ := I.cell y c' e
        exact ⟨w2, z2.sameBut hs hcc⟩
    · obtain ⟨e, n, ne, nf, d⟩ := I.pin p hp
      refine ⟨(hs.2 p.1 ?_).trans e, n, ne, nf, d⟩
      intro q
      rw [q, hoc] at e
      have q' : oc = p.2 := Option.some.inj e
      exact d w' (by rw [← q']; exact hocd)
theorem store_ok {M : Model} {A : Around} {E : Value → Shared → Prop} {i : Nat} {x : Str} {v : V} {u : Value} {Q : Unit → Shared → Prop} (I : Inv X pins σ H s) (hN : X.N.Nodup) (hi : X.N[i]? = some x) (hx : Loc X.env.scope x) (r : RelV v u)
    (h : ∀ s', Inv X pins (σ.set i (some v)) H s' → Q () s') (hf : X.fn x = true ∨ X.env.scope.names.lookup x = some .local := by first | exact .inl rfl | exact .inr rfl | assumption) : wpAny M A (storeName X.env x u) Q E s :=
  store_ok2 I hN hi hx r (fun s' I' _ => h s' I') hf
/-- behind a call or a block, the state as it is -/
theorem Inv.call' {s' : Shared} {ch : List Addr} (I : Inv X pins σ H s) (ho : s'.os = s.os) (u : Un (frs X.stack) ch H H' s.heap s'.heap) (hok : HOk X.prog X.w H' s'.heap) (hg : AllBare s'.gens)
    (hch : ∀ b ∈ ch, (b ∈ X.ex ∨ X.s₀.heap.objs.size ≤ b) ∧ b ≠ X.env.locals ∧ (∀ x c, X.env.cells.lookup x = some c → c ≠ b) ∧ ∀ p ∈ X.pn ++ pins, p.1 ≠ b) : Inv X pins σ H' s' := by
  obtain ⟨h', g', d', t', o'⟩ := s'
  have e : o' = s.os := ho
  subst e
  exact I.call (g' := g') (t' := t') (d' := d') u hok hg hch
end

/-! ### the judgements -/
/-- an exception: its class, its own dict's address (where it has one), the abstract heap behind it -/
abbrev XK := Value → Option Addr → Hp → Prop
abbrev St := List (Option V)
abbrev VK := V → Hp → Prop
/-- an expression's reading; a test's; an argument list's -/
abbrev TE := St → Hp → VK → Prop
abbrev TT := St → Hp → (Bool → Hp → Prop) → Prop
abbrev TA := St → Hp → (List V → Hp → Prop) → Prop
/-- what is wanted behind a statement -/
structure Ends where
  nx : St → Hp → Prop
  rt : VK
  bk : St → Hp → Prop := fun _ _ => False
  ct : St → Hp → Prop := fun _ _ => False
abbrev TS := Ends → St → Hp → Prop

def EP (X : Cx) (pins : List (Addr × Obj)) (σ : St) (Q : VK) (u : Value) (s' : Shared) : Prop := ∃ v H', Inv X pins σ H' s' ∧ RelV v u ∧ Q v H'
def TP (X : Cx) (pins : List (Addr × Obj)) (σ : St) (Q : Bool → Hp → Prop) (b : Bool) (s' : Shared) : Prop := ∃ H', Inv X pins σ H' s' ∧ Q b H'
def AP (X : Cx) (pins : List (Addr × Obj)) (σ : St) (Q : List V → Hp → Prop) (us : List Value) (s' : Shared) : Prop := ∃ vs H', Inv X pins σ H' s' ∧ Vals vs us ∧ Q vs H'
def SP (X : Cx) (pins : List (Addr × Obj)) (D : Ends) (f : Flow) (s' : Shared) : Prop :=
  match f with
  | .next => ∃ σ' H', Inv X pins σ' H' s' ∧ D.nx σ' H'
  | .brk => ∃ σ' H', Inv X pins σ' H' s' ∧ D.bk σ' H'
  | .cont => ∃ σ' H', Inv X pins σ' H' s' ∧ D.ct σ' H'
  | .ret u => ∃ v σ' H', Inv X pins σ' H' s' ∧ RelV v u ∧ D.rt v H'

def PE (X : Cx) (e : Expr) (t : TE) : Prop :=
  ∀ (pins : List (Addr × Obj)) (s : Shared) (σ : St) (H : Hp) (Q : VK), Inv X pins σ H s → t σ H Q → wpAny (model X.prog X.w) X.A (eval e X.env) (EP X pins σ Q) X.xe s
def PT (X : Cx) (e : Expr) (t : TT) : Prop :=
  ∀ (pins : List (Addr × Obj)) (s : Shared) (σ : St) (H : Hp) (Q : Bool → Hp → Prop), Inv X pins σ H s → t σ H Q → wpAny (model X.prog X.w) X.A (isTrue e X.env (eval e X.env)) (TP X pins σ Q) X.xe s
/-- a test whatever its 'whole' is (and, or) -/
def PW (X : Cx) (e : Expr) (t : TT) : Prop :=
  ∀ (whole : Sem Value) (pins : List (Addr × Obj)) (s : Shared) (σ : St) (H : Hp) (Q : Bool → Hp → Prop), Inv X pins σ H s → t σ H Q → wpAny (model X.prog X.w) X.A (isTrue e X.env whole) (TP X pins σ Q) X.xe s
theorem PW.pt {X : Cx} {e : Expr} {t : TT} (h : PW X e t) : PT X e t := h _
/-- an argument list (no star), from the left -/
def PA (X : Cx) (es : List Expr) (t : TA) : Prop :=
  ∀ (pos : Pos) (pins : List (Addr × Obj)) (s : Shared) (σ : St) (H : Hp) (Q : List V → Hp → Prop), Inv X pins σ H s → t σ H Q → wpAny (model X.prog X.w) X.A (spliced (backTo pos (starEach es X.env))) (AP X pins σ Q) X.xe s
def PS (X : Cx) (st : Stmt) (t : TS) : Prop :=
  ∀ (pins : List (Addr × Obj)) (s : Shared) (σ : St) (H : Hp) (D : Ends), Inv X pins σ H s → t D σ H → wpAny (model X.prog X.w) X.A (exec st X.env) (SP X pins D) X.xe s
def PSs (X : Cx) (st : List Stmt) (t : TS) : Prop :=
  ∀ (pins : List (Addr × Obj)) (s : Shared) (σ : St) (H : Hp) (D : Ends), Inv X pins σ H s → t D σ H → wpAny (model X.prog X.w) X.A (execs st X.env) (SP X pins D) X.xe s
/-- weaken the end -/
theorem thn {α : Type} {t : Sem α} {Q Q' : α → Shared → Prop} {M : Model} {A : Around} {E : Value → Shared → Prop} {s : Shared} (h : wpAny M A t Q E s) (hQ : ∀ a s, Q a s → Q' a s) : wpAny M A t Q' E s := wpAny_mono h hQ fun _ _ x => x
end L2

namespace L2
open PySem PySem.Spec PyProof.Rows
section
variable {X : Cx}


/-! ### names and constants -/
def tVar (i : Nat) : TE := fun σ H Q => ∃ v, σ[i]? = some (some v) ∧ Q v H
def tC (v : V) : TE := fun _ H Q => Q v H
theorem pe_var {i : Nat} {x : Str} {pos : Pos} (hN : X.N[i]? = some x) (hv : Vis X.env.scope x) (hd : (x == ("__debug__" : Str)) = false := by decide) (hcd : (x == ("__classdict__" : Str)) = false := by decide) : PE X (.Name x pos) (tVar i) := by
  intro pins s σ H Q I h
  obtain ⟨v, e, h⟩ := h
  obtain ⟨m, hn, hl⟩ := I.loc
  obtain ⟨u, r, l⟩ := hl i x v hN e hv
  have fin : EP X pins σ Q u s := ⟨v, H, I, r, h⟩
  rcases l with ⟨hk, hm⟩ | ⟨hk, c, hc, hcell⟩
  · exact wpAny_Name (wpAny_loadName_local I.ok.kind hk hn hm fin) hd
  · rcases hk with hk | hk
    · exact wpAny_Name (wpAny_loadName_cell I.ok.kind hk hc hcell fin) hd
    · exact wpAny_Name (wpAny_loadName_free I.ok.kind hk hc hcell fin hcd) hd
theorem pe_int {i j pos} : PE X (.Constant (.int i) j pos) (tC (.int i)) := fun _ _ _ H _ I h => wpAny_Constant_int ⟨.int i, H, I.tok _, ⟨_, rfl⟩, h⟩
theorem pe_bl {b j pos} : PE X (.Constant (.bool b) j pos) (tC (.bl b)) := fun _ _ _ H _ I h => Constant_bool ⟨.bl b, H, I, rfl, h⟩
theorem pe_non {j pos} : PE X (.Constant .none j pos) (tC .non) := fun _ _ _ H _ I h => Constant_none ⟨.non, H, I, rfl, h⟩
theorem pe_str {x j pos} : PE X (.Constant (.str x) j pos) (tC (.str x)) := fun _ _ _ H _ I h => Calls.Constant_str ⟨.str x, H, I.tok _, ⟨_, rfl⟩, h⟩

/-- a global name of the def -/
def Gl (X : Cx) (x : Str) : Prop := X.env.kindOf x = some .globalImplicit
theorem ld_glob {E : Value → Shared → Prop} {pins : List (Addr × Obj)} {s : Shared} {σ : St} {H : Hp} {x : Str} {u : Value} {pos : Pos} {Q : Value → Shared → Prop} (I : Inv X pins σ H s) (hg : Gl X x) (hm : X.mg x = some u) (h : Q u s)
    (hd : (x == ("__debug__" : Str)) = false := by decide) : wpAny (model X.prog X.w) X.A (eval (.Name x pos) X.env) Q E s :=
  Calls.Name_function_global I.ok.kind hg (Calls.loadGlobal_global (by rw [I.ok.glob]; exact I.mod.glob.keeps I.bk) hm h) hd
theorem ld_blt {E : Value → Shared → Prop} {pins : List (Addr × Obj)} {s : Shared} {σ : St} {H : Hp} {x : Str} {u : Value} {pos : Pos} {Q : Value → Shared → Prop} (I : Inv X pins σ H s) (hg : Gl X x) (hm : X.mg x = none) (hv : bootBuiltins x = some u) (h : Q u s)
    (hn : x ≠ "__name__" := by decide) (hd : (x == ("__debug__" : Str)) = false := by decide) : wpAny (model X.prog X.w) X.A (eval (.Name x pos) X.env) Q E s := by
  obtain ⟨mb, h1, h2⟩ := I.mod.blt
  exact Calls.Name_function_global I.ok.kind hg (Calls.loadGlobal_builtin (by rw [I.ok.glob]; exact I.mod.glob.keeps I.bk) hm (by rw [I.ok.blt]; exact h1.keeps I.bk) ((h2 x hn).trans hv) h) hd
/-- a module's constant, a class, a function, as a value -/
theorem pe_glob {x : Str} {v : V} {u : Value} {pos : Pos} (hg : Gl X x) (hm : X.mg x = some u) (r : RelV v u) (hd : (x == ("__debug__" : Str)) = false := by decide) : PE X (.Name x pos) (tC v) :=
  fun _ _ _ H _ I h => ld_glob I hg hm ⟨v, H, I, r, h⟩ hd
theorem pe_bltn {x : Str} {v : V} {u : Value} {pos : Pos} (hg : Gl X x) (hm : X.mg x = none) (hv : bootBuiltins x = some u) (r : RelV v u) (hn : x ≠ "__name__" := by decide) (hd : (x == ("__debug__" : Str)) = false := by decide) : PE X (.Name x pos) (tC v) :=
  fun _ _ _ H _ I h => ld_blt I hg hm hv ⟨v, H, I, r, h⟩ hn hd

/-! ### arithmetic -/
variable {a b : Expr} {ta tb : TE} {pos : Pos}

/-! ### comparisons -/
/-- a comparison as a value, as a test -/
def tB (t : TE) : TT := fun σ H Q => t σ H fun x H1 => ∃ c, x = .bl c ∧ Q c H1
/-- an expression whose value is a bool, as a test -/
theorem pt_val {e : Expr} {t : TE} (h : PE X e t) (he : ∀ whole, isTrue e X.env whole = (do let v ← whole; standAt e.pos; holding [v] (truthy v)) := by intro _; rfl) : PT X e (tB t) := by
  intro pins s σ H Q I hw
  refine isTrue_plain (thn (h pins s σ H _ I hw) fun v s1 ⟨x, H1, I1, r1, q1⟩ => ?_) (he _)
  obtain ⟨d, rfl, q⟩ := q1
  cases r1
  exact wpAny_truthy_bool ⟨H1, I1, q⟩

/-! ### and, or, not -/
variable {tA tB' : TT} {rest : List Expr}
def tOr (t u : TT) : TT := fun σ H Q => t σ H fun c H1 => if c = true then Q true H1 else u σ H1 Q
def tNot (t : TT) : TT := fun σ H Q => t σ H fun c H1 => Q (!c) H1
theorem pw_or1 (ha : PT X a tA) : PW X (.BoolOp .Or [a] pos) tA := by
  intro wh pins s σ H Q I h
  refine isTrue_or (thn (ha pins s σ H Q I h) fun c s1 e => ?_)
  cases c with
  | false => exact isTrue_or_nil e
  | true => exact e
theorem pw_or (ha : PT X a tA) (hb : PW X (.BoolOp .Or (b :: rest) pos) tB') : PW X (.BoolOp .Or (a :: b :: rest) pos) (tOr tA tB') := by
  intro wh pins s σ H Q I h
  refine isTrue_or (thn (ha pins s σ H _ I h) fun c s1 ⟨H1, I1, q1⟩ => ?_)
  cases c with
  | true => exact ⟨H1, I1, q1⟩
  | false => exact hb wh pins s1 σ H1 Q I1 q1
theorem pt_not (ha : PT X a tA) : PT X (.UnaryOp .Not a pos) (tNot tA) := by
  intro pins s σ H Q I h
  exact isTrue_not (ha pins s σ H (fun c H1 => Q (!c) H1) I h)
/-- .. as values (bools) -/
def tAndV (ta tb : TE) : TE := fun σ H Q => ta σ H fun x H1 => ∃ c, x = .bl c ∧ if c = true then tb σ H1 Q else Q (.bl false) H1
theorem pe_one {op} {t : TE} (h : PE X a t) : PE X (.BoolOp op [a] pos) t := fun pins s σ H Q I hw => BoolOp_one (h pins s σ H Q I hw)
theorem pe_and (ha : PE X a ta) (hb : PE X (.BoolOp .And (b :: rest) pos) tb) : PE X (.BoolOp .And (a :: b :: rest) pos) (tAndV ta tb) := by
  intro pins s σ H Q I h
  refine BoolOp_and (thn (ha pins s σ H _ I h) fun v s1 ⟨x, H1, I1, r1, q1⟩ => ?_)
  obtain ⟨c, rfl, q1⟩ := q1
  cases r1
  refine wpAny_truthy_bool ?_
  cases c with
  | true => exact hb pins s1 σ H1 Q I1 q1
  | false => exact ⟨.bl false, H1, I1, rfl, q1⟩
/-- a if t else b -/
def tIf (t : TT) (ta tb : TE) : TE := fun σ H Q => t σ H fun c H1 => if c = true then ta σ H1 Q else tb σ H1 Q
theorem pe_ifExp {c : Expr} (hc : PT X c tA) (ha : PE X a ta) (hb : PE X b tb) : PE X (.IfExp c a b pos) (tIf tA ta tb) := by
  intro pins s σ H Q I h
  refine wpAny_IfExp (thn (hc pins s σ H _ I h) fun d s1 ⟨H1, I1, q1⟩ => ?_)
  cases d with
  | true => exact ha pins s1 σ H1 Q I1 q1
  | false => exact hb pins s1 σ H1 Q I1 q1
end
end L2

namespace L2
open PySem PySem.Spec PyProof.Rows

/-! ### a list, a tuple that is read: tracked, frozen, or an object of the module -/
def SqL (K : PySem.W.Frag) (H : Hp) (a : Addr) (xs : List V) : Prop :=
  Rd H a (.lst xs) ∨
    ∃ (o : Obj) (its : Array Value) (n : Nat), K.lookup a = some o ∧ o.cls = .type "list" ∧ o.dict = none ∧ o.data = .seq its n ∧ its.size ≤ sizeLine ∧ Vals xs its.toList
def SqT (K : PySem.W.Frag) (H : Hp) (a : Addr) (xs : List V) : Prop :=
  Rd H a (.tup xs) ∨
    ∃ (o : Obj) (its : Array Value) (n : Nat), K.lookup a = some o ∧ o.cls = .type "tuple" ∧ o.data = .seq its n ∧ its.size ≤ sizeLine ∧ Vals xs its.toList
def absV : Value → Option V
  | .none => some .non
  | .bool b => some (.bl b)
  | .int i _ => some (.int i)
  | .str x _ => some (.str x)
  | .bytes b _ => some (.byt b)
  | .float b _ => some (.flt b)
  | .ref a => some (.ref a)
  | .type n => some (.ty n)
  | _ => none
theorem RelV.abs {x : V} {u : Value} (r : RelV x u) : absV u = some x := by
  cases x with
  | non => cases r; rfl
  | bl _ => cases r; rfl
  | int _ => obtain ⟨t, rfl⟩ := r; rfl
  | str _ => obtain ⟨t, rfl⟩ := r; rfl
  | byt _ => obtain ⟨t, rfl⟩ := r; rfl
  | flt _ => obtain ⟨t, rfl⟩ := r; rfl
  | ref _ => cases r; rfl
  | ty _ => cases r; rfl
theorem RelV.inj {x y : V} {u : Value} (r : RelV x u) (q : RelV y u) : x = y := Option.some.inj (r.abs.symm.trans q.abs)
theorem Vals.inj : ∀ {xs ys : List V} {us : List Value}, Vals xs us → Vals ys us → xs = ys
  | _, _, _, .nil, .nil => rfl
  | _, _, _, .cons r t, .cons r' t' => by rw [r.inj r', Vals.inj t t']
section
variable {X : Cx} {pins : List (Addr × Obj)} {σ : St} {H : Hp} {s : Shared} {a : Addr} {xs ys : List V}
theorem SqL.of {K : PySem.W.Frag} (h : H a = some (.lst xs)) : SqL K H a xs := .inl (.inl h)
theorem SqT.of {K : PySem.W.Frag} (h : H a = some (.tup xs)) : SqT K H a xs := .inl (.inl h)
theorem Inv.list (I : Inv X pins σ H s) (h : SqL X.K H a xs) : ∃ its : List Value, Vals xs its ∧ PlainL s.heap a its.toArray ∧ xs.length ≤ sizeLine := by
  rcases h with h | ⟨o, its, n, hk, hc, hd, hs, hz, r⟩
  · obtain ⟨z, its, n, r, e⟩ := h.ok I.hok
    exact ⟨its, r, ⟨_, n, e, rfl, rfl, rfl⟩, z⟩
  · refine ⟨its.toList, r, ⟨o, n, I.kIn a o hk, hc, hd, by simpa using hs⟩, ?_⟩
    have e := r.length
    simp only [Array.length_toList] at e
    omega
theorem Inv.tuple (I : Inv X pins σ H s) (h : SqT X.K H a xs) : ∃ its : List Value, Vals xs its ∧ IsTup s.heap a its.toArray ∧ xs.length ≤ sizeLine := by
  rcases h with h | ⟨o, its, n, hk, hc, hs, hz, r⟩
  · obtain ⟨z, its, r, p⟩ := h.ok I.hok
    exact ⟨its, r, p, z⟩
  · refine ⟨its.toList, r, ⟨o, I.kIn a o hk, hc, n, by simpa using hs⟩, ?_⟩
    have e := r.length
    simp only [Array.length_toList] at e
    omega
theorem Inv.list_inj (I : Inv X pins σ H s) (h : SqL X.K H a xs) (h' : SqL X.K H a ys) : xs = ys := by
  obtain ⟨its, r, ⟨o, n, e, _, _, d⟩, _⟩ := I.list h
  obtain ⟨its', r', ⟨o', n', e', _, _, d'⟩, _⟩ := I.list h'
  rw [e] at e'; cases e'
  rw [d] at d'
  injection d' with d1 _
  have : its = its' := by simpa using congrArg Array.toList d1
  subst this
  exact r.inj r'
end

/-! ### another wish about exceptions -/
abbrev Cx.wish (X : Cx) (E : Value → Shared → Prop) : Cx := { X with xe := E }
/-- no exception leaves -/
abbrev Cx.nox (X : Cx) : Cx := X.wish fun _ _ => False
theorem Cx.Ok.wish {X : Cx} (ok : X.Ok) (E : Value → Shared → Prop) : (X.wish E).Ok :=
  ⟨ok.mod, ok.kind, ok.glob, ok.blt, ok.above, ok.inj, ok.has, ok.cab, ok.hd, ok.frames, ok.stk, ok.exf, ok.bs, ok.bsz, ok.noex, ok.exfs, ok.funs, ok.frf⟩
theorem Cx.Ok.unwish {X : Cx} {E : Value → Shared → Prop} (ok : (X.wish E).Ok) : X.Ok :=
  ⟨ok.mod, ok.kind, ok.glob, ok.blt, ok.above, ok.inj, ok.has, ok.cab, ok.hd, ok.frames, ok.stk, ok.exf, ok.bs, ok.bsz, ok.noex, ok.exfs, ok.funs, ok.frf⟩
section
variable {X : Cx} {pins : List (Addr × Obj)} {σ : St} {H : Hp} {s : Shared} {E : Value → Shared → Prop}
theorem Inv.wish (I : Inv X pins σ H s) (E : Value → Shared → Prop) : Inv (X.wish E) pins σ H s := ⟨I.ok.wish E, I.os, I.bare, I.base, I.loc, I.cell, I.free, I.freeC, I.pin, I.hok, I.len⟩
theorem Inv.unwish (I : Inv (X.wish E) pins σ H s) : Inv X pins σ H s := ⟨I.ok.unwish, I.os, I.bare, I.base, I.loc, I.cell, I.free, I.freeC, I.pin, I.hok, I.len⟩
theorem SP.unwish {D : Ends} {f : Flow} {s' : Shared} (h : SP (X.wish E) pins D f s') : SP X pins D f s' := by
  cases f with
  | next => obtain ⟨σ', H', I, q⟩ := h; exact ⟨σ', H', I.unwish, q⟩
  | brk => obtain ⟨σ', H', I, q⟩ := h; exact ⟨σ', H', I.unwish, q⟩
  | cont => obtain ⟨σ', H', I, q⟩ := h; exact ⟨σ', H', I.unwish, q⟩
  | ret u => obtain ⟨v, σ', H', I, r, q⟩ := h; exact ⟨v, σ', H', I.unwish, r, q⟩
theorem PSs.nox {st : List Stmt} {t : TS} (h : PSs X.nox st t) : PSs X st t := fun pins s σ H D I hw =>
  wpAny_mono (h pins s σ H D (I.wish _) hw) (fun _ _ q => q.unwish) fun _ _ z => False.elim z
end

/-! ### blocks and small statements -/
section
variable {X : Cx} {st : Stmt} {rest : List Stmt} {t u : TS} {e : Expr} {te : TE} {pos : Pos}
def tNext : TS := fun D σ H => D.nx σ H
def tSeq (t u : TS) : TS := fun D σ H => t { D with nx := u D } σ H
theorem pss_nil : PSs X [] tNext := fun _ _ σ H _ I h => wpAny_execs_nil ⟨σ, H, I, h⟩
theorem pss_cons (h1 : PS X st t) (h2 : PSs X rest u) : PSs X (st :: rest) (tSeq t u) := by
  intro pins s σ H D I h
  refine wpAny_execs_cons (thn (h1 pins s σ H { D with nx := u D } I h) fun f s1 q => ?_)
  cases f with
  | next =>
    obtain ⟨σ', H', I', q⟩ := q
    exact h2 pins s1 σ' H' D I' q
  | ret v => exact q
  | brk => exact q
  | cont => exact q
theorem pss_one (h1 : PS X st t) : PSs X [st] t := by
  intro pins s σ H D I h
  refine wpAny_execs_cons (thn (h1 pins s σ H D I h) fun f s1 q => ?_)
  cases f with
  | next => exact wpAny_execs_nil q
  | ret v => exact q
  | brk => exact q
  | cont => exact q
/-- in a def's body nothing is shown -/
theorem Inv.quiet {pins : List (Addr × Obj)} {σ : St} {H : Hp} {s : Shared} (I : Inv X pins σ H s) : interactive X.env = false := by simp [interactive, I.ok.kind]
/-- an expression whose value is dropped -/
def tDrop (te : TE) : TS := fun D σ H => te σ H fun _ H1 => D.nx σ H1
theorem ps_expr (he : PE X e te) (hs : swapsWith e none pos.line X.env = pure false := by rfl) : PS X (.Expr e pos) (tDrop te) := by
  intro pins s σ H D I h
  exact wpAny_Expr_any (thn (he pins s σ H _ I h) fun v s1 ⟨x, H1, I1, r1, q1⟩ => ⟨σ, H1, I1, q1⟩) I.quiet hs
def tRet (te : TE) : TS := fun D σ H => te σ H D.rt
theorem ps_ret (he : PE X e te) : PS X (.Return (some e) pos) (tRet te) := by
  intro pins s σ H D I h
  exact wpAny_Return_some (thn (he pins s σ H _ I h) fun v s1 ⟨x, H1, I1, r1, q1⟩ => ⟨x, σ, H1, I1, r1, q1⟩)
def tIfS (c : TT) (t u : TS) : TS := fun D σ H => c σ H fun b H1 => if b = true then t D σ H1 else u D σ H1
theorem ps_if {c : Expr} {a b : List Stmt} {tc : TT} (hc : PT X c tc) (ha : PSs X a t) (hb : PSs X b u) : PS X (.If c a b pos) (tIfS tc t u) := by
  intro pins s σ H D I h
  refine wpAny_If (thn (hc pins s σ H _ I h) fun d s1 ⟨H1, I1, q1⟩ => ?_)
  cases d with
  | true => exact ha pins s1 σ H1 D I1 q1
  | false => exact hb pins s1 σ H1 D I1 q1
/-- code that the proof never comes to -/
def tNever : TS := fun _ _ _ => False
end

/-! ### targets -/
abbrev TG := V → St → Hp → (St → Hp → Prop) → Prop
abbrev TGs := List V → St → Hp → (St → Hp → Prop) → Prop
def PG (X : Cx) (target : Expr) (t : TG) : Prop :=
  ∀ (pins : List (Addr × Obj)) (s : Shared) (σ : St) (H : Hp) (v : V) (u : Value) (Q : St → Hp → Prop), Inv X pins σ H s → RelV v u → t v σ H Q →
    wpAny (model X.prog X.w) X.A (assign target X.env u) (fun _ s' => ∃ σ' H', Inv X pins σ' H' s' ∧ Q σ' H') X.xe s
/-- several targets, one after another -/
def PGs (X : Cx) (ts : List Expr) (t : TGs) : Prop :=
  ∀ (pins : List (Addr × Obj)) (s : Shared) (σ : St) (H : Hp) (vs : List V) (us : List Value) (Q : St → Hp → Prop), Inv X pins σ H s → Vals vs us → t vs σ H Q →
    wpAny (model X.prog X.w) X.A (assignInOrder ((assignEach ts X.env).map (·.2)) us) (fun _ s' => ∃ σ' H', Inv X pins σ' H' s' ∧ Q σ' H') X.xe s
/-- o[i] = v, by values -/
abbrev TSet := V → V → V → Hp → (Hp → Prop) → Prop
def PSet (X : Cx) (t : TSet) : Prop :=
  ∀ (pins : List (Addr × Obj)) (s : Shared) (σ : St) (H : Hp) (o i v : V) (ov iv u : Value) (Q : Hp → Prop), Inv X pins σ H s → RelV o ov → RelV i iv → RelV v u → t o i v H Q →
    wpAny (model X.prog X.w) X.A (setItem ov iv u) (fun _ s' => ∃ H', Inv X pins σ H' s' ∧ Q H') X.xe s
section
variable {X : Cx} {pos : Pos}
def gName (i : Nat) : TG := fun v σ H Q => Q (σ.set i (some v)) H
theorem pg_name {i : Nat} {x : Str} (hN : X.N.Nodup) (hi : X.N[i]? = some x) (hx : Loc X.env.scope x) (hf : X.fn x = true ∨ X.env.scope.names.lookup x = some .local := by first | exact .inl rfl | exact .inr rfl | assumption) : PG X (.Name x pos) (gName i) := by
  intro pins s σ H v u Q I r h
  exact wpAny_assign_Name (store_ok I hN hi hx r (fun s' I' => ⟨_, H, I', h⟩) hf)
def gNil : TGs := fun vs σ H Q => vs = [] ∧ Q σ H
def gCons (t : TG) (u : TGs) : TGs := fun vs σ H Q => ∃ v r, vs = v :: r ∧ t v σ H fun σ' H' => u r σ' H' Q
theorem pgs_nil : PGs X [] gNil := by
  intro pins s σ H vs us Q I r h
  obtain ⟨e, h⟩ := h
  subst e
  cases r
  exact assignInOrder_nil ⟨σ, H, I, h⟩
theorem pgs_cons {e : Expr} {es : List Expr} {t : TG} {u : TGs} (h1 : PG X e t) (h2 : PGs X es u)
    (hs : (assignEach (e :: es) X.env).map (·.2) = assign e X.env :: (assignEach es X.env).map (·.2) := by rfl) : PGs X (e :: es) (gCons t u) := by
  intro pins s σ H vs us Q I r h
  obtain ⟨v, vr, e1, h⟩ := h
  subst e1
  cases r with
  | cons r rr =>
    rw [hs]
    refine assignInOrder_cons (thn (h1 pins s σ H _ _ _ I r h) fun _ s1 ⟨σ1, H1, I1, q1⟩ => ?_)
    exact h2 pins s1 σ1 H1 _ _ Q I1 rr q1
/-- (a, b, ..) = a tuple of that length -/
def gTup (K : PySem.W.Frag) (n : Nat) (t : TGs) : TG := fun v σ H Q => ∃ a xs, v = .ref a ∧ SqT K H a xs ∧ xs.length = n ∧ t xs σ H Q
theorem pg_tup {es : List Expr} {k : Nat} {t : TGs} {n : Nat} (hc : X.calm = true) (h : PGs X es t)
    (hn : (assignEach es X.env).length = n := by rfl) (hst : (assignEach es X.env).findIdx? (·.1) = none := by rfl) : PG X (.Tuple es k pos) (gTup X.K n t) := by
  intro pins s σ H v u Q I r hw
  obtain ⟨a, xs, e1, hq, hl, hw⟩ := hw
  subst e1
  cases r
  obtain ⟨its, rv, ht, hz⟩ := I.tuple hq
  refine assign_Tuple_tuple (I.ok.hd hc) ht (by simp [hn, ← hl, rv.length]) hst fun h' hx => ?_
  have I1 : Inv X pins σ H { s with heap := h' } := I.kept (t' := s.toks) fun b o e => hx b o (Nat.ne_of_lt (Heap.lt_size e)) e
  exact h pins _ σ H xs _ Q I1 (by simpa using rv) hw
/-- o[i] = .. -/
def gSub (to ti : TE) (t : TSet) : TG := fun v σ H Q => to σ H fun o H1 => ti σ H1 fun i H2 => t o i v H2 fun H3 => Q σ H3
theorem pg_sub {o i : Expr} {to ti : TE} {t : TSet} (ho : PE X o to) (hi : PE X i ti) (hs : PSet X t)
    (ha : ∀ v, assign (.Subscript o i pos) X.env v = (do
      let ov ← holding [v] (eval o X.env)
      let iv ← holding [v, ov] (eval i X.env)
      standAt pos
      holding [v, ov, iv] (setItem ov iv v)
      release [v, ov, iv] []) := by intro _; rfl) : PG X (.Subscript o i pos) (gSub to ti t) := by
  intro pins s σ H v u Q I r h
  rw [ha]
  refine wpAny_bind (wpAny_holding (thn (ho pins s σ H _ I h) fun ov s1 ⟨x, H1, I1, r1, q1⟩ => ?_))
  refine wpAny_bind (wpAny_holding (thn (hi pins s1 σ H1 _ I1 q1) fun iv s2 ⟨y, H2, I2, r2, q2⟩ => ?_))
  refine wpAny_bind (wpAny_standAt (wpAny_bind (wpAny_holding (thn (hs pins s2 σ H2 x y v ov iv u _ I2 r1 r2 r q2) fun _ s3 ⟨H3, I3, q3⟩ => ?_))))
  exact wpAny_release ⟨σ, H3, I3, q3⟩
/-- target = value -/
def tAsg (te : TE) (g : TG) : TS := fun D σ H => te σ H fun x H1 => g x σ H1 D.nx
theorem ps_asg {tg e : Expr} {te : TE} {g : TG} (he : PE X e te) (hg : PG X tg g) (hs : swapsWithSole [tg] e pos.line X.env = pure false := by rfl) (hw : swappedStores [tg] e X.env = pure none := by rfl)
    (h1 : (assignEach [tg] X.env).map (·.2) = [assign tg X.env] := by rfl) : PS X (.Assign [tg] e pos) (tAsg te g) := by
  intro pins s σ H D I h
  refine wpAny_Assign_stores (thn (he pins s σ H _ I h) fun v s1 ⟨x, H1, I1, r1, q1⟩ => ?_) hs hw
  rw [h1]
  exact thn (hg pins s1 σ H1 x v _ I1 r1 q1) fun _ s2 q => q
/-- name = value -/
theorem ps_set {i : Nat} {x : Str} {e : Expr} {te : TE} {pos' : Pos} (hN : X.N.Nodup) (hi : X.N[i]? = some x) (hx : Loc X.env.scope x) (he : PE X e te) (hs : swapsWith e (some (.Name x pos')) pos.line X.env = pure false := by rfl) (hf : X.fn x = true ∨ X.env.scope.names.lookup x = some .local := by first | exact .inl rfl | exact .inr rfl | assumption) :
    PS X (.Assign [.Name x pos'] e pos) (tAsg te (gName i)) := by
  intro pins s σ H D I h
  refine wpAny_Assign_Name (thn (he pins s σ H _ I h) fun v s1 ⟨y, H1, I1, r1, q1⟩ => ?_) hs
  exact store_ok I1 hN hi hx r1 (fun s2 I2 => ⟨_, H1, I2, q1⟩) hf
end

/-! ### while -/
section
variable {X : Cx} {pos : Pos}
/-- the invariant W with its measure -/
def tWhile (c : TT) (tb : TS) : TS := fun D σ H => ∃ W : Nat → St → Hp → Prop, (∃ m, W m σ H) ∧ ∀ m σ H, W m σ H →
  c σ H fun b H1 => if b = true then ∃ N : St → Hp → Prop, (∀ σ' H', N σ' H' → ∃ m', m' < m ∧ W m' σ' H') ∧ tb { D with nx := N, ct := N, bk := D.nx } σ H1 else D.nx σ H1
theorem ps_while {c : Expr} {body : List Stmt} {tc : TT} {tb : TS} (hp : PassesOwn (model X.prog X.w) X.A X.env X.xe) (hc : PT X c tc) (hb : PSs X body tb) : PS X (.While c body [] pos) (tWhile tc tb) := by
  intro pins s σ H D I h
  obtain ⟨W, ⟨m0, w0⟩, turn⟩ := h
  refine wpAny_While (codeAny_whileLoop (fun n s' => ∃ σ' H', Inv X pins σ' H' s' ∧ W n σ' H') ?_ m0 ⟨σ, H, I, w0⟩)
  rintro n s1 ⟨σ1, H1, I1, w1⟩
  refine wpAny_passesOwn hp (thn (hc pins s1 σ1 H1 _ I1 (turn n σ1 H1 w1)) fun b s2 ⟨H2, I2, q2⟩ => ?_)
  cases b with
  | true =>
    obtain ⟨N, hN, q2⟩ := q2
    rw [if_pos rfl]
    refine wpAny_passesOwn hp (thn (hb pins s2 σ1 H2 _ I2 q2) fun f s3 q3 => ?_)
    cases f with
    | next =>
      obtain ⟨σ3, H3, I3, n3⟩ := q3
      obtain ⟨m', hm, w3⟩ := hN σ3 H3 n3
      exact ⟨m', hm, σ3, H3, I3, w3⟩
    | cont =>
      obtain ⟨σ3, H3, I3, n3⟩ := q3
      obtain ⟨m', hm, w3⟩ := hN σ3 H3 n3
      exact ⟨m', hm, σ3, H3, I3, w3⟩
    | brk => exact q3
    | ret v => exact q3
  | false =>
    rw [if_neg Bool.false_ne_true]
    exact wpAny_execs_nil ⟨σ1, H2, I2, q2⟩
end

/-! ### what a loop or a comprehension walks -/
/-- at turn i: it yields x (the heap may grow), or it stops -/
structure It where
  go : Nat → Hp → Prop
  yld : Nat → Hp → V → Hp → Prop
  stop : Nat → Hp → Prop
/-- the iterator's own objects may turn: they are not the frame's, not pinned, younger than the entry (or a comprehension's own) -/
def FpOk (X : Cx) (pins : List (Addr × Obj)) (H : Hp) (b : Addr) : Prop :=
  H b = none ∧ b ≠ X.env.locals ∧ b ∉ X.fs ∧ (b ∈ X.ex ∨ X.s₀.heap.objs.size ≤ b) ∧ (∀ x c, X.env.cells.lookup x = some c → c ≠ b) ∧ ∀ p ∈ X.pn ++ pins, p.1 ≠ b
theorem Inv.fpOk {X : Cx} {pins : List (Addr × Obj)} {σ : St} {H H' : Hp} {s : Shared} {b : Addr} (I : Inv X pins σ H s) (hb : s.heap.objs.size ≤ b) (hn : H' b = none) : FpOk X pins H' b := by
  refine ⟨hn, Nat.ne_of_gt (Nat.lt_of_lt_of_le I.lt hb), I.nofs hb, .inr (Nat.le_trans I.sz hb), fun x c e z => ?_, fun p hp z => ?_⟩
  · obtain ⟨v, q⟩ := I.cell x c e
    exact absurd (Nat.lt_of_lt_of_le q.lt (by rw [z]; exact hb)) (Nat.lt_irrefl _)
  · exact absurd (Nat.lt_of_lt_of_le (Heap.lt_size (I.pin p hp).1) (by rw [z]; exact hb)) (Nat.lt_irrefl _)
structure Turn (P : Program) (w : World) (K : PySem.W.Frag) (tg : Expr) (J : It) (fp : List Addr) (it : Addr) (tn : Nat → Heap → Prop) : Prop where
  mem : it ∈ fp
  obj : ∀ i h, tn i h → ∀ b ∈ fp, ∃ o, h.get? b = some o ∧ ∀ v, o.data ≠ .cell v
  keep : ∀ i h h', tn i h → (∀ b ∈ fp, ∀ o, h.get? b = some o → h'.get? b = some o) → tn i h'
  item : ∀ (X : Cx), X.prog = P → X.w = w → X.K = K → X.calm = true → ∀ (i : Nat) (pins : List (Addr × Obj)) (s : Shared) (σ : St) (H : Hp) (E : Value → Shared → Prop), Inv X pins σ H s → (∀ b ∈ fp, FpOk X pins H b) → tn i s.heap → J.go i H →
    wpAny (model P w) X.A (pyNext (.ref it)) (fun r s1 => ∃ u, r = some u ∧
      wpAny (model P w) X.A (letOwnedTupleGo tg (.ref it) u) (fun _ s2 => ∃ x H', Inv X pins σ H' s2 ∧ RelV x u ∧ J.yld i H x H' ∧ tn (i + 1) s2.heap ∧ ∀ b ∈ fp, H' b = none) E s1) E s
  done : ∀ (X : Cx), X.prog = P → X.w = w → X.K = K → X.calm = true → ∀ (i : Nat) (pins : List (Addr × Obj)) (s : Shared) (σ : St) (H : Hp) (E : Value → Shared → Prop), Inv X pins σ H s → (∀ b ∈ fp, FpOk X pins H b) → tn i s.heap → J.stop i H →
    wpAny (model P w) X.A (pyNext (.ref it)) (fun r s1 => r = none ∧ Inv X pins σ H s1) E s
  self : ∀ (A : Around) (i : Nat) (s : Shared) (Q : Value → Shared → Prop) (E : Value → Shared → Prop), tn i s.heap → Q (.ref it) s → wpAny (model P w) A (pyIter (.ref it)) Q E s
abbrev TI := St → Hp → (It → Hp → Prop) → Prop
/-- an iterator has come -/
def PIE (X : Cx) (pins : List (Addr × Obj)) (σ : St) (tg : Expr) (R : It → Hp → Prop) (itv : Value) (s2 : Shared) : Prop :=
  ∃ (it : Addr) (fp : List Addr) (tn : Nat → Heap → Prop) (J : It) (H' : Hp), itv = .ref it ∧ Inv X pins σ H' s2 ∧ Turn X.prog X.w X.K tg J fp it tn ∧ tn 0 s2.heap ∧ (∀ b ∈ fp, FpOk X pins H' b) ∧ R J H'
def PI (X : Cx) (tg iter : Expr) (wi : TI) : Prop :=
  ∀ (pins : List (Addr × Obj)) (s : Shared) (σ : St) (H : Hp) (R : It → Hp → Prop), Inv X pins σ H s → wi σ H R →
    wpAny (model X.prog X.w) X.A (eval iter X.env) (fun v s1 => wpAny (model X.prog X.w) X.A (pyIter v) (PIE X pins σ tg R) X.xe s1) X.xe s

/-- the step ahead of the store is nothing for an iterator that keeps no tuple -/
theorem go_of {M : Model} {A : Around} {E : Value → Shared → Prop} {s : Shared} {tg : Expr} {it : Addr} {u : Value} {o : Obj} {n : String} {vs : Array Value} {Q : Unit → Shared → Prop} (ho : s.heap.get? it = some o) (hc : o.cls = .type n) (hd : o.data = .fields vs)
    (hn : ["enumerate", "zip", "dict_itemiterator", "dict_reverseitemiterator", "odict_iterator", "itertools.zip_longest", "itertools.pairwise"].contains n = false) (hQ : Q () s) : wpAny M A (letOwnedTupleGo tg (.ref it) u) Q E s := by
  unfold letOwnedTupleGo
  cases tg <;> first
    | exact wpAny_pure hQ
    | (cases u <;> first
        | exact wpAny_pure hQ
        | (refine wpAny_bind (wpAny_load ho ?_)
           rw [hc, hd]
           show wpAny M A (if (["enumerate", "zip", "dict_itemiterator", "dict_reverseitemiterator", "odict_iterator", "itertools.zip_longest", "itertools.pairwise"].contains n && vs[0]? == some (rawInt _)) = true then _ else _) Q E s
           rw [if_neg (by intro h; rw [hn, Bool.false_and] at h; cases h)]
           exact wpAny_pure hQ))

/-- the list at a, as it stands at each turn (a loop may append to it) -/
def Itl (K : PySem.W.Frag) (a : Addr) : It :=
  ⟨fun i H => ∃ xs x, SqL K H a xs ∧ xs[i]? = some x, fun i H x H' => H' = H ∧ ∀ xs, SqL K H a xs → xs[i]? = some x, fun i H => ∃ xs, SqL K H a xs ∧ xs.length ≤ i⟩
/-- lo, lo + 1, .. (n of them) -/
def Itr (lo : Int) (n : Nat) : It := ⟨fun i _ => i < n, fun i H x H' => H' = H ∧ x = .int (lo + i), fun i _ => n ≤ i⟩
theorem turn_list {P : Program} {w : World} {K : PySem.W.Frag} {tg : Expr} (a it : Addr) : Turn P w K tg (Itl K a) [it] it (fun i h => h.IsListIter it a i) where
  mem := by simp
  obj := fun i h st b hb => by
    have e : b = it := by simpa using hb
    subst e
    obtain ⟨o, e, c, d⟩ := st
    exact ⟨o, e, fun v z => by rw [d] at z; cases z⟩
  keep := fun i h h' st k => st.at fun o e => k it (by simp) o e
  item := by
    intro X hP hw hK hc i pins s σ H E I hf st hg
    subst hP hw hK
    obtain ⟨xs, x, hq, hx⟩ := hg
    obtain ⟨its, rv, p, hz⟩ := I.list hq
    obtain ⟨u, hu, ru⟩ := rv.get hx
    obtain ⟨f0, f1, f2, f3, f4, f5⟩ := hf it (by simp)
    refine wpAny_pyNext_list_item st p.isList (x := u) (by simpa using hu) fun h' st' sb => ?_
    have I1 : Inv X pins σ H { s with heap := h' } := I.turned (t' := s.toks) (fun b o hb e => (sb.2 b hb).trans e) f0 f1 f3 f4 f5
    obtain ⟨o, e, c, d⟩ := id st'
    exact ⟨u, rfl, go_of (s := { s with heap := h' }) e c d (by decide) ⟨x, H, I1, ru, ⟨rfl, fun ys hy => by rw [I.list_inj hy hq]; exact hx⟩, st', fun b hb => (hf b hb).1⟩⟩
  done := by
    intro X hP hw hK hc i pins s σ H E I hf st hg
    subst hP hw hK
    obtain ⟨xs, hq, hx⟩ := hg
    obtain ⟨its, rv, p, hz⟩ := I.list hq
    obtain ⟨f0, f1, f2, f3, f4, f5⟩ := hf it (by simp)
    have hl := rv.length
    exact wpAny_pyNext_list_end (I.ok.hd hc) st p.isList (by simp; omega) fun h' eb => ⟨rfl, I.turned (t' := s.toks) (fun b o hb e => eb b o hb e) f0 f1 f3 f4 f5⟩
  self := fun _ _ _ _ _ st h => wpAny_pyIter_listiter st h
theorem turn_range {P : Program} {w : World} {K : PySem.W.Frag} {tg : Expr} (it : Addr) (lo : Int) (n : Nat) : Turn P w K tg (Itr lo n) [it] it (fun i h => IsRangeIter h it (lo + (i : Nat) * 1) ((n : Int) - (i : Nat)) 1) where
  mem := by simp
  obj := fun i h st b hb => by
    have e : b = it := by simpa using hb
    subst e
    exact ⟨_, st, fun v z => by
      have z' : Data.fields _ = Data.cell v := z
      cases z'⟩
  keep := fun i h h' st k => k it (by simp) _ st
  item := by
    intro X hP hw hK hc i pins s σ H E I hf st hg
    subst hP hw hK
    obtain ⟨f0, f1, f2, f3, f4, f5⟩ := hf it (by simp)
    have W := Walks.range (prog := X.prog) (w := X.w) (I.ok.hd hc) it lo 1 n
    refine W.item i s _ _ hg st fun v h' tk hv st' kk => ?_
    obtain ⟨t, rfl⟩ := hv
    have I1 : Inv X pins σ H { s with heap := h', toks := tk } := I.turned (fun b o hb e => kk b o (by simpa using hb) e) f0 f1 f3 f4 f5
    refine ⟨_, rfl, go_of (s := { s with heap := h', toks := tk }) (n := "range_iterator") st' rfl rfl (by decide) ⟨.int (lo + i), H, I1, ⟨t, ?_⟩, ⟨rfl, rfl⟩, st', fun b hb => (hf b hb).1⟩⟩
    rw [Int.mul_one]
  done := by
    intro X hP hw hK hc i pins s σ H E I hf st hg
    subst hP hw hK
    obtain ⟨f0, f1, f2, f3, f4, f5⟩ := hf it (by simp)
    exact wpAny_pyNext_range_end (I.ok.hd hc) st (by have : n ≤ i := hg; omega) fun h' eb => ⟨rfl, I.turned (t' := s.toks) (fun b o hb e => eb b o hb e) f0 f1 f3 f4 f5⟩
  self := fun _ _ _ _ _ st h => wpAny_pyIter_rangeiter st h
end L2

namespace L2
open PySem PySem.Spec PyProof.Rows
section
variable {X : Cx} {tg : Expr}
def iList (K : PySem.W.Frag) (tl : TE) : TI := fun σ H R => tl σ H fun x H1 => ∃ a, x = .ref a ∧ (∃ xs, SqL K H1 a xs) ∧ R (Itl K a) H1
theorem pi_list {l : Expr} {tl : TE} (hl : PE X l tl) : PI X tg l (iList X.K tl) := by
  intro pins s σ H R I h
  refine thn (hl pins s σ H _ I h) fun v s1 ⟨x, H1, I1, r1, q1⟩ => ?_
  obtain ⟨a, e, ⟨xs, hq⟩, q⟩ := q1
  subst e
  cases r1
  obtain ⟨its, rv, p, hz⟩ := I1.list hq
  refine wpAny_pyIter_list p.isList ?_
  refine ⟨s1.heap.objs.size, [s1.heap.objs.size], _, _, H1, rfl, I1.kept (t' := s1.toks) fun b o e => Heap.get?_push_of_some _ e, turn_list a _, ⟨_, Heap.get?_push_size _ rfl, rfl, rfl⟩, fun b hb => ?_, q⟩
  have e : b = s1.heap.objs.size := by simpa using hb
  subst e
  exact I1.fpOk (Nat.le_refl _) (I1.hok.fresh (Nat.le_refl _))
/-- a range object just made, walked -/
theorem range_it {pins : List (Addr × Obj)} {σ : St} {H : Hp} {s : Shared} {R : It → Hp → Prop} {E : Value → Shared → Prop} {lo hi : Int} {t u v : Tok} {tk : Nat} (I : Inv X pins σ H s) (h1 : -(2 ^ 62) ≤ lo) (h2 : lo < 2 ^ 62) (h3 : -(2 ^ 62) ≤ hi) (h4 : hi < 2 ^ 62)
    (q : R (Itr lo (hi - lo).toNat) H) : wpAny (model X.prog X.w) X.A (pyIter (.ref s.heap.objs.size)) (PIE X pins σ tg R) E { s with heap := s.heap.push { cls := .type "range", data := .fields #[.int lo t, .int hi u, .int 1 v] }, toks := tk } := by
  refine wpAny_pyIter_range (IsRange.new ..) (small_one h1 h2 h3 h4) ?_
  have I1 : Inv X pins σ H { s with heap := s.heap.push { cls := .type "range", data := .fields #[.int lo t, .int hi u, .int 1 v] }, toks := tk } := I.kept fun b o e => Heap.get?_push_of_some _ e
  refine ⟨(s.heap.push { cls := .type "range", data := .fields #[.int lo t, .int hi u, .int 1 v] }).objs.size, [(s.heap.push { cls := .type "range", data := .fields #[.int lo t, .int hi u, .int 1 v] }).objs.size], _, _, H, rfl,
    I1.kept (t' := tk) fun b o e => Heap.get?_push_of_some _ e, turn_range _ lo (hi - lo).toNat, ?_, fun b hb => ?_, q⟩
  · have e1 : lo + ((0 : Nat) : Int) * 1 = lo := by simp
    have e2 : (((hi - lo).toNat : Nat) : Int) - ((0 : Nat) : Int) = Builtin.Range.rangeSize lo hi 1 := by rw [rangeSize_one]; split <;> omega
    show IsRangeIter _ _ (lo + ((0 : Nat) : Int) * 1) ((((hi - lo).toNat : Nat) : Int) - ((0 : Nat) : Int)) 1
    rw [e1, e2]
    exact Heap.get?_push_size _ rfl
  · have e : b = (s.heap.push { cls := .type "range", data := .fields #[.int lo t, .int hi u, .int 1 v] }).objs.size := by simpa using hb
    subst e
    exact I1.fpOk (Nat.le_refl _) (I1.hok.fresh (Nat.le_refl _))
def iRng1 (ta : TA) : TI := fun σ H R => ta σ H fun vs H1 => ∃ j : Int, vs = [.int j] ∧ -(2 ^ 62) ≤ j ∧ j < 2 ^ 62 ∧ R (Itr 0 j.toNat) H1
theorem pi_range1 {a : Expr} {ta : TA} {p pos : Pos} (hg : Gl X "range") (hm : X.mg "range" = none) (ha : PA X [a] ta) (hs : starEach [a] X.env = [(false, eval a X.env)] := by rfl) : PI X tg (.Call (.Name "range" p) [a] [] pos) (iRng1 ta) := by
  intro pins s σ H R I h
  refine Call_ (ld_blt I hg hm boot_range (PyProof.Rows.callWith_type1 (thn (ha pos pins s σ H _ I h) fun us s1 ⟨vs, H1, I1, r1, q1⟩ => ?_) hs rfl))
  obtain ⟨j, e, q1, q2, q⟩ := q1
  subst e
  cases r1 with
  | cons r rr =>
    cases rr
    obtain ⟨t, rfl⟩ := r
    exact call_range_1 (range_it I1 (by omega) (by omega) q1 q2 (by simpa using q))

/-! ### for -/
/-- W: the invariant by the turn and a measure; N: what the body is to reach -/
def tFor (wi : TI) (g : TG) (tb : TS) : TS := fun D σ H => wi σ H fun J H1 => ∃ W : Nat → Nat → St → Hp → Prop, (∃ m, W 0 m σ H1) ∧ ∀ i m σ H, W i m σ H →
  (J.stop i H ∧ D.nx σ H) ∨ (J.go i H ∧ ∃ N : St → Hp → Prop, (∀ σ' H', N σ' H' → ∃ m', m' < m ∧ W (i + 1) m' σ' H') ∧ ∀ x H', J.yld i H x H' → g x σ H' fun σ2 H2 => tb { D with nx := N, ct := N, bk := D.nx } σ2 H2)
/-- the records at fp as they stand -/
def pinsAt (fp : List Addr) (h : Heap) : List (Addr × Obj) := fp.filterMap fun b => (h.get? b).map fun o => (b, o)
theorem mem_pinsAt {fp : List Addr} {h : Heap} {b : Addr} {o : Obj} (hb : b ∈ fp) (e : h.get? b = some o) : (b, o) ∈ pinsAt fp h := List.mem_filterMap.mpr ⟨b, hb, by rw [e]; rfl⟩
theorem of_pinsAt {fp : List Addr} {h : Heap} {p : Addr × Obj} (hp : p ∈ pinsAt fp h) : p.1 ∈ fp ∧ h.get? p.1 = some p.2 := by
  obtain ⟨b, hb, e⟩ := List.mem_filterMap.mp hp
  cases q : h.get? b with
  | none => rw [q] at e; cases e
  | some o =>
    rw [q] at e
    have e' : (b, o) = p := Option.some.inj e
    subst e'
    exact ⟨hb, q⟩
theorem Inv.pinned {pins : List (Addr × Obj)} {σ : St} {H : Hp} {s : Shared} {fp : List Addr} (I : Inv X pins σ H s) (hf : ∀ b ∈ fp, FpOk X pins H b) (ho : ∀ b ∈ fp, ∃ o, s.heap.get? b = some o ∧ ∀ v, o.data ≠ .cell v) : Inv X (pins ++ pinsAt fp s.heap) σ H s :=
  I.pins_of fun p hp => (List.mem_append.mp hp).elim (fun z => I.pin p (List.mem_append_right _ z)) fun z => by
    obtain ⟨hb, e⟩ := of_pinsAt z
    obtain ⟨f0, f1, f2, _⟩ := hf p.1 hb
    obtain ⟨o, e', d⟩ := ho p.1 hb
    rw [e] at e'; cases e'
    exact ⟨e, f0, f1, f2, d⟩
theorem Inv.unpinned {pins pl : List (Addr × Obj)} {σ : St} {H : Hp} {s : Shared} (I : Inv X (pins ++ pl) σ H s) : Inv X pins σ H s := I.pins_of fun p hp => I.pin p (List.mem_append_right _ (List.mem_append_left _ hp))
theorem ps_for {iter : Expr} {body : List Stmt} {wi : TI} {g : TG} {tb : TS} {pos : Pos} (hp : PassesOwn (model X.prog X.w) X.A X.env X.xe) (hc : X.calm = true) (hi : PI X tg iter wi) (hg : PG X tg g) (hb : PSs X body tb)
    (hs : ∀ x, foldedSetIterable iter X.env x = pure x := by intro _; rfl) : PS X (.For tg iter body [] pos) (tFor wi g tb) := by
  intro pins s σ H D I h
  refine wpAny_For (thn (hi pins s σ H _ I h) fun v s1 h1 => thn h1 fun itv s2 h2 => ?_) hs
  obtain ⟨it, fp, tn, J, H2, e, I2, T, st2, f2, W, ⟨m0, w0⟩, turn⟩ := h2
  subst e
  -- what stays true of the iterator's objects through the loop
  have stat : ∀ {H' : Hp}, (∀ b ∈ fp, H' b = none) → ∀ b ∈ fp, FpOk X pins H' b := fun hn b hb => ⟨hn b hb, (f2 b hb).2⟩
  refine codeAny_forLoop_any (fun n s' => ∃ i σ' H', Inv X pins σ' H' s' ∧ tn i s'.heap ∧ (∀ b ∈ fp, H' b = none) ∧ W i n σ' H') ?_ m0 ⟨0, σ, H2, I2, st2, fun b hb => (f2 b hb).1, w0⟩
  rintro n s3 ⟨i, σ3, H3, I3, st3, fr3, w3⟩
  rcases turn i n σ3 H3 w3 with ⟨stop, qn⟩ | ⟨go, N, hN, step⟩
  · refine wpAny_passesOwn hp (thn (T.done X rfl rfl rfl hc i pins s3 σ3 H3 X.xe I3 (stat fr3) st3 stop) fun r s4 ⟨hr, I4⟩ => ?_)
    subst hr
    exact wpAny_execs_nil ⟨σ3, H3, I4, qn⟩
  · refine wpAny_passesOwn hp (thn (T.item X rfl rfl rfl hc i pins s3 σ3 H3 X.xe I3 (stat fr3) st3 go) fun r s4 ⟨u, hr, h4⟩ => ?_)
    subst hr
    refine wpAny_passesOwn hp (thn h4 fun _ s5 ⟨x, H5, I5, r5, y5, st5, fr5⟩ => ?_)
    have I5' := I5.pinned (stat fr5) (T.obj _ _ st5)
    refine wpAny_passesOwn hp (thn (hg _ s5 σ3 H5 x u _ I5' r5 (step x H5 y5)) fun _ s6 ⟨σ6, H6, I6, q6⟩ => ?_)
    refine wpAny_passesOwn hp (thn (hb _ s6 σ6 H6 _ I6 q6) fun f s7 q7 => ?_)
    have again : ∀ {σ7 : St} {H7 : Hp}, Inv X (pins ++ pinsAt fp s5.heap) σ7 H7 s7 → N σ7 H7 → ∃ m, m < n ∧ ∃ i σ' H', Inv X pins σ' H' s7 ∧ tn i s7.heap ∧ (∀ b ∈ fp, H' b = none) ∧ W i m σ' H' := fun {σ7 H7} I7 n7 => by
      obtain ⟨m', hm, w7⟩ := hN σ7 H7 n7
      refine ⟨m', hm, i + 1, σ7, H7, I7.unpinned, T.keep _ _ _ st5 fun b hb o e => (I7.pin (b, o) (List.mem_append_right _ (List.mem_append_right _ (mem_pinsAt hb e)))).1, fun b hb => ?_, w7⟩
      obtain ⟨o, e, d⟩ := T.obj _ _ st5 b hb
      exact (I7.pin (b, o) (List.mem_append_right _ (List.mem_append_right _ (mem_pinsAt hb e)))).2.1
    cases f with
    | next => obtain ⟨σ7, H7, I7, n7⟩ := q7; exact again I7 n7
    | cont => obtain ⟨σ7, H7, I7, n7⟩ := q7; exact again I7 n7
    | brk => obtain ⟨σ7, H7, I7, q7⟩ := q7; exact ⟨σ7, H7, I7.unpinned, q7⟩
    | ret v => obtain ⟨x7, σ7, H7, I7, r7, q7⟩ := q7; exact ⟨x7, σ7, H7, I7.unpinned, r7, q7⟩
end

/-! ### the forms one uses -/
/-- over a list that the body leaves as it is -/
theorem for_list {K : PySem.W.Frag} {a : Addr} {xs : List V} {g : TG} {tb : TS} {D : Ends} {σ : St} {H : Hp} (Pv : Nat → St → Hp → Prop) (h0 : Pv 0 σ H) (hl : ∀ i σ H, i ≤ xs.length → Pv i σ H → SqL K H a xs)
    (hs : ∀ i x σ H, xs[i]? = some x → Pv i σ H → g x σ H fun σ2 H2 => tb { D with nx := Pv (i + 1), ct := Pv (i + 1), bk := D.nx } σ2 H2) (hd : ∀ σ H, Pv xs.length σ H → D.nx σ H) :
    ∃ W : Nat → Nat → St → Hp → Prop, (∃ m, W 0 m σ H) ∧ ∀ i m σ H, W i m σ H →
      ((Itl K a).stop i H ∧ D.nx σ H) ∨ ((Itl K a).go i H ∧ ∃ N : St → Hp → Prop, (∀ σ' H', N σ' H' → ∃ m', m' < m ∧ W (i + 1) m' σ' H') ∧ ∀ x H', (Itl K a).yld i H x H' → g x σ H' fun σ2 H2 => tb { D with nx := N, ct := N, bk := D.nx } σ2 H2) := by
  refine ⟨fun i m σ H => m = xs.length - i ∧ i ≤ xs.length ∧ Pv i σ H, ⟨xs.length, by simp, Nat.zero_le _, h0⟩, ?_⟩
  rintro i m σ H ⟨rfl, hi, p⟩
  have q := hl i σ H hi p
  by_cases hlt : i < xs.length
  · refine .inr ⟨⟨xs, xs[i], q, by simp [hlt]⟩, Pv (i + 1), fun σ' H' p' => ⟨xs.length - (i + 1), by omega, rfl, hlt, p'⟩, fun x H' y => ?_⟩
    obtain ⟨e, y⟩ := y
    subst e
    exact hs i x σ _ (y xs q) p
  · have e : i = xs.length := by omega
    subst e
    exact .inl ⟨⟨xs, q, Nat.le_refl _⟩, hd σ H p⟩
theorem for_range {lo : Int} {n : Nat} {g : TG} {tb : TS} {D : Ends} {σ : St} {H : Hp} (Pv : Nat → St → Hp → Prop) (h0 : Pv 0 σ H)
    (hs : ∀ i σ H, i < n → Pv i σ H → g (.int (lo + i)) σ H fun σ2 H2 => tb { D with nx := Pv (i + 1), ct := Pv (i + 1), bk := D.nx } σ2 H2) (hd : ∀ σ H, Pv n σ H → D.nx σ H) :
    ∃ W : Nat → Nat → St → Hp → Prop, (∃ m, W 0 m σ H) ∧ ∀ i m σ H, W i m σ H →
      ((Itr lo n).stop i H ∧ D.nx σ H) ∨ ((Itr lo n).go i H ∧ ∃ N : St → Hp → Prop, (∀ σ' H', N σ' H' → ∃ m', m' < m ∧ W (i + 1) m' σ' H') ∧ ∀ x H', (Itr lo n).yld i H x H' → g x σ H' fun σ2 H2 => tb { D with nx := N, ct := N, bk := D.nx } σ2 H2) := by
  refine ⟨fun i m σ H => m = n - i ∧ i ≤ n ∧ Pv i σ H, ⟨n, by simp, Nat.zero_le _, h0⟩, ?_⟩
  rintro i m σ H ⟨rfl, hi, p⟩
  by_cases hlt : i < n
  · refine .inr ⟨hlt, Pv (i + 1), fun σ' H' p' => ⟨n - (i + 1), by omega, rfl, hlt, p'⟩, fun x H' y => ?_⟩
    obtain ⟨e, y⟩ := y
    subst e y
    exact hs i σ _ hlt p
  · have e : i = n := by omega
    subst e
    exact .inl ⟨Nat.le_refl _, hd σ H p⟩
/-- while, by a word and a measure of the state -/
theorem while_by {c : TT} {tb : TS} {D : Ends} {σ : St} {H : Hp} (Pv : St → Hp → Prop) (μ : St → Hp → Nat) (h0 : Pv σ H)
    (hs : ∀ σ H, Pv σ H → c σ H fun b H1 => if b = true then tb { D with nx := fun σ' H' => Pv σ' H' ∧ μ σ' H' < μ σ H, ct := fun σ' H' => Pv σ' H' ∧ μ σ' H' < μ σ H, bk := D.nx } σ H1 else D.nx σ H1)
    (mono : ∀ σ H Q Q', (∀ b H1, Q b H1 → Q' b H1) → c σ H Q → c σ H Q') : tWhile c tb D σ H := by
  refine ⟨fun m σ H => m = μ σ H ∧ Pv σ H, ⟨_, rfl, h0⟩, ?_⟩
  rintro m σ H ⟨rfl, p⟩
  refine mono σ H _ _ (fun b H1 q => ?_) (hs σ H p)
  cases b with
  | true => exact ⟨_, fun σ' H' ⟨p', l⟩ => ⟨_, l, rfl, p'⟩, q⟩
  | false => exact q
end L2

namespace L2
open PySem PySem.Spec PyProof.Rows

abbrev R2 := V → V → Hp → VK → Prop
/-- a two-place operation on values: f is binaryOp op, inplaceOp op or compareOp op -/
def OpR (X : Cx) (f : Value → Value → Sem Value) (r : R2) : Prop :=
  ∀ (pins : List (Addr × Obj)) (s : Shared) (σ : St) (H : Hp) (x y : V) (v u : Value) (Q : VK), Inv X pins σ H s → RelV x v → RelV y u → r x y H Q →
    wpAny (model X.prog X.w) X.A (f v u) (EP X pins σ Q) X.xe s
/-- a one-place operation -/
def UnR (X : Cx) (f : Value → Sem Value) (r : V → Hp → VK → Prop) : Prop :=
  ∀ (pins : List (Addr × Obj)) (s : Shared) (σ : St) (H : Hp) (x : V) (v : Value) (Q : VK), Inv X pins σ H s → RelV x v → r x H Q →
    wpAny (model X.prog X.w) X.A (f v) (EP X pins σ Q) X.xe s
/-- a call of a value that is known (a builtin, a type) with values -/
def CallR (X : Cx) (f : Value) (r : List V → Hp → VK → Prop) : Prop :=
  ∀ (pins : List (Addr × Obj)) (s : Shared) (σ : St) (H : Hp) (xs : List V) (us : List Value) (Q : VK), Inv X pins σ H s → Vals xs us → r xs H Q →
    wpAny (model X.prog X.w) X.A (call f us) (EP X pins σ Q) X.xe s

def tOp (r : R2) (ta tb : TE) : TE := fun σ H Q => ta σ H fun x H1 => tb σ H1 fun y H2 => r x y H2 Q
def tUn (r : V → Hp → VK → Prop) (ta : TE) : TE := fun σ H Q => ta σ H fun x H1 => r x H1 Q
/-- ints in, under C, and a value out -/
def rI (C : Int → Int → Prop) (g : Int → Int → V) : R2 := fun x y H Q => ∃ i j, x = .int i ∧ y = .int j ∧ C i j ∧ Q (g i j) H
def rI0 (g : Int → Int → V) : R2 := fun x y H Q => ∃ i j, x = .int i ∧ y = .int j ∧ Q (g i j) H
def rU (g : Int → V) : V → Hp → VK → Prop := fun x H Q => ∃ i, x = .int i ∧ Q (g i) H

section
variable {X : Cx} {a b c : Expr} {ta tb tc : TE} {pos : Pos}

theorem binT (ha : PE X a ta) (hb : PE X b tb) {pins : List (Addr × Obj)} {s : Shared} {σ : St} {H : Hp} {R : V → V → Hp → Prop} (I : Inv X pins σ H s)
    (h : ta σ H fun x H1 => tb σ H1 fun y H2 => R x y H2) {Q : Value → Shared → Prop} {f : Value → Value → Sem Value}
    (hf : ∀ v u s2 x y H2, Inv X pins σ H2 s2 → RelV x v → RelV y u → R x y H2 → wpAny (model X.prog X.w) X.A (f v u) Q X.xe s2) :
    wpAny (model X.prog X.w) X.A (eval a X.env) (fun v s₁ => wpAny (model X.prog X.w) X.A (eval b X.env) (fun u s₂ => wpAny (model X.prog X.w) X.A (f v u) Q X.xe s₂) X.xe s₁) X.xe s := by
  refine thn (ha pins s σ H _ I h) fun v s1 ⟨x, H1, I1, r1, q1⟩ => ?_
  refine thn (hb pins s1 σ H1 _ I1 q1) fun u s2 ⟨y, H2, I2, r2, q2⟩ => ?_
  exact hf v u s2 x y H2 I2 r1 r2 q2

theorem pe_op {op : Operator} {r : R2} (ho : OpR X (binaryOp op) r) (ha : PE X a ta) (hb : PE X b tb) : PE X (.BinOp a op b pos) (tOp r ta tb) := by
  intro pins s σ H Q I h
  exact wpAny_BinOp (binT ha hb I h fun v u s2 x y H2 I2 rx ry q => ho pins s2 σ H2 x y v u Q I2 rx ry q)
theorem pe_un {op : UnaryOp} {r : V → Hp → VK → Prop} (ho : UnR X (unaryOp op) r) (ha : PE X a ta) : PE X (.UnaryOp op a pos) (tUn r ta) := by
  intro pins s σ H Q I h
  exact UnaryOp_ (thn (ha pins s σ H _ I h) fun v s1 ⟨x, H1, I1, r1, q1⟩ => ho pins s1 σ H1 x v Q I1 r1 q1)

/-! ### ints -/
theorem opI {f : Value → Value → Sem Value} {C : Int → Int → Prop} {g : Int → Int → Int}
    (rule : ∀ (i j : Int) (t u : Tok) (s : Shared) (Q : Value → Shared → Prop) (E : Value → Shared → Prop), C i j → Q (.int (g i j) s.toks) { s with toks := s.toks + 1 } → wpAny (model X.prog X.w) X.A (f (.int i t) (.int j u)) Q E s) :
    OpR X f (rI C fun i j => .int (g i j)) := by
  intro pins s σ H x y v u Q I rx ry h
  obtain ⟨i, j, rfl, rfl, hc, q⟩ := h
  obtain ⟨t, rfl⟩ := rx
  obtain ⟨t', rfl⟩ := ry
  exact rule i j t t' s _ _ hc ⟨.int (g i j), H, I.tok _, ⟨_, rfl⟩, q⟩
theorem opI0 {f : Value → Value → Sem Value} {g : Int → Int → Int}
    (rule : ∀ (i j : Int) (t u : Tok) (s : Shared) (Q : Value → Shared → Prop) (E : Value → Shared → Prop), Q (.int (g i j) s.toks) { s with toks := s.toks + 1 } → wpAny (model X.prog X.w) X.A (f (.int i t) (.int j u)) Q E s) :
    OpR X f (rI0 fun i j => .int (g i j)) := by
  intro pins s σ H x y v u Q I rx ry h
  obtain ⟨i, j, rfl, rfl, q⟩ := h
  obtain ⟨t, rfl⟩ := rx
  obtain ⟨t', rfl⟩ := ry
  exact rule i j t t' s _ _ ⟨.int (g i j), H, I.tok _, ⟨_, rfl⟩, q⟩
theorem opB0 {f : Value → Value → Sem Value} {g : Int → Int → Bool}
    (rule : ∀ (i j : Int) (t u : Tok) (s : Shared) (Q : Value → Shared → Prop) (E : Value → Shared → Prop), Q (.bool (g i j)) s → wpAny (model X.prog X.w) X.A (f (.int i t) (.int j u)) Q E s) :
    OpR X f (rI0 fun i j => .bl (g i j)) := by
  intro pins s σ H x y v u Q I rx ry h
  obtain ⟨i, j, rfl, rfl, q⟩ := h
  obtain ⟨t, rfl⟩ := rx
  obtain ⟨t', rfl⟩ := ry
  exact rule i j t t' s _ _ ⟨.bl (g i j), H, I, rfl, q⟩

def CDiv (i j : Int) : Prop := 0 < j ∧ j < 1073741824
def CPow (i j : Int) : Prop := 0 ≤ j ∧ j ≤ 1000000 ∧ i.natAbs < 2 ^ 64
def CMul (i j : Int) : Prop := (-(2 ^ 64) < i ∧ i < 2 ^ 64) ∨ (-(2 ^ 64) < j ∧ j < 2 ^ 64)
theorem CMul.ok {i j : Int} (h : CMul i j) : IntMulOk i j := by
  rcases h with ⟨h1, h2⟩ | ⟨h1, h2⟩
  · exact .of_left (intBits_le_64 h1 h2)
  · exact .of_right (intBits_le_64 h1 h2)
theorem two_pow_nn (k : Nat) : (0 : Int) ≤ 2 ^ k := by
  rw [two_pow_cast]
  exact Int.natCast_nonneg _

theorem op_add : OpR X (binaryOp .Add) (rI0 fun i j => .int (i + j)) := opI0 fun _ _ _ _ _ _ _ q => add_int q
theorem op_sub : OpR X (binaryOp .Sub) (rI0 fun i j => .int (i - j)) := opI0 fun _ _ _ _ _ _ _ q => sub_int q
theorem op_mul : OpR X (binaryOp .Mult) (rI CMul fun i j => .int (i * j)) := opI fun _ _ _ _ _ _ _ hc q => mul_int q hc.ok
/-- // by a positive divisor -/
theorem op_fdiv : OpR X (binaryOp .FloorDiv) (rI CDiv fun i j => .int (i / j)) := opI fun i j _ _ _ _ _ hc q => by
  have h1 : (0 : Int) < j := hc.1
  have h2 : j < 1073741824 := hc.2
  exact floordiv_int (by omega) (by rw [Int.fdiv_eq_ediv_of_nonneg i (by omega)]; exact q) (.inl (PyProof.noPylong_small (by omega)))
/-- % by a positive divisor of any size -/
theorem op_mod : OpR X (binaryOp .Mod) (rI (fun _ j => 0 < j) fun i j => .int (i % j)) := opI fun i j _ _ _ _ _ hc q => by
  have h1 : (0 : Int) < j := hc
  exact mod_int' (by omega) (by rw [Int.fmod_eq_emod_of_nonneg i (by omega)]; exact q)
theorem op_pow : OpR X (binaryOp .Pow) (rI CPow fun i j => .int (i ^ j.toNat)) := opI fun _ _ _ _ _ _ _ hc q => pow_int_small hc.1 hc.2.1 hc.2.2 q
theorem op_shl : OpR X (binaryOp .LShift) (rI CPow fun i j => .int (i * 2 ^ j.toNat)) := opI fun _ _ _ _ _ _ _ hc q => lshift_int_small hc.1 hc.2.1 hc.2.2 q
theorem op_shr : OpR X (binaryOp .RShift) (rI (fun _ j => 0 ≤ j) fun i j => .int (i / 2 ^ j.toNat)) := opI fun i j _ _ _ _ _ hc q =>
  rshift_int hc (by rw [Int.fdiv_eq_ediv_of_nonneg i (two_pow_nn _)]; exact q)
theorem op_xor : OpR X (binaryOp .BitXor) (rI0 fun i j => .int (Builtin.bitXor i j)) := opI0 fun _ _ _ _ _ _ _ q => xor_int q


theorem unI {f : Value → Sem Value} {g : Int → Int}
    (rule : ∀ (i : Int) (t : Tok) (s : Shared) (Q : Value → Shared → Prop) (E : Value → Shared → Prop), Q (.int (g i) s.toks) { s with toks := s.toks + 1 } → wpAny (model X.prog X.w) X.A (f (.int i t)) Q E s) :
    UnR X f (rU fun i => .int (g i)) := by
  intro pins s σ H x v Q I rx h
  obtain ⟨i, rfl, q⟩ := h
  obtain ⟨t, rfl⟩ := rx
  exact rule i t s _ _ ⟨.int (g i), H, I.tok _, ⟨_, rfl⟩, q⟩
theorem un_neg : UnR X (unaryOp .USub) (rU fun i => .int (-i)) := unI fun _ _ _ _ _ q => neg_int q

/-! ### bools among ints: n += (a < b) -/
end

/-! ### comparisons -/
/-- the scalars that == tells apart as data does -/
def scal : V → V → Bool
  | .non, .non => true | .non, .int _ => true | .int _, .non => true | .non, .bl _ => true | .bl _, .non => true | .non, .str _ => true | .str _, .non => true
  | .int _, .int _ => true | .bl _, .bl _ => true | .str _, .str _ => true | .byt _, .byt _ => true
  | .int _, .str _ => true | .str _, .int _ => true | .bl _, .str _ => true | .str _, .bl _ => true
  | _, _ => false
def rEq : R2 := fun x y H Q => scal x y = true ∧ Q (.bl (decide (x = y))) H
def rNe : R2 := fun x y H Q => scal x y = true ∧ Q (.bl (!decide (x = y))) H

theorem dec_int {i j : Int} : decide (V.int i = V.int j) = (i == j) := by
  rw [Bool.eq_iff_iff]
  simp
theorem dec_bl {i j : Bool} : decide (V.bl i = V.bl j) = (i == j) := by
  rw [Bool.eq_iff_iff]
  simp
theorem dec_str {i j : Str} : decide (V.str i = V.str j) = (i == j) := by
  rw [Bool.eq_iff_iff]
  simp
theorem dec_byt {i j : Array UInt8} : decide (V.byt i = V.byt j) = (i.toList == j.toList) := by
  rw [Bool.eq_iff_iff]
  cases i
  cases j
  simp

section
variable {X : Cx} {a b c : Expr} {ta tb tc : TE} {pos : Pos}
theorem fin_bl {pins : List (Addr × Obj)} {σ : St} {H : Hp} {s : Shared} {Q : VK} {k k' : Bool} (I : Inv X pins σ H s) (q : Q (.bl k) H) (e : k = k') : EP X pins σ Q (.bool k') s := by
  subst e
  exact ⟨.bl k, H, I, rfl, q⟩
theorem op_eq : OpR X (compareOp .Eq) rEq := by
  intro pins s σ H x y v u Q I rx ry h
  obtain ⟨hs, q⟩ := h
  cases x with
  | non =>
    cases rx
    cases y with
    | non => cases ry; exact PySem.EqNone.eq_none_none (fin_bl I q (by simp))
    | bl j => cases ry; exact PySem.EqNone.eq_none_bool (fin_bl I q (by simp))
    | int j => obtain ⟨t', rfl⟩ := ry; exact PySem.EqNone.eq_none_int (fin_bl I q (by simp))
    | str j => obtain ⟨t', rfl⟩ := ry; exact PySem.EqNone.eq_none_str (fin_bl I q (by simp))
    | _ => exact absurd (show false = true from hs) Bool.false_ne_true
  | bl i =>
    cases rx
    cases y with
    | non => cases ry; exact PySem.EqNone.eq_bool_none (fin_bl I q (by simp))
    | bl j => cases ry; exact eq_bool (fin_bl I q dec_bl)
    | str j => obtain ⟨t', rfl⟩ := ry; exact PySem.EqMixed.eq_bool_str (fin_bl I q (by simp))
    | _ => exact absurd (show false = true from hs) Bool.false_ne_true
  | int i =>
    obtain ⟨t, rfl⟩ := rx
    cases y with
    | non => cases ry; exact PySem.EqNone.eq_int_none (fin_bl I q (by simp))
    | int j => obtain ⟨t', rfl⟩ := ry; exact eq_int (fin_bl I q dec_int)
    | str j => obtain ⟨t', rfl⟩ := ry; exact PySem.EqMixed.eq_int_str (fin_bl I q (by simp))
    | _ => exact absurd (show false = true from hs) Bool.false_ne_true
  | str i =>
    obtain ⟨t, rfl⟩ := rx
    cases y with
    | non => cases ry; exact PySem.EqNone.eq_str_none (fin_bl I q (by simp))
    | bl j => cases ry; exact PySem.EqMixed.eq_str_bool (fin_bl I q (by simp))
    | int j => obtain ⟨t', rfl⟩ := ry; exact PySem.EqMixed.eq_str_int (fin_bl I q (by simp))
    | str j => obtain ⟨t', rfl⟩ := ry; exact eq_str (fin_bl I q dec_str)
    | _ => exact absurd (show false = true from hs) Bool.false_ne_true
  | byt i =>
    obtain ⟨t, rfl⟩ := rx
    cases y with
    | byt j => obtain ⟨t', rfl⟩ := ry; exact PySem.W.eq_bytes (fin_bl I q dec_byt)
    | _ => exact absurd (show false = true from hs) Bool.false_ne_true
  | _ => cases y <;> exact absurd (show false = true from hs) Bool.false_ne_true
theorem op_ne : OpR X (compareOp .NotEq) rNe := by
  intro pins s σ H x y v u Q I rx ry h
  obtain ⟨hs, q⟩ := h
  cases x with
  | non =>
    cases rx
    cases y with
    | non => cases ry; exact PySem.EqNone.ne_none_none (fin_bl I q (by simp))
    | bl j => cases ry; exact PySem.EqNone.ne_none_bool (fin_bl I q (by simp))
    | int j => obtain ⟨t', rfl⟩ := ry; exact PySem.EqNone.ne_none_int (fin_bl I q (by simp))
    | str j => obtain ⟨t', rfl⟩ := ry; exact PySem.EqNone.ne_none_str (fin_bl I q (by simp))
    | _ => exact absurd (show false = true from hs) Bool.false_ne_true
  | bl i =>
    cases rx
    cases y with
    | non => cases ry; exact PySem.EqNone.ne_bool_none (fin_bl I q (by simp))
    | bl j => cases ry; exact ne_bool (fin_bl I q (congrArg not dec_bl))
    | str j => obtain ⟨t', rfl⟩ := ry; exact PySem.EqMixed.ne_bool_str (fin_bl I q (by simp))
    | _ => exact absurd (show false = true from hs) Bool.false_ne_true
  | int i =>
    obtain ⟨t, rfl⟩ := rx
    cases y with
    | non => cases ry; exact PySem.EqNone.ne_int_none (fin_bl I q (by simp))
    | int j => obtain ⟨t', rfl⟩ := ry; exact ne_int (fin_bl I q (congrArg not dec_int))
    | str j => obtain ⟨t', rfl⟩ := ry; exact PySem.EqMixed.ne_int_str (fin_bl I q (by simp))
    | _ => exact absurd (show false = true from hs) Bool.false_ne_true
  | str i =>
    obtain ⟨t, rfl⟩ := rx
    cases y with
    | non => cases ry; exact PySem.EqNone.ne_str_none (fin_bl I q (by simp))
    | bl j => cases ry; exact PySem.EqMixed.ne_str_bool (fin_bl I q (by simp))
    | int j => obtain ⟨t', rfl⟩ := ry; exact PySem.EqMixed.ne_str_int (fin_bl I q (by simp))
    | str j => obtain ⟨t', rfl⟩ := ry; exact ne_str (fin_bl I q (congrArg not dec_str))
    | _ => exact absurd (show false = true from hs) Bool.false_ne_true
  | byt i =>
    obtain ⟨t, rfl⟩ := rx
    cases y with
    | byt j => obtain ⟨t', rfl⟩ := ry; exact PySem.W.ne_bytes (fin_bl I q (congrArg not dec_byt))
    | _ => exact absurd (show false = true from hs) Bool.false_ne_true
  | _ => cases y <;> exact absurd (show false = true from hs) Bool.false_ne_true

theorem op_lt : OpR X (compareOp .Lt) (rI0 fun i j => .bl (decide (i < j))) := opB0 fun _ _ _ _ _ _ _ q => lt_int q
theorem op_gt : OpR X (compareOp .Gt) (rI0 fun i j => .bl (decide (j < i))) := opB0 fun _ _ _ _ _ _ _ q => gt_int q

/-- is None, is not None: the right side a value none -/
theorem op_isN : OpR X (compareOp .Is) (fun x y H Q => y = .non ∧ Q (.bl (decide (x = .non))) H) := by
  intro pins s σ H x y v u Q I rx ry h
  obtain ⟨rfl, q⟩ := h
  cases ry
  refine is_none_gen (fin_bl I q ?_)
  cases x <;> first
    | (cases rx; rfl)
    | (obtain ⟨t, rfl⟩ := rx; rfl)



theorem nomark (b : Expr) {op : CmpOp} (h : op ≠ .In := by decide) (h2 : op ≠ .NotIn := by decide) : behindInMarks op b = false := by
  have e1 : (op == CmpOp.In) = false := by cases op <;> first | rfl | exact absurd rfl h
  have e2 : (op == CmpOp.NotIn) = false := by cases op <;> first | rfl | exact absurd rfl h2
  cases b <;> simp [behindInMarks, e1, e2]
/-- a reading of a value as a test -/
def tTest (t : TE) : TT := fun σ H Q => t σ H fun x H' => ∃ k, x = .bl k ∧ Q k H'
theorem pt_cmpR {op : CmpOp} {r : R2} (ho : OpR X (compareOp op) r) (ha : PE X a ta) (hb : PE X b tb) (hm : behindInMarks op b = false) : PT X (.Compare a [op] [b] pos) (tTest (tOp r ta tb)) := by
  intro pins s σ H Q I h
  refine wpAny_isTrue_Compare1 (thn (ha pins s σ H _ I h) fun v s1 ⟨x, H1, I1, r1, q1⟩ => thn (hb pins s1 σ H1 _ I1 q1) fun u s2 ⟨y, H2, I2, r2, q2⟩ =>
    thn (ho pins s2 σ H2 x y v u _ I2 r1 r2 q2) fun c s3 ⟨z, H3, I3, r3, k, e, q3⟩ => ?_) hm
  subst e
  cases r3
  exact wpAny_truthy_bool ⟨H3, I3, q3⟩

/-! ### truth -/
theorem line63 : (sizeLine : Nat) < 2 ^ 63 := by rw [sizeLine_eq]; decide

/-! ### strs and bytes -/


/-! ### scalar builtins, by CallR -/
theorem vals1 {x : V} {us : List Value} (r : Vals [x] us) : ∃ u, us = [u] ∧ RelV x u := by
  cases r with
  | cons r1 r2 => cases r2; exact ⟨_, rfl, r1⟩
theorem vals2 {x y : V} {us : List Value} (r : Vals [x, y] us) : ∃ u w', us = [u, w'] ∧ RelV x u ∧ RelV y w' := by
  cases r with
  | cons r1 r2 =>
    cases r2 with
    | cons r3 r4 => cases r4; exact ⟨_, _, rfl, r1, r3⟩
theorem call_max2 (hc : X.calm = true) : CallR X (.builtin "max") (fun xs H Q => ∃ i j, xs = [.int i, .int j] ∧ Q (.int (if j > i then j else i)) H) := by
  intro pins s σ H xs us Q I r h
  obtain ⟨i, j, rfl, q⟩ := h
  obtain ⟨u, w', rfl, ⟨t, rfl⟩, ⟨t', rfl⟩⟩ := vals2 r
  refine max_two_ints (I.ok.hd hc) fun h' tk k => ⟨_, H, I.kept k, ?_, q⟩
  by_cases hj : j > i
  · rw [if_pos hj, if_pos hj]; exact ⟨_, rfl⟩
  · rw [if_neg hj, if_neg hj]; exact ⟨_, rfl⟩
end
end L2

namespace L2
open PySem PySem.Spec PyProof.Rows

/-! ### an instance, its attributes a map -/
structure ObjM (h : Heap) (x dx C : Addr) (mA : Str → Option Value) : Prop where
  obj : h.get? x = some (PySem.W.instObj C dx)
  ns : h.Ns1 dx mA
  ne : dx ≠ x

theorem lookIn_ns {h : Heap} {dx : Addr} {mA : Str → Option Value} (n : h.Ns1 dx mA) : ∃ od, h.get? dx = some od ∧ ∀ name, PySem.W.lookIn name od = some (mA name) := by
  obtain ⟨o, es, ep, ho, hd, hk, _, hm⟩ := n
  refine ⟨o, ho, fun name => ?_⟩
  have e := hm name
  unfold nsFind findBy at e
  rw [← Array.find?_toList] at e
  unfold PySem.W.lookIn
  rw [hd]
  dsimp only
  split
  · rename_i y q
    rw [q] at e
    exact congrArg some e
  · rename_i q
    rw [q] at e
    have a : es.toList.any (·.refKey) = false := by
      rw [List.any_eq_false]
      intro y hy
      obtain ⟨z, t, hkey⟩ := hk y (Array.mem_toList_iff.mp hy)
      simp [DictEntry.refKey, hkey]
    have a' : ¬ es.toList.any (·.refKey) = true := by rw [a]; exact Bool.false_ne_true
    rw [if_neg a']
    exact congrArg some e

theorem ObjM.look {h : Heap} {x dx C : Addr} {mA : Str → Option Value} (I : ObjM h x dx C mA) : ∃ od, PySem.W.InstAt h x (PySem.W.instObj C dx) C (some od) ∧ ∀ name, PySem.W.lookIn name od = some (mA name) :=
  let ⟨od, ho, hl⟩ := lookIn_ns I.ns
  ⟨od, ⟨I.obj, rfl, rfl, ho⟩, hl⟩

section
variable {prog : Program} {w : World} {A : Around} {E : Value → Shared → Prop} {s : Shared} {K : PySem.W.Frag} {x dx C f : Addr} {mA : Str → Option Value} {name : Str} {v : Value}





end

/-! ### the attributes as a list of pairs -/


section
variable {P : Program} {w : World} {H H' : Hp} {h h' : Heap} {a C dx : Addr} {fs fs' : List (Str × V)}
theorem ins_get (hok : HOk P w H h) (e : H a = some (.ins C dx fs)) : ∃ mA, ObjM h a dx C mA ∧ (∀ f, RelO (fs.lookup f) (mA f)) ∧ PySem.Within mA (fs.map (·.1)) ∧ fs.length ≤ 1000 ∧ H dx = some (.own a) := by
  obtain ⟨d, z, ne, ob, mA, n, r, q⟩ := (show ObjOk P w H h a (.ins C dx fs) from hok a _ e)
  exact ⟨mA, ⟨ob, n, ne⟩, r, q, z, d⟩
end

/-! ### what of the text a class must have -/
structure Cls (K : PySem.W.Frag) (C : Addr) : Prop where
  pg : PySem.W.plainGet K C Str.empty = true
  hd : PySem.W.hasDictIn K C = true
  po : PySem.W.plainOver K C = true
  sa : PySem.W.findIn K (.ref C) "__setattr__" = some (some (.builtin "object.__setattr__"))
theorem Cls.get {K : PySem.W.Frag} {C : Addr} (c : Cls K C) (f : Str) : PySem.W.plainGet K C f = true := c.pg

section
variable {X : Cx} {pins : List (Addr × Obj)} {σ : St} {H : Hp} {s : Shared} {a C dx : Addr} {fs : List (Str × V)} {f : Str} {v : V} {A : Around} {E : Value → Shared → Prop}






end

/-! ### readings and rules -/

section
variable {X : Cx} {o e value : Expr} {f : Str} {pos pos' tpos : Pos} {ta tv : TE}

end

/-! ### isinstance -/
section
variable {X : Cx} {pins : List (Addr × Obj)} {σ : St} {H : Hp} {s : Shared} {A : Around} {E : Value → Shared → Prop} {Q : Value → Shared → Prop} {c : Value} {b : Bool}
/-- the type of a value, as the fragment's deciders take it; for an instance its class -/
inductive TyOf (K : PySem.W.Frag) (H : Hp) : V → Value → Prop where
  | non : TyOf K H .non (.type "NoneType")
  | bl (x : Bool) : TyOf K H (.bl x) (.type "bool")
  | int (i : Int) : TyOf K H (.int i) (.type "int")
  | str (x : Str) : TyOf K H (.str x) (.type "str")
  | flt (x : UInt64) : TyOf K H (.flt x) (.type "float")
  | lst {a : Addr} {xs : List V} (e : H a = some (.lst xs)) : TyOf K H (.ref a) (.type "list")
  | frz {a : Addr} {o : Obj} {xs : List V} (e : H a = some (.frz o (.lst xs))) : TyOf K H (.ref a) (.type "list")
  | tup {a : Addr} {xs : List V} (e : H a = some (.tup xs)) : TyOf K H (.ref a) (.type "tuple")
  | dK {a : Addr} {kvs : List (Key × V)} (e : H a = some (.dK kvs)) : TyOf K H (.ref a) (.type "dict")
  | dT {a : Addr} {kvs : List (List Key × V)} (e : H a = some (.dT kvs)) : TyOf K H (.ref a) (.type "dict")
  | ins {a C dx : Addr} {fs : List (Str × V)} (e : H a = some (.ins C dx fs)) (cl : Cls K C) (ha : PySem.W.findIn K (.ref C) "__class__" = some (some (.builtin "object.__class__")))
      (hn : PySem.W.specialIn K (.builtin "object.__class__") "__get__" = some (some (.builtin "getset_descriptor.__get__"))) (htk : PySem.W.takesIn K (.builtin "object.__class__") = some true)
      (hm : PySem.W.mroIn K C (.type "object") = some true) : TyOf K H (.ref a) (.ref C)
/-- isinstance(x, c) for one class c, a built-in or an own one: kitOne's answer -/
theorem isinst_ok {x : V} {u t : Value} (I : Inv X pins σ H s) (rx : RelV x u) (ty : TyOf X.K H x t) (e : PySem.W.kitOne X.K t c = some b) (h : ∀ tk, Q (.bool b) { s with toks := tk }) :
    wpAny (model X.prog X.w) A (call (.builtin "isinstance") [u, c]) Q E s := by
  cases ty with
  | non => cases (show u = Value.none from rx); exact PySem.W.kia_one PySem.W.kitx_none I.kIn True.intro e (fun z => nomatch z) h
  | bl y => cases (show u = Value.bool y from rx); exact PySem.W.kia_one PySem.W.kitx_bool I.kIn True.intro e (fun z => nomatch z) h
  | int i => obtain ⟨t, q⟩ := (show ∃ t, u = Value.int i t from rx); cases q; exact PySem.W.kia_one PySem.W.kitx_int I.kIn True.intro e (fun z => nomatch z) h
  | str y => obtain ⟨t, q⟩ := (show ∃ t, u = Value.str y t from rx); cases q; exact PySem.W.kia_one PySem.W.kitx_str I.kIn True.intro e (fun z => nomatch z) h
  | flt y => obtain ⟨t, q⟩ := (show ∃ t, u = Value.float y t from rx); cases q; exact PySem.W.kia_one PySem.W.kitx_float I.kIn True.intro e (fun z => nomatch z) h
  | @lst a xs ea =>
    cases (show u = Value.ref a from rx)
    obtain ⟨_, _, n, _, h1⟩ := (show ObjOk X.prog X.w H s.heap a (.lst xs) from I.hok a _ ea)
    exact PySem.W.kia_one PySem.W.kitx_list I.kIn ⟨_, h1, rfl⟩ e (fun z => nomatch z) h
  | @frz a ob xs ea =>
    cases (show u = Value.ref a from rx)
    obtain ⟨_, _, _, n, _, h1⟩ := (show ObjOk X.prog X.w H s.heap a (.frz ob (.lst xs)) from I.hok a _ ea)
    exact PySem.W.kia_one PySem.W.kitx_list I.kIn ⟨_, h1, rfl⟩ e (fun z => nomatch z) h
  | @tup a xs ea =>
    cases (show u = Value.ref a from rx)
    obtain ⟨_, _, _, p⟩ := (show ObjOk X.prog X.w H s.heap a (.tup xs) from I.hok a _ ea)
    obtain ⟨o, h1, h2, _⟩ := p
    exact PySem.W.kia_one PySem.W.kitx_tuple I.kIn ⟨o, h1, h2⟩ e (fun z => nomatch z) h
  | @dK a kvs ea =>
    cases (show u = Value.ref a from rx)
    obtain ⟨_, _, vs, _, p⟩ := (show ObjOk X.prog X.w H s.heap a (.dK kvs) from I.hok a _ ea)
    obtain ⟨o, es, ep, h1, h2, _⟩ := p
    exact PySem.W.kia_one PySem.W.kitx_dict I.kIn ⟨o, h1, h2.1⟩ e (fun z => nomatch z) h
  | @dT a kvs ea =>
    cases (show u = Value.ref a from rx)
    obtain ⟨_, _, xs, _, o, es, ep, h1, h2, _⟩ := (show ObjOk X.prog X.w H s.heap a (.dT kvs) from I.hok a _ ea)
    exact PySem.W.kia_one PySem.W.kitx_dict I.kIn ⟨o, h1, h2.1⟩ e (fun z => nomatch z) h
  | @ins a C dx fs ea cl ha hn htk hm =>
    cases (show u = Value.ref a from rx)
    obtain ⟨mA, O, _⟩ := ins_get I.hok ea
    obtain ⟨od, J, _⟩ := O.look
    exact PySem.W.kia_one (PySem.W.kitx_own (cl.get _) cl.hd ha hn htk hm) I.kIn J e (fun z => nomatch z) h
end
end L2

namespace L2
open PySem PySem.Spec PyProof.Rows

/-! ### room -/
structure Room (k : Nat) (A : Around) : Prop where
  hd : A.handled = none
  dp : A.depth + 3 * k + 5 < recursionLimit
  un : A.units + 16 * k + 200 < cLine
theorem Room.mono {j k : Nat} {A : Around} (r : Room k A) (h : j ≤ k) : Room j A := ⟨r.hd, by have := r.dp; omega, by have := r.un; omega⟩
theorem Room.deeper {k : Nat} {A : Around} (r : Room (k + 1) A) (env : Env) : Room k (A.deeper env) :=
  ⟨r.hd, by have := r.dp; show A.depth + 1 + 3 * k + 5 < _; omega, by have := r.un; show A.units + 3 + 16 * k + 200 < _; omega⟩
theorem Room.depth {k : Nat} {A : Around} (r : Room k A) : A.depth < recursionLimit := by have := r.dp; omega

/-! ### argument lists and displays -/
def tNil : TA := fun _ H Q => Q [] H
def tCons (ta : TE) (tr : TA) : TA := fun σ H Q => ta σ H fun x H1 => tr σ H1 fun xs H2 => Q (x :: xs) H2
section
variable {X : Cx} {e : Expr} {es : List Expr} {te : TE} {t : TA} {pos : Pos}
theorem pa_nil : PA X [] tNil := fun _ _ _ _ H Q I h => Calls.spliced_nil ⟨[], H, I, .nil, h⟩
theorem pa_cons (ha : PE X e te) (hr : PA X es t) (hs : starEach (e :: es) X.env = (false, eval e X.env) :: starEach es X.env := by rfl) : PA X (e :: es) (tCons te t) := by
  intro pos pins s σ H Q I h
  rw [hs]
  show wpAny _ _ (spliced ((false, eval e X.env) :: backTo pos (starEach es X.env))) _ _ s
  refine Calls.spliced_cons (thn (ha pins s σ H _ I h) fun u s1 ⟨x, H1, I1, r1, q1⟩ => ?_)
  exact thn (hr pos pins s1 σ H1 _ I1 q1) fun us s2 ⟨xs, H2, I2, r2, q2⟩ => ⟨x :: xs, H2, I2, .cons r1 r2, q2⟩

/-- a tuple, a list of written items -/
def tTup (t : TA) : TE := fun σ H Q => t σ H fun xs H1 => xs.length ≤ sizeLine ∧ ∀ p, H1 p = none → Q (.ref p) (upd H1 p (.tup xs))
def tLst (t : TA) : TE := fun σ H Q => t σ H fun xs H1 => xs.length ≤ sizeLine ∧ ∀ p, H1 p = none → Q (.ref p) (upd H1 p (.lst xs))
theorem pe_tup {x1} (h : PA X es t) : PE X (.Tuple es x1 pos) (tTup t) := by
  intro pins s σ H Q I hq
  refine wpAny_Tuple_spliced (thn (h pos pins s σ H _ I hq) fun us s1 ⟨xs, H1, I1, r, z, q⟩ => ⟨by rw [← r.length]; exact z, ?_⟩)
  have hf : H1 s1.heap.objs.size = none := I1.hok.fresh (Nat.le_refl _)
  refine ⟨.ref s1.heap.objs.size, upd H1 s1.heap.objs.size (.tup xs), I1.laid (t' := s1.toks) (fun b u e => Heap.get?_push_of_some _ e) (Nat.le_refl _) ?_, rfl, q _ hf⟩
  exact ⟨z, us, r, ⟨_, Heap.get?_push_size _ rfl, rfl, _, rfl⟩⟩
theorem pe_lst (h : PA X es t) : PE X (.List es pos) (tLst t) := by
  intro pins s σ H Q I hq
  refine wpAny_List_spliced (thn (h pos pins s σ H _ I hq) fun us s1 ⟨xs, H1, I1, r, z, q⟩ => ⟨by rw [← r.length]; exact z, ?_⟩)
  have hf : H1 s1.heap.objs.size = none := I1.hok.fresh (Nat.le_refl _)
  refine ⟨.ref s1.heap.objs.size, upd H1 s1.heap.objs.size (.lst xs), I1.laid (t' := s1.toks) (fun b u e => Heap.get?_push_of_some _ e) (Nat.le_refl _) ?_, rfl, q _ hf⟩
  exact ⟨z, us, 0, r, Heap.get?_push_size _ rfl⟩
end

/-! ### what a def promises -/
/-- a def's promise: the bound arguments in the parameters' order, the heap, the wanted end, the wanted exception -/
abbrev Sp := List V → Hp → VK → XK → Prop
/-- how an exception lies behind a call (file 08 gives it): the callers' frames, abstract heap and state ahead of the call, the wish, the exception, the state -/
abbrev CXT := List Env → Hp → Shared → XK → Value → Shared → Prop

/-- the state at a call -/
structure Env0 (P : Program) (w : World) (K : PySem.W.Frag) (mg : Str → Option Value) (base : Heap) (A : Around) (outer : List Env) (s : Shared) (H : Hp) : Prop where
  frames : A.frames = some outer
  mod : Mod K mg base
  bs : ∀ b o, base.get? b = some o → s.heap.get? b = some o ∧ H b = none
  bsz : base.objs.size ≤ s.heap.objs.size
  funs : s.heap.FunFrames base outer
  frf : ∀ b ∈ frs outer, H b = none
  hok : HOk P w H s.heap
  bare : AllBare s.gens
/-- a call's end -/
def CE (outer : List Env) (P : Program) (w : World) (H : Hp) (s : Shared) (Q : VK) (u : Value) (s' : Shared) : Prop :=
  ∃ v H', s'.os = s.os ∧ AllBare s'.gens ∧ Un (frs outer) [] H H' s.heap s'.heap ∧ HOk P w H' s'.heap ∧ RelV v u ∧ Q v H'
def CR (CX : CXT) (outer : List Env) (P : Program) (w : World) (H : Hp) (s : Shared) (Q : VK) (E : XK) (r : Result) (s' : Shared) : Prop :=
  match r with
  | .ok (.ret u) => CE outer P w H s Q u s'
  | .ok _ => False
  | .error e => CX outer H s E e s'
structure FnOk (P : Program) (w : World) (K : PySem.W.Frag) (mg : Str → Option Value) (base : Heap) (CX : CXT) (k : Nat) (f : Addr) (fd : FuncData) (ps : List Str) (sp : Sp) : Prop where
  len : ∀ vs H Q E, sp vs H Q E → vs.length = ps.length
  run : ∀ (A : Around) (outer : List Env) (s : Shared) (H : Hp) (args : Args) (us : List Value) (vs : List V) (Q : VK) (E : XK), Room k A → Env0 P w K mg base A outer s H → BindsTo s fd args (ps.zip us) → Vals vs us → sp vs H Q E →
    codeAny (model P w) A (.call (.ref f) args) (CR CX outer P w H s Q E) s


section
variable {X : Cx} {pins : List (Addr × Obj)} {σ : St} {H : Hp} {s s' : Shared}
/-- from a body: what a callee wants -/
theorem Inv.env0 (I : Inv X pins σ H s) : Env0 X.prog X.w X.K X.mg X.base X.A X.stack s H :=
  ⟨I.ok.frames, I.ok.mod, I.bs, Nat.le_trans I.ok.bsz I.sz, I.stack, I.stkFree, I.hok, I.bare⟩
/-- behind a call -/
theorem Inv.after {Q : VK} {u : Value} (I : Inv X pins σ H s) (h : CE X.stack X.prog X.w H s Q u s') : EP X pins σ Q u s' := by
  obtain ⟨v, H', os, bare, un, hok, r, q⟩ := h
  obtain ⟨hh, g, d, t, os'⟩ := s'
  obtain rfl : os' = s.os := os
  exact ⟨v, H', I.call (h' := hh) (g' := g) (d' := d) (t' := t) (ch := []) un hok bare (fun b z => absurd z (by simp)), r, q⟩
end

/-! ### calls -/
/-- f(..): the written arguments, then the defaults dvs; E: what is wanted of an exception -/
def tCall (sp : Sp) (dvs : List V) (E : XK) (t : TA) : TE := fun σ H Q => t σ H fun vs H1 => sp (vs ++ dvs) H1 Q E

/-- how the parameters are bound: us the positional arguments, kw the keywords' values by name, ds the defaults that fill up -/
def Binds (K : PySem.W.Frag) (fd : FuncData) (ps : List Str) (ds : List Value) : Prop :=
  ∀ (s : Shared) (us : List Value), K.In s.heap → (us ++ ds).length = ps.length → BindsTo s fd ⟨us, []⟩ (ps.zip (us ++ ds))
/-- every parameter is given -/
theorem Binds.all {K : PySem.W.Frag} {fd : FuncData} {ps : List Str} (h : ∀ us : List Value, us.length = ps.length → bindArgs fd ⟨us, []⟩ = pure (ps.zip us)) : Binds K fd ps [] := fun s us _ hl => by
  rw [List.append_nil] at hl ⊢
  exact .of_eq (h us hl)

/-- an exception of a callee reaches what this body wants of exceptions -/
def Passes (CX : CXT) (X : Cx) (E : XK) : Prop := ∀ (pins : List (Addr × Obj)) (σ : St) (H : Hp) (s : Shared) (e : Value) (s' : Shared), Inv X pins σ H s → CX X.stack H s E e s' → X.xe e s'

section
variable {X : Cx} {CX : CXT} {k : Nat} {f C : Addr} {fd : FuncData} {ps : List Str} {sp : Sp} {dvs : List V} {ds : List Value} {E : XK} {x m : Str} {p pos apos : Pos} {e o : Expr} {es : List Expr} {ta : TE} {t : TA}

/-- the callee runs -/
theorem run_fn {pins : List (Addr × Obj)} {σ : St} {H : Hp} {s : Shared} {Q : VK} {us : List Value} {vs : List V} (F : FnOk X.prog X.w X.K X.mg X.base CX k f fd ps sp) (hr : Room k X.A) (hb : Binds X.K fd ps ds) (hd : Vals dvs ds) (hx : Passes CX X E)
    (I : Inv X pins σ H s) (r : Vals vs us) (h : sp (vs ++ dvs) H Q E) : wpAny (model X.prog X.w) X.A (call (.ref f) us) (EP X pins σ Q) X.xe s := by
  have r2 : Vals (vs ++ dvs) (us ++ ds) := r.append hd
  have hl : (us ++ ds).length = ps.length := by rw [← r2.length]; exact F.len _ _ _ _ h
  refine wpAny_call (codeAny_mono (F.run X.A X.stack s H ⟨us, []⟩ (us ++ ds) (vs ++ dvs) Q E hr I.env0 (hb s us I.kIn hl) r2 h) fun r s' hq => ?_)
  cases r with
  | error e => exact hx pins σ H s e s' I hq
  | ok fl =>
    cases fl with
    | ret u => exact I.after hq
    | next => exact False.elim hq
    | brk => exact False.elim hq
    | cont => exact False.elim hq

theorem pe_call (F : FnOk X.prog X.w X.K X.mg X.base CX k f fd ps sp) (hr : Room k X.A) (hg : Gl X x) (hm : X.mg x = some (.ref f)) (hk : PySem.W.keepIn X.K (.ref f) = true) (hb : Binds X.K fd ps ds) (hd : Vals dvs ds) (hx : Passes CX X E)
    (ha : PA X (e :: es) t) (hdb : (x == ("__debug__" : Str)) = false := by decide) (he : starEach (e :: es) X.env = (false, eval e X.env) :: starEach es X.env := by rfl) (hpl : (backTo pos (starEach es X.env)).any (·.1) = false := by rfl) :
    PE X (.Call (.Name x p) (e :: es) [] pos) (tCall sp dvs E t) := by
  intro pins s σ H Q I h
  refine wpAny_Call_Name_kw (ld_glob I hg hm ?_ hdb)
  refine PySem.W.callWith_K (h₀ := X.base) I.ok.mod.kin hk (thn (ha pos pins s σ H _ I h) fun us s1 ⟨vs, H1, I1, r, q⟩ => ⟨I1.kIn, ?_⟩) he hpl
  exact run_fn F hr hb hd hx I1 r q



end

/-! ### keywords -/
section
variable {X : Cx} {CX : CXT} {k : Nat} {f C : Addr} {fd : FuncData} {ps ks : List Str} {sp : Sp} {E : XK} {x m : Str} {p pos apos kpos : Pos} {e o : Expr} {es : List Expr} {kws : List Keyword} {te ta : TE} {t tk : TA} {nm : Option Str}

variable {g : List Value → List Value → List Value} {gV : List V → List V → List V}
end

/-! ### a def's body keeps its promise -/
/-- names: the parameters first -/
structure FnScope (N P : List Str) (sc : Scope) : Prop where
  kind : sc.kind = .function
  co : sc.isCoroutine = false
  gen : sc.isGenerator = false
  nd : N.Nodup
  pre : N.take P.length = P
  par : ∀ x ∈ P, sc.names.lookup x = some .local ∨ sc.names.lookup x = some .cell
  nofree : ∀ y ∈ sc.names, y.2 ≠ .free

theorem bindL_out {kindOf : Str → Option NameKind} {x : Str} : ∀ {binds : List (Str × Value)} {m : Str → Option Value}, (∀ v, (x, v) ∉ binds) → bindL kindOf binds m x = m x
  | [], _, _ => rfl
  | (n, v) :: r, m, h => by
    unfold bindL
    rw [bindL_out fun w hw => h w (List.mem_cons_of_mem _ hw)]
    split
    · have : x ≠ n := by rintro rfl; exact h v List.mem_cons_self
      simp [this]
    · rfl
theorem bindC_out {kindOf : Str → Option NameKind} {x : Str} : ∀ {binds : List (Str × Value)} {m : Str → Option Value}, (∀ v, (x, v) ∉ binds) → bindC kindOf binds m x = m x
  | [], _, _ => rfl
  | (n, v) :: r, m, h => by
    unfold bindC
    rw [bindC_out fun w hw => h w (List.mem_cons_of_mem _ hw)]
    split
    · rfl
    · have : x ≠ n := by rintro rfl; exact h v List.mem_cons_self
      simp [this]
theorem bindL_get {kindOf : Str → Option NameKind} {x : Str} {v : Value} : ∀ {P : List Str} {vs : List Value} {i : Nat} {m : Str → Option Value}, P.Nodup → P[i]? = some x → vs[i]? = some v → kindOf x = some .local →
    bindL kindOf (P.zip vs) m x = some v
  | [], _, _, _, _, h, _, _ => by simp at h
  | _ :: _, [], _, _, _, _, h, _ => by simp at h
  | p :: P, w :: vs, 0, m, nd, h1, h2, hk => by
    simp at h1 h2; subst h1; subst h2
    show bindL kindOf ((p, w) :: P.zip vs) m p = _
    unfold bindL
    rw [bindL_out fun v hv => (List.nodup_cons.mp nd).1 (List.of_mem_zip hv).1, if_pos hk]
    simp
  | p :: P, w :: vs, i + 1, m, nd, h1, h2, hk => by
    show bindL kindOf ((p, w) :: P.zip vs) m x = _
    unfold bindL
    exact bindL_get (i := i) (List.nodup_cons.mp nd).2 (by simpa using h1) (by simpa using h2) hk
theorem bindC_get {kindOf : Str → Option NameKind} {x : Str} {v : Value} : ∀ {P : List Str} {vs : List Value} {i : Nat} {m : Str → Option Value}, P.Nodup → P[i]? = some x → vs[i]? = some v → kindOf x ≠ some .local →
    bindC kindOf (P.zip vs) m x = some v
  | [], _, _, _, _, h, _, _ => by simp at h
  | _ :: _, [], _, _, _, _, h, _ => by simp at h
  | p :: P, w :: vs, 0, m, nd, h1, h2, hk => by
    simp at h1 h2; subst h1; subst h2
    show bindC kindOf ((p, w) :: P.zip vs) m p = _
    unfold bindC
    rw [bindC_out fun v hv => (List.nodup_cons.mp nd).1 (List.of_mem_zip hv).1, if_neg hk]
    simp
  | p :: P, w :: vs, i + 1, m, nd, h1, h2, hk => by
    show bindC kindOf ((p, w) :: P.zip vs) m x = _
    unfold bindC
    exact bindC_get (i := i) (List.nodup_cons.mp nd).2 (by simpa using h1) (by simpa using h2) hk

/-- the names' values at the entry -/
def start (N : List Str) (vs : List V) : St := vs.map some ++ List.replicate (N.length - vs.length) none

/-- the context of a def's body, at its entry; an exception leaves the frame, then lies as CX says -/
def cxOf (CX : CXT) (P : Program) (w : World) (K : PySem.W.Frag) (mg : Str → Option Value) (base : Heap) (N : List Str) (qual : Str) (scope : Scope) (f : Addr) (cd : Value) (A : Around) (outer : List Env) (s : Shared) (H : Hp) (E : XK) : Cx where
  prog := P
  w := w
  K := K
  mg := mg
  base := base
  A := A.deeper (envOfC qual scope s.heap.objs.size f cd)
  N := N
  s₀ := s
  H₀ := H
  env := envOfC qual scope s.heap.objs.size f cd
  outer := outer
  stack := envOfC qual scope s.heap.objs.size f cd :: outer
  ex := []
  calm := true
  fn := fun _ => true
  pn := []
  xe := fun e s' => wpAny (model P w) (A.deeper (envOfC qual scope s.heap.objs.size f cd)) (leaving (envOfC qual scope s.heap.objs.size f cd) e) (fun _ s'' => CX outer H s E e s'') (fun e' s'' => CX outer H s E e' s'') s'

theorem cell_has {sc : Scope} {n : Nat} {x : Str} (h : sc.names.lookup x = some .cell) : ∃ c, (cellsFrom n sc.names []).lookup x = some c := by
  have q := PySem.W.cellsFrom_some sc.names n [] (.inl h)
  exact Option.isSome_iff_exists.mp q

theorem inv_start {CX : CXT} {P : Program} {w : World} {K : PySem.W.Frag} {mg : Str → Option Value} {base : Heap} {N ps : List Str} {qual : Str} {scope : Scope} {f : Addr} {cd : Value} {A : Around} {outer : List Env} {s s1 : Shared} {H : Hp} {E : XK} {us : List Value} {vs : List V}
    (S : FnScope N ps scope) (hd : A.handled = none) (e0 : Env0 P w K mg base A outer s H) (hl : vs.length = ps.length) (r : Vals vs us)
    (x : InCallC s s.heap.objs.size (bindL (envOfC qual scope s.heap.objs.size f cd).kindOf (ps.zip us) fun _ => none) (cellsFrom (s.heap.objs.size + 1) scope.names []) (bindC (envOfC qual scope s.heap.objs.size f cd).kindOf (ps.zip us) fun _ => none) s1) :
    Inv (cxOf CX P w K mg base N qual scope f cd A outer s H E) [] (start N vs) H s1 := by
  have hpl : ps.length ≤ N.length := by have := congrArg List.length S.pre; rw [List.length_take] at this; omega
  obtain ⟨h1, tk, rfl, hk⟩ := x.done
  have noA : ∀ b : Addr, b ∉ (cxOf CX P w K mg base N qual scope f cd A outer s H E).ex := fun b z => absurd (show b ∈ ([] : List Addr) from z) (by simp)
  refine ⟨⟨e0.mod, S.kind, rfl, rfl, Nat.le_refl _, fun y z c h1 h2 => ?_, fun y hy => ?_, fun y c _ h => ?_, fun _ => hd, Around.frames_deeper e0.frames, .inr ⟨rfl, rfl⟩, fun b z => absurd z (noA b), e0.bs, e0.bsz, fun b _ _ => noA b, fun b z => absurd z (noA b), e0.funs, e0.frf⟩,
    rfl, e0.bare, Un.kept hk, ⟨_, x.toInCall.ns, fun i y v h1 h2 h3 => ?_⟩, fun y c h => ⟨_, x.cell y c h⟩, e0.hok.fresh (Nat.le_refl _), fun y c h => ?_, fun p hp => absurd (show p ∈ ([] : List (Addr × Obj)) from hp) (by simp), e0.hok.kept hk, ?_⟩
  · exact name_of_addr x.apart (PySem.mem_of_lookup h1) (PySem.mem_of_lookup h2)
  · have hy : scope.names.lookup y = some .cell ∨ scope.names.lookup y = some .free := hy
    rcases hy with hy | hy
    · exact cell_has hy
    · exact absurd rfl (S.nofree _ (PySem.mem_of_lookup hy))
  · exact Nat.le_of_lt (x.above y c (PySem.mem_of_lookup h))
  · have hi : i < vs.length := by
      unfold start at h2
      by_cases hi : i < vs.length
      · exact hi
      · rw [List.getElem?_append_right (by simpa using hi)] at h2
        rw [List.getElem?_replicate] at h2
        split at h2 <;> cases h2
    have ha : vs[i]? = some v := by
      unfold start at h2
      rw [List.getElem?_append_left (by simpa using hi), List.getElem?_map] at h2
      cases e : vs[i]? with
      | none => rw [e] at h2; cases h2
      | some a => rw [e] at h2; cases h2; rfl
    obtain ⟨u, hu, rv⟩ := r.get ha
    have hp : ps[i]? = some y := by
      rw [← S.pre, List.getElem?_take_of_lt (by omega)]; exact h1
    have ndP : ps.Nodup := by rw [← S.pre]; exact S.nd.sublist (List.take_sublist _ _)
    refine ⟨u, rv, ?_⟩
    rcases S.par y (List.mem_of_getElem? hp) with k | k
    · exact .inl ⟨k, bindL_get ndP hp hu k⟩
    · obtain ⟨c, e⟩ := cell_has (n := s.heap.objs.size + 1) k
      refine .inr ⟨.inl k, c, e, ?_⟩
      have q := x.cell y c e
      rw [bindC_get ndP hp hu (by show scope.names.lookup y ≠ _; rw [k]; decide)] at q
      exact q
  · exact e0.hok.fresh (Nat.le_of_lt (x.above y c (PySem.mem_of_lookup h)))
  · unfold start
    show _ = N.length
    rw [List.length_append, List.length_map, List.length_replicate]
    omega

/-- THE RULE: a def (or a method) of the text, by its body. The body's reading t is chosen for each entry; it is run at the parameters' values -/
theorem fn_of {CX : CXT} {P : Program} {w : World} {K : PySem.W.Frag} {mg : Str → Option Value} {base : Heap} {k : Nat} {f : Addr} {name qual : Str} {params : Arguments} {body : List Stmt} {scope : Scope} {dV kV doc pm cdv ct oc : Value} {an od : Option Addr}
    {osl : Array (Option Value)} {N ps : List Str} {sp : Sp} (lk : K.lookup f = some ⟨oc, od, .func (PySem.W.fnOf name qual params body scope dV kV doc pm an cdv ct), osl⟩) (hcd : PySem.W.codeIn K cdv qual = true) (S : FnScope N ps scope)
    (len : ∀ vs H Q E, sp vs H Q E → vs.length = ps.length)
    (hbody : ∀ (A : Around) (outer : List Env) (s : Shared) (H : Hp) (vs : List V) (Q : VK) (E : XK), Room k (A.deeper (envOfC qual scope s.heap.objs.size f cdv)) → sp vs H Q E →
      ∃ t, PSs (cxOf CX P w K mg base N qual scope f cdv A outer s H E) body t ∧ t { nx := fun _ H' => Q .non H', rt := Q } (start N vs) H) :
    FnOk P w K mg base CX (k + 1) f (PySem.W.fnOf name qual params body scope dV kV doc pm an cdv ct) ps sp := by
  refine ⟨len, fun A outer s H args us vs Q E hr e0 hb r hsp => ?_⟩
  have hl := len _ _ _ _ hsp
  have KX : K.In s.heap := e0.mod.kin.keeps fun b o e => (e0.bs b o e).1
  have lim : s.heap.NoLimit := e0.mod.nolimit.keeps fun b o e => (e0.bs b o e).1
  have hkind : ∀ y ∈ ps.zip us, scope.names.lookup y.1 = some .local ∨ (scope.names.lookup y.1 = some .cell ∧ ((cellsFrom (s.heap.objs.size + 1) scope.names []).lookup y.1).isSome = true) := fun ⟨n, v⟩ hy => by
    rcases S.par n (List.of_mem_zip hy).1 with q | q
    · exact .inl q
    · exact .inr ⟨q, PySem.W.cellsFrom_some _ _ _ (.inl q)⟩
  refine codeAny_call_function hr.depth (KX _ _ lk) rfl S.co S.gen rfl (PySem.W.codeRec_of KX hcd) (hb _ _ _ _ ?_)
  refine wpAny_newFunctionEnv_cells S.kind hkind fun env he s1 x => ?_
  subst he
  refine ⟨lim.keeps x.toInCall.keep, codeAny_func ?_⟩
  obtain ⟨t, ht, hq⟩ := hbody A outer s H vs Q E (hr.deeper _) hsp
  have I : Inv (cxOf CX P w K mg base N qual scope f cdv A outer s H E) [] (start N vs) H s1 := inv_start S hr.hd e0 hl r x
  refine wpAny_mono (ht [] s1 (start N vs) H _ I hq) (fun fl s' hs => ?_) fun e s' hs => hs
  have fin : ∀ {σ' : St} {H' : Hp} {v : V} {u : Value}, Inv (cxOf CX P w K mg base N qual scope f cdv A outer s H E) [] σ' H' s' → RelV v u → Q v H' → CE outer P w H s Q u s' :=
    fun {σ' H' v u} J rv q => ⟨v, H', J.os, J.bare, J.base, J.hok, rv, q⟩
  cases fl with
  | ret u =>
    obtain ⟨v, σ', H', J, rv, q⟩ := hs
    exact fin J rv q
  | next =>
    obtain ⟨σ', H', J, q⟩ := hs
    exact fin (v := V.non) (u := Value.none) J rfl q
  | brk =>
    obtain ⟨_, _, _, q⟩ := hs
    exact False.elim q
  | cont =>
    obtain ⟨_, _, _, q⟩ := hs
    exact False.elim q
end L2

namespace L2
open PySem PySem.Spec PyProof.Rows
section
variable {X : Cx} {x : Str} {p pos : Pos} {e : Expr} {es : List Expr} {t : TA} {id T : String} {r : List V → Hp → VK → Prop}

def tCB (r : List V → Hp → VK → Prop) (t : TA) : TE := fun σ H Q => t σ H fun vs H1 => r vs H1 Q
/-- f(e, ..), f a built-in function -/
theorem pe_callB (hc : CallR X (.builtin id) r) (hg : Gl X x) (hm : X.mg x = none) (hv : bootBuiltins x = some (.builtin id)) (ha : PA X (e :: es) t) (hn : x ≠ "__name__" := by decide) (hdb : (x == ("__debug__" : Str)) = false := by decide)
    (he : starEach (e :: es) X.env = (false, eval e X.env) :: starEach es X.env := by rfl) (hpl : (backTo pos (starEach es X.env)).any (·.1) = false := by rfl) : PE X (.Call (.Name x p) (e :: es) [] pos) (tCB r t) := by
  intro pins s σ H Q I h
  refine wpAny_Call_Name_kw (ld_blt I hg hm hv ?_ hn hdb)
  exact PyProof.Rows.callWith_builtin1 (thn (ha pos pins s σ H _ I h) fun us s1 ⟨vs, H1, I1, r1, q1⟩ => hc pins s1 σ H1 vs us Q I1 r1 q1) he hpl
/-- T(e, ..), T a built-in type -/
theorem pe_callTy (hc : CallR X (.type T) r) (hg : Gl X x) (hm : X.mg x = none) (hv : bootBuiltins x = some (.type T)) (ha : PA X (e :: es) t) (hn : x ≠ "__name__" := by decide) (hdb : (x == ("__debug__" : Str)) = false := by decide)
    (he : starEach (e :: es) X.env = (false, eval e X.env) :: starEach es X.env := by rfl) (hpl : (backTo pos (starEach es X.env)).any (·.1) = false := by rfl) : PE X (.Call (.Name x p) (e :: es) [] pos) (tCB r t) := by
  intro pins s σ H Q I h
  refine wpAny_Call_Name_kw (ld_blt I hg hm hv ?_ hn hdb)
  exact PyProof.Rows.callWith_type1 (thn (ha pos pins s σ H _ I h) fun us s1 ⟨vs, H1, I1, r1, q1⟩ => hc pins s1 σ H1 vs us Q I1 r1 q1) he hpl
end
end L2

namespace HT
open PySem PyProof.Rows



section
open PySem.SeqAt
open PySem.AutoSeq1 (wpAny_loadPart')
open PySem.MeetsSeq PySem.MeetsSeq2 PySem.MeetsSeq3

end

section
variable {prog : Program} {w : World} {A : Around} {E : Value → Shared → Prop} {s : Shared}



/-! ### t[a:b], not the whole -/
/-- a slice's bound as a place among n (d where it is left out) -/
def sIx (n d : Nat) : Option Int → Nat
  | none => d
  | some v => if v < 0 then (v + (n : Int)).toNat else min v.toNat n
theorem sIx_nat (n d k : Nat) : sIx n d (some (k : Int)) = min k n := by
  show (if (k : Int) < 0 then ((k : Int) + (n : Int)).toNat else min (k : Int).toNat n) = min k n
  rw [if_neg (by omega), Int.toNat_natCast]

end
end HT

namespace L2
open PySem PySem.Spec PyProof.Rows

/-! ### the parts of a slice -/
abbrev TO := St → Hp → (Option Int → Hp → Prop) → Prop
/-- a slice's part (left out, or an int) -/
def PO (X : Cx) (e : Option Expr) (t : TO) : Prop :=
  ∀ (pins : List (Addr × Obj)) (s : Shared) (σ : St) (H : Hp) (Q : Option Int → Hp → Prop), Inv X pins σ H s → t σ H Q →
    wpAny (model X.prog X.w) X.A (evalPart e X.env) (fun u s' => ∃ o H', Inv X pins σ H' s' ∧ IsPart u o ∧ Q o H') X.xe s
def tNoPart : TO := fun _ H Q => Q none H
def tPart (t : TE) : TO := fun σ H Q => t σ H fun x H1 => ∃ i, x = .int i ∧ Q (some i) H1


section
variable {X : Cx} {e : Expr} {te : TE} {lo hi : Option Expr} {tl th : TO} {pos p2 : Pos}

theorem po_none : PO X none tNoPart := by
  intro pins s σ H Q I h
  rw [evalPart_none]
  exact wpAny_pure ⟨none, H, I, .none, h⟩
theorem po_some (h : PE X e te) : PO X (some e) (tPart te) := by
  intro pins s σ H Q I hw
  rw [evalPart_some]
  refine thn (h pins s σ H _ I hw) fun u s1 ⟨x, H1, I1, r1, q1⟩ => ?_
  obtain ⟨i, rfl, q⟩ := q1
  obtain ⟨t, rfl⟩ := r1
  exact ⟨some i, H1, I1, .int i t, q⟩

/-- what a slice of a value is, by values: the slice object stands at sl -/
def SlR (X : Cx) (r : V → Option Int → Option Int → Hp → VK → Prop) : Prop :=
  ∀ (pins : List (Addr × Obj)) (s : Shared) (σ : St) (H : Hp) (x : V) (v vl vu : Value) (lo hi : Option Int) (sl : Addr) (Q : VK), Inv X pins σ H s → RelV x v → s.heap.IsSliceOf sl vl vu .none → IsPart vl lo → IsPart vu hi → r x lo hi H Q →
    ∃ T id, typeLookup (.type T) "__getitem__" = pure (some (.builtin id)) ∧ s.TypeIs v T ∧ wpAny (model X.prog X.w) X.A (getItem v (.ref sl)) (EP X pins σ Q) X.xe s
def tSl (r : V → Option Int → Option Int → Hp → VK → Prop) (te : TE) (tl th : TO) : TE := fun σ H Q => te σ H fun x H1 => tl σ H1 fun l H2 => th σ H2 fun u H3 => r x l u H3 Q
/-- a[lo:hi], any a -/
theorem pe_slice {r : V → Option Int → Option Int → Hp → VK → Prop} (hr : SlR X r) (he : PE X e te) (hl : PO X lo tl) (hu : PO X hi th) : PE X (.Subscript e (.Slice lo hi none p2) pos) (tSl r te tl th) := by
  intro pins s σ H Q I h
  refine Subscript_ (thn (he pins s σ H _ I h) fun v s1 ⟨x, H1, I1, r1, q1⟩ => ?_)
  refine wpAny_Slice (thn (hl pins s1 σ H1 _ I1 q1) fun vl s2 ⟨l, H2, I2, pl, q2⟩ => thn (hu pins s2 σ H2 _ I2 q2) fun vu s3 ⟨u, H3, I3, pu, q3⟩ => ?_)
  rw [evalPart_none]
  refine wpAny_pure ?_
  have I4 : Inv X pins σ H3 { s3 with heap := s3.heap.push { cls := .type "slice", data := .fields #[vl, vu, .none] } } := I3.kept (t' := s3.toks) fun b ob q => Heap.get?_push_of_some _ q
  obtain ⟨T, id, hT, ht, hg⟩ := hr pins { s3 with heap := s3.heap.push { cls := .type "slice", data := .fields #[vl, vu, .none] } } σ H3 x v vl vu l u s3.heap.objs.size Q I4 r1 (Heap.IsSliceOf.new ..) pl pu q3
  show wpAny (model X.prog X.w) X.A (subscriptTail e (.Slice lo hi none p2) v (.ref s3.heap.objs.size)) (EP X pins σ Q) X.xe { s3 with heap := s3.heap.push { cls := .type "slice", data := .fields #[vl, vu, .none] } }
  exact tail_any (ops := [.ref s3.heap.objs.size, v]) ht hT hg (by with_unfolding_all rfl)

/-- the items of xs[lo:hi] -/
def cutV (xs : List V) (lo hi : Option Int) : List V := (xs.drop (HT.sIx xs.length 0 lo)).take (HT.sIx xs.length xs.length hi - HT.sIx xs.length 0 lo)
theorem cutV_length (xs : List V) (lo hi : Option Int) : (cutV xs lo hi).length ≤ xs.length := by
  unfold cutV
  rw [List.length_take, List.length_drop]
  omega

/-! ### t < u, t + u -/
end
end L2

namespace L2
open PySem PySem.Spec PyProof.Rows

/-! ### places -/
/-- the place that an index of any sign means -/
def ixN (n : Nat) (i : Int) : Option Nat := if 0 ≤ i then (if i < n then some i.toNat else none) else if -(n : Int) ≤ i then some (i + n).toNat else none
def atI {α : Type} (xs : List α) (i : Int) : Option α := (ixN xs.length i).bind fun j => xs[j]?
theorem ixN_seq {n : Nat} {i : Int} {j : Nat} (h : ixN n i = some j) : seqIndex? i n = some j ∧ j < n ∧ -(n : Int) ≤ i ∧ i < n := by
  unfold ixN at h
  by_cases h0 : 0 ≤ i
  · rw [if_pos h0] at h
    by_cases h1 : i < n
    · rw [if_pos h1] at h
      have e : i.toNat = j := Option.some.inj h
      exact ⟨by rw [seqIndex_of h0 h1, e], by omega, by omega, h1⟩
    · rw [if_neg h1] at h; cases h
  · rw [if_neg h0] at h
    by_cases h1 : -(n : Int) ≤ i
    · rw [if_pos h1] at h
      have e : (i + n).toNat = j := Option.some.inj h
      exact ⟨by rw [seqIndex_neg (by omega) h1, e], by omega, h1, by omega⟩
    · rw [if_neg h1] at h; cases h
theorem atI_get {α : Type} {xs : List α} {i : Int} {v : α} (h : atI xs i = some v) : ∃ j, seqIndex? i xs.length = some j ∧ xs[j]? = some v ∧ j < xs.length ∧ -(xs.length : Int) ≤ i ∧ i < xs.length := by
  unfold atI at h
  cases e : ixN xs.length i with
  | none => rw [e] at h; cases h
  | some j =>
    rw [e] at h
    obtain ⟨h1, h2, h3, h4⟩ := ixN_seq e
    exact ⟨j, h1, h, h2, h3, h4⟩
theorem atI_nat {α : Type} {xs : List α} {j : Nat} {v : α} (h : xs[j]? = some v) : atI xs (j : Int) = some v := by
  have hj : j < xs.length := (List.getElem?_eq_some_iff.mp h).1
  have e : ixN xs.length (j : Int) = some j := by
    unfold ixN
    rw [if_pos (by omega), if_pos (by omega)]; simp
  unfold atI; rw [e]; exact h

/-! ### what may be subscripted -/
/-- what stands as an index of a plain subscript -/
def PlainIx (b : Expr) : Prop := ∀ o i, subscripted b false o i = operate [o, i] (getItem o i)
/-- a subscript by values -/
def IxR (X : Cx) (r : R2) : Prop :=
  ∀ (value slice : Expr) (pins : List (Addr × Obj)) (s : Shared) (σ : St) (H : Hp) (x y : V) (v u : Value) (Q : VK), Inv X pins σ H s → RelV x v → RelV y u → r x y H Q →
    subscripted slice false v u = operate [v, u] (getItem v u) → wpAny (model X.prog X.w) X.A (subscriptTail value slice v u) (EP X pins σ Q) X.xe s
/-- a call of a builtin's method by values: the receiver, the arguments -/
def MtR (X : Cx) (id : String) (r : V → List V → Hp → VK → Prop) : Prop :=
  ∀ (pins : List (Addr × Obj)) (s : Shared) (σ : St) (H : Hp) (x : V) (xs : List V) (v : Value) (us : List Value) (Q : VK), Inv X pins σ H s → RelV x v → Vals xs us → r x xs H Q →
    wpAny (model X.prog X.w) X.A (call (.builtin id) (v :: us)) (EP X pins σ Q) X.xe s
section
variable {X : Cx} {a b : Expr} {ta tb : TE} {pos : Pos}
/-- a[b] -/
theorem pe_ix {r : R2} (hr : IxR X r) (ha : PE X a ta) (hb : PE X b tb) (hs : PlainIx b) : PE X (.Subscript a b pos) (tOp r ta tb) := by
  intro pins s σ H Q I h
  exact Subscript_ (binT ha hb I h fun v u s2 x y H2 I2 rx ry q => hr a b pins s2 σ H2 x y v u Q I2 rx ry q (hs _ _))

def rIxL (K : PySem.W.Frag) : R2 := fun x y H Q => ∃ p xs i v, x = .ref p ∧ y = .int i ∧ SqL K H p xs ∧ atI xs i = some v ∧ Q v H
def rIxT (K : PySem.W.Frag) : R2 := fun x y H Q => ∃ p xs i v, x = .ref p ∧ y = .int i ∧ SqT K H p xs ∧ atI xs i = some v ∧ Q v H
theorem ix_list : IxR X (rIxL X.K) := by
  intro value slice pins s σ H x y v u Q I rx ry h hs
  obtain ⟨p, xs, i, z, rfl, rfl, hq, he, q⟩ := h
  cases rx
  obtain ⟨t, rfl⟩ := ry
  obtain ⟨its, r, pl, hz⟩ := I.list hq
  obtain ⟨j, h1, h2, h3, h4, h5⟩ := atI_get he
  obtain ⟨w, ew, rw'⟩ := r.get h2
  have hl := r.length
  have hn := line63
  have fin : EP X pins σ Q w s := ⟨z, H, I, rw', q⟩
  by_cases h0 : 0 ≤ i
  · have hj : i.toNat = j := by
      rw [seqIndex_of h0 h5] at h1
      exact Option.some.inj h1
    exact item_listR pl.isList h0 (by omega) (by rw [hj]; simpa using ew) fin hs
  · have hj : (i + (its.toArray.size : Int)).toNat = j := by
      rw [seqIndex_neg (by omega) h4] at h1
      rw [List.size_toArray, ← hl]
      exact Option.some.inj h1
    exact subscriptTail_builtinR (x := w) pl.isList.typeIs slot_list_getitem.lookup
      (wpAny_getItem_list_neg (Q := fun r s' => r = w ∧ EP X pins σ Q r s') pl.isList (by omega) (by rw [List.size_toArray] <;> omega) (by omega) (by rw [hj]; simpa using ew) ⟨rfl, fin⟩) hs
theorem ix_tup : IxR X (rIxT X.K) := by
  intro value slice pins s σ H x y v u Q I rx ry h hs
  obtain ⟨p, xs, i, z, rfl, rfl, hq, he, q⟩ := h
  cases rx
  obtain ⟨t, rfl⟩ := ry
  obtain ⟨its, r, pl, hz⟩ := I.tuple hq
  obtain ⟨j, h1, h2, h3, h4, h5⟩ := atI_get he
  obtain ⟨w, ew, rw'⟩ := r.get h2
  have hl := r.length
  have hn := line63
  have fin : EP X pins σ Q w s := ⟨z, H, I, rw', q⟩
  exact subscriptTail_builtinR (x := w) pl.typeIs slot_tuple_getitem.lookup
    (getItem_tuple (j := j) (Q := fun r s' => r = w ∧ EP X pins σ Q r s') pl (by omega) (by omega) (by rw [List.size_toArray, ← hl]; exact h1) (by simpa using ew) ⟨rfl, fin⟩) hs

/-! ### xs[i] = v, any sign -/
/-- the list's object behind a store -/
theorem mapSeq_set (its : List Value) (n j : Nat) (u : Value) : Obj.mapSeq (·.setIfInBounds j u) { cls := .type "list", data := .seq its.toArray n } = { cls := .type "list", data := .seq (its.set j u).toArray n } := by
  simp [Obj.mapSeq]
theorem Inv.lst {pins : List (Addr × Obj)} {σ : St} {H : Hp} {s : Shared} {p : Addr} {xs : List V} (I : Inv X pins σ H s) (h : H p = some (.lst xs)) :
    ∃ (its : List Value) (n : Nat), Vals xs its ∧ s.heap.get? p = some { cls := .type "list", data := .seq its.toArray n } ∧ xs.length ≤ sizeLine := by
  obtain ⟨z, its, n, r, e⟩ := I.hok p _ h
  exact ⟨its, n, r, e, z⟩
/-- the list at p is written by an update of its object -/
theorem Inv.lstUpd {pins : List (Addr × Obj)} {σ : St} {H : Hp} {s : Shared} {p : Addr} {xs ys : List V} {its its' : List Value} {n n' : Nat} {f : Obj → Obj} (I : Inv X pins σ H s) (h : H p = some (.lst xs))
    (ho : s.heap.get? p = some { cls := .type "list", data := .seq its.toArray n }) (hf : f { cls := .type "list", data := .seq its.toArray n } = { cls := .type "list", data := .seq its'.toArray n' }) (r : Vals ys its') (hz : ys.length ≤ sizeLine) (t : Nat) :
    Inv X pins σ (upd H p (.lst ys)) { s with heap := s.heap.update p f, toks := t } := by
  have e : (s.heap.update p f).get? p = some { cls := .type "list", data := .seq its'.toArray n' } := by
    rw [Heap.get?_update_self f ho (by rw [hf] <;> rfl), hf]
  refine I.write (x := p) (e := p) (by rw [h]; trivial) (.inl rfl) (fun b u hb q => (Heap.get?_update_other _ _ (Ne.symm hb)).trans q) ⟨_, e⟩ ?_
  exact ⟨hz, its', n', r, e⟩
def rSetL : V → V → V → Hp → (Hp → Prop) → Prop := fun o i v H Q => ∃ p xs k j, o = .ref p ∧ i = .int k ∧ H p = some (.lst xs) ∧ ixN xs.length k = some j ∧ Q (upd H p (.lst (xs.set j v)))
theorem set_list : PSet X rSetL := by
  intro pins s σ H o i v ov iv u Q I ro ri rv h
  obtain ⟨p, xs, k, j, rfl, rfl, hp, hj, q⟩ := h
  cases ro
  obtain ⟨t, rfl⟩ := ri
  obtain ⟨its, n, r, ho, hz⟩ := I.lst hp
  obtain ⟨h1, h2, h3, h4⟩ := ixN_seq hj
  have hl := r.length
  have hn := line63
  have I' : Inv X pins σ (upd H p (.lst (xs.set j v))) { s with heap := s.heap.update p (Obj.mapSeq (·.setIfInBounds j u)) } :=
    I.lstUpd hp ho (mapSeq_set its n j u) (r.set rv j) (by rw [List.length_set]; exact hz) s.toks
  by_cases h0 : 0 ≤ k
  · have hk : k.toNat = j := by
      rw [seqIndex_of h0 h4] at h1
      exact Option.some.inj h1
    exact PySem.W.ki_setAt ho h0 (by omega) (by rw [List.size_toArray, ← hl]; exact h4) (by rw [hk]; exact ⟨_, I', q⟩)
  · have hk : (k + (its.toArray.size : Int)).toNat = j := by
      rw [seqIndex_neg (by omega) h3] at h1
      rw [List.size_toArray, ← hl]
      exact Option.some.inj h1
    exact PySem.W.ki_setBack ho (by omega) (by rw [List.size_toArray, ← hl]; exact h3) (by omega) (by rw [hk]; exact ⟨_, I', q⟩)

/-! ### slices -/
theorem slice_bounds (lo hi : Option Int) (n : Nat) : (sliceBounds lo hi none n).1 = ((HT.sIx n 0 lo : Nat) : Int) ∧ (sliceBounds lo hi none n).2.1 = ((HT.sIx n n hi : Nat) : Int) ∧ (sliceBounds lo hi none n).2.2 = 1 := by
  refine ⟨?_, ?_, rfl⟩
  · cases lo with
    | none => simp [sliceBounds, HT.sIx]
    | some i =>
      simp only [sliceBounds, HT.sIx, Option.getD_none, show (1 : Int) > 0 by decide, if_true]
      by_cases h : i < 0
      · simp only [h, if_true] <;> omega
      · simp only [h, if_false] <;> omega
  · cases hi with
    | none => simp [sliceBounds, HT.sIx]
    | some i =>
      simp only [sliceBounds, HT.sIx, Option.getD_none, show (1 : Int) > 0 by decide, if_true]
      by_cases h : i < 0
      · simp only [h, if_true] <;> omega
      · simp only [h, if_false] <;> omega
theorem slicePick_cut (its : List Value) (lo hi : Option Int) : slicePick its.toArray lo hi none = ((its.drop (HT.sIx its.length 0 lo)).take (HT.sIx its.length its.length hi - HT.sIx its.length 0 lo)).toArray := by
  obtain ⟨h1, h2, h3⟩ := slice_bounds lo hi its.toArray.size
  unfold slicePick
  rw [h1, h2, h3]
  simp only [sliceRange_one, pick_run, List.size_toArray] <;> rfl
/-- xs[lo:hi] of a list: a new list -/
def rSlL (K : PySem.W.Frag) : V → Option Int → Option Int → Hp → VK → Prop := fun x lo hi H Q => ∃ a xs, x = .ref a ∧ SqL K H a xs ∧ ∀ p, H p = none → Q (.ref p) (upd H p (.lst (cutV xs lo hi)))
theorem sl_list : SlR X (rSlL X.K) := by
  intro pins s σ H x v vl vu lo hi sl Q I rx hs pl pu h
  obtain ⟨a, xs, rfl, hx, q⟩ := h
  cases rx
  obtain ⟨its, r, ht, hz⟩ := I.list hx
  have hlen := r.length
  refine ⟨"list", _, slot_list_getitem.lookup, ht.isList.typeIs, ?_⟩
  refine wpAny_getItem_list_slice ht.isList hs pl pu .none (by simp) ?_ (by rw [List.size_toArray] <;> omega)
  rw [slicePick_cut, ← hlen]
  refine ⟨.ref s.heap.objs.size, _, I.laid (t' := s.toks) (o := .lst (cutV xs lo hi)) (fun b ob q => Heap.get?_push_of_some _ q) (Nat.le_refl _) ?_, rfl, q _ (I.hok.fresh (Nat.le_refl _))⟩
  exact ⟨Nat.le_trans (cutV_length xs lo hi) hz, _, 0, (r.drop (HT.sIx xs.length 0 lo)).take (HT.sIx xs.length xs.length hi - HT.sIx xs.length 0 lo), Heap.get?_push_size _ rfl⟩

/-! ### in, not in: flat items -/

/-! ### len, list(x), tuple(x) of any list or tuple that is read -/
theorem call_len_seq : CallR X (.builtin "len") (fun xs H Q => ∃ p ys, xs = [.ref p] ∧ (SqL X.K H p ys ∨ SqT X.K H p ys) ∧ Q (.int ys.length) H) := by
  intro pins s σ H xs us Q I r h
  obtain ⟨p, ys, rfl, hq, q⟩ := h
  obtain ⟨u, rfl, rx⟩ := vals1 r
  cases rx
  have hn := line63
  rcases hq with hq | hq
  · obtain ⟨its, r', pl, hz⟩ := I.list hq
    have hlen := r'.length
    exact Calls.call_len_list pl.isList (by simp only [List.size_toArray] <;> omega) ⟨.int ys.length, H, I.tok _, ⟨s.toks + 1, by rw [List.size_toArray, hlen]⟩, q⟩
  · obtain ⟨its, r', pl, hz⟩ := I.tuple hq
    have hlen := r'.length
    exact len_tuple pl (by simp only [List.size_toArray] <;> omega) ⟨.int ys.length, H, I.tok _, ⟨s.toks + 1, by rw [List.size_toArray, hlen]⟩, q⟩
theorem call_list_of : CallR X (.type "list") (fun xs H Q => ∃ p ys, xs = [.ref p] ∧ (SqL X.K H p ys ∨ SqT X.K H p ys) ∧ ∀ l, H l = none → Q (.ref l) (upd H l (.lst ys))) := by
  intro pins s σ H xs us Q I r h
  obtain ⟨p, ys, rfl, hq, q⟩ := h
  obtain ⟨u, rfl, rx⟩ := vals1 r
  cases rx
  have fin : ∀ (its : List Value), Vals ys its → ys.length ≤ sizeLine → ∀ (h' : Heap) (c' : Nat), (∀ b o', s.heap.get? b = some o' → h'.get? b = some o') →
      h'.get? s.heap.objs.size = some { cls := .type "list", dict := none, data := .seq its.toArray c', slots := #[] } → EP X pins σ Q (.ref s.heap.objs.size) { s with heap := h' } := fun its r' hz h' c' kp e =>
    ⟨.ref s.heap.objs.size, _, I.laid (t' := s.toks) kp (Nat.le_refl _) (show ObjOk X.prog X.w _ h' _ (.lst ys) from ⟨hz, its, c', r', e⟩), rfl, q _ (I.hok.fresh (Nat.le_refl _))⟩
  rcases hq with hq | hq
  · obtain ⟨its, r', pl, hz⟩ := I.list hq
    have hlen := r'.length
    obtain ⟨o, ho, hc, n, hd⟩ := pl.isList
    exact call_list_seq p (.inl rfl) ho hc hd (fun h' c' kp e => fin its r' hz h' c' kp e) (by simp only [List.size_toArray] <;> omega)
  · obtain ⟨its, r', pl, hz⟩ := I.tuple hq
    have hlen := r'.length
    obtain ⟨o, ho, hc, n, hd⟩ := pl
    exact call_list_seq p (.inr rfl) ho hc hd (fun h' c' kp e => fin its r' hz h' c' kp e) (by simp only [List.size_toArray] <;> omega)

/-! ### the call of a builtin's method: o.m(..) -/
/-- the value is of that builtin type -/
def tyV (K : PySem.W.Frag) (T : String) (x : V) (H : Hp) : Prop := match x with
  | .str _ => T = "str"
  | .int _ => T = "int"
  | .ref p => (T = "list" ∧ ∃ xs, SqL K H p xs) ∨ (T = "tuple" ∧ ∃ o, K.lookup p = some o ∧ o.cls = .type "tuple" ∧ o.dict = none) ∨
      (T = "dict" ∧ ((∃ kvs, H p = some (.dK kvs)) ∨ ∃ kvs, H p = some (.dT kvs))) ∨ (T = "set" ∧ ∃ S n, H p = some (.set S n))
  | _ => False
theorem tyV_is {pins : List (Addr × Obj)} {σ : St} {H : Hp} {s : Shared} {T : String} {x : V} {v : Value} (I : Inv X pins σ H s) (r : RelV x v) (ty : tyV X.K T x H) :
    s.TypeIs v T ∧ ∀ a, v = .ref a → ∃ ob, s.heap.get? a = some ob ∧ ob.dict = none := by
  cases x with
  | str z =>
    obtain ⟨t, rfl⟩ := r
    cases (show T = "str" from ty)
    exact ⟨typeIs_str s z t, fun _ e => nomatch e⟩
  | int i =>
    obtain ⟨t, rfl⟩ := r
    cases (show T = "int" from ty)
    exact ⟨typeIs_int s i t, fun _ e => nomatch e⟩
  | ref p =>
    cases r
    rcases ty with ⟨rfl, xs, hq⟩ | ⟨rfl, o, hk, hc, hd⟩ | ⟨rfl, hk⟩ | ⟨rfl, S, n, hk⟩
    · obtain ⟨its, _, pl, _⟩ := I.list hq
      refine ⟨pl.isList.typeIs, fun a e => ?_⟩
      cases e
      obtain ⟨o, n, e, c, hd, _⟩ := pl
      exact ⟨o, e, hd⟩
    · refine ⟨⟨o, I.kIn p o hk, hc⟩, fun a e => ?_⟩
      cases e
      exact ⟨o, I.kIn _ o hk, hd⟩
    · have z : ∃ o, s.heap.get? p = some o ∧ o.ExactDict := by
        rcases hk with ⟨kvs, hk⟩ | ⟨kvs, hk⟩
        · obtain ⟨_, _, _, _, o, _, _, e, ex, _⟩ := I.hok p _ hk
          exact ⟨o, e, ex⟩
        · obtain ⟨_, _, _, _, o, _, _, e, ex, _⟩ := I.hok p _ hk
          exact ⟨o, e, ex⟩
      obtain ⟨o, e, ex⟩ := z
      refine ⟨⟨o, e, ex.1⟩, fun a e2 => ?_⟩
      cases e2
      exact ⟨o, e, ex.2.1⟩
    · obtain ⟨o, _, _, _, e, ex, _⟩ := I.hok p _ hk
      refine ⟨⟨o, e, ex.1⟩, fun a e2 => ?_⟩
      cases e2
      exact ⟨o, e, ex.2.1⟩
  | _ => exact False.elim ty
def tBM (K : PySem.W.Frag) (T : String) (r : V → List V → Hp → VK → Prop) (to : TE) (t : TA) : TE := fun σ H Q => to σ H fun x H1 => tyV K T x H1 ∧ t σ H1 fun xs H2 => r x xs H2 Q
variable {o e : Expr} {es : List Expr} {to : TE} {t : TA} {name : Str} {apos cpos : Pos} {T id : String} {r : V → List V → Hp → VK → Prop}
theorem pe_bm (pa : PlainAttrs T) (slot : Slot T name id) (hty : typeOf (.builtin id) = pure (.type "method_descriptor")) (hm : MtR X id r) (ho : PE X o to) (ha : PA X (e :: es) t)
    (hbase : attributeBase o name X.env (eval o X.env) = eval o X.env := by rfl)
    (hfew : ((backTo cpos (starEach (e :: es) X.env)).all (fun x => !x.1) && (backToKw cpos (keywordEach [] X.env)).all (fun x => x.1.isSome)
      && decide ((e :: es).length + ([] : List Keyword).length + (if ([] : List Keyword).isEmpty then 0 else 1) < 30)) = true := by rfl)
    (hline : (apos.endLine == cpos.line) = true := by rfl) (hs : starEach (e :: es) X.env = (false, eval e X.env) :: starEach es X.env := by rfl) (hplain : (backTo cpos (starEach es X.env)).any (·.1) = false := by rfl) :
    PE X (.Call (.Attribute o name apos) (e :: es) [] cpos) (tBM X.K T r to t) := by
  intro pins s σ H Q I h
  refine wpAny_Call_method_late hbase hfew hline rfl (thn (ho pins s σ H _ I h) fun v s1 ⟨x, H1, I1, r1, ty, q1⟩ => ?_)
  obtain ⟨h1, h2⟩ := tyV_is I1 r1 ty
  refine ⟨T, id, pa, slot, hty, h1, h2, ?_⟩
  have hA := ha cpos pins s1 σ H1 _ I1 q1
  rw [hs] at hA ⊢
  refine Calls.callWith_builtin (by show (false || (backTo cpos (starEach es X.env)).any (·.1)) = false; rw [hplain] <;> rfl) (Calls.evalArgs_plain ?_)
  exact thn hA fun us s2 ⟨vs, H2, I2, r2, q2⟩ => hm pins s2 σ H2 x vs v us Q I2 r1 r2 q2
/- xs.append(e), list.index on a module's tuple .. are MtR facts of 06m -/
end
end L2

namespace L2
open PySem PySem.Spec PyProof.Rows

def MtM (X : Cx) (id : String) (r : V → List V → Hp → VK → Prop) : Prop :=
  ∀ (pins : List (Addr × Obj)) (s : Shared) (σ : St) (H : Hp) (x : V) (xs : List V) (v : Value) (us : List Value) (Q : VK), Inv X pins σ H s → RelV x v → Vals xs us → r x xs H Q →
    wpAny (model X.prog X.w) X.A (call (.builtin id) (v :: us)) (EP X pins σ Q) X.xe s

/-! ### lists of values -/
theorem Vals.one : ∀ {x : V} {us : List Value}, Vals [x] us → ∃ u, us = [u] ∧ RelV x u
  | _, _, .cons r .nil => ⟨_, rfl, r⟩
theorem Vals.two : ∀ {x y : V} {us : List Value}, Vals [x, y] us → ∃ u v, us = [u, v] ∧ RelV x u ∧ RelV y v
  | _, _, _, .cons r (.cons q .nil) => ⟨_, _, rfl, r, q⟩
theorem Vals.rep {xs : List V} {us : List Value} (h : Vals xs us) : ∀ k : Nat, Vals (List.replicate k xs).flatten (List.replicate k us).flatten
  | 0 => .nil
  | k + 1 => by
    rw [List.replicate_succ, List.replicate_succ, List.flatten_cons, List.flatten_cons]
    exact Vals.append h (Vals.rep h k)
theorem foldl_rep (its : List Value) : ∀ (k : Nat) (acc : List Value),
    List.foldl (fun x1 x2 => x1 ++ x2) acc.toArray (List.replicate k its.toArray) = (acc ++ (List.replicate k its).flatten).toArray
  | 0, acc => by simp
  | k + 1, acc => by
    have e : acc.toArray ++ its.toArray = (acc ++ its).toArray := by simp
    have e2 : (acc ++ its) ++ (List.replicate k its).flatten = acc ++ (List.replicate (k + 1) its).flatten := by
      rw [List.replicate_succ, List.flatten_cons, List.append_assoc]
    rw [← e2, ← foldl_rep its k (acc ++ its), ← e, List.replicate_succ, List.foldl_cons]

section
variable {X : Cx} {pins : List (Addr × Obj)} {σ : St} {H : Hp} {s : Shared} {l b : Addr} {xs ys zs : List V}

/-! ### the two steps: a tracked list is rewritten, a new list is laid -/
theorem Inv.lset {its its' : List Value} {n : Nat} {f : Array Value → Array Value} {t' : Nat} (I : Inv X pins σ H s) (hH : H l = some (.lst xs))
    (e : s.heap.get? l = some { cls := .type "list", data := .seq its.toArray n }) (hf : f its.toArray = its'.toArray) (hv : Vals ys its') (hz : ys.length ≤ sizeLine) :
    Inv X pins σ (upd H l (.lst ys)) { s with heap := s.heap.update l (Obj.mapSeq f), toks := t' } := by
  have q := PySem.IsL.update e f
  rw [hf] at q
  refine I.write (x := l) (e := l) (by rw [hH]; exact trivial) (.inl rfl) (fun b' u hb hu => (Heap.get?_update_other s.heap (Obj.mapSeq f) (Ne.symm hb)).trans hu) ⟨_, q⟩ ?_
  exact ⟨hz, its', _, hv, q⟩
theorem Inv.lnew {its : List Value} {t' : Nat} (I : Inv X pins σ H s) (hv : Vals ys its) (hz : ys.length ≤ sizeLine) :
    Inv X pins σ (upd H s.heap.objs.size (.lst ys)) { s with heap := s.heap.push { cls := .type "list", data := .seq its.toArray }, toks := t' } :=
  I.laid (fun _ _ q => Heap.get?_push_of_some _ q) (Nat.le_refl _) ⟨hz, its, 0, hv, Heap.get?_push_size _ rfl⟩
theorem Inv.fresh (I : Inv X pins σ H s) : H s.heap.objs.size = none := I.hok.fresh (Nat.le_refl _)
theorem Inv.lstM (I : Inv X pins σ H s) (hH : H l = some (.lst xs)) : xs.length ≤ sizeLine ∧ ∃ (its : List Value) (n : Nat), Vals xs its ∧ xs.length = its.length ∧ s.heap.get? l = some { cls := .type "list", data := .seq its.toArray n } := by
  obtain ⟨z, its, n, r, e⟩ := I.hok l _ hH
  exact ⟨z, its, n, r, r.length, e⟩

theorem notLongL {n : Nat} (h : n ≤ sizeLine) : Builtin.List.listTooLong n = false := by
  unfold Builtin.List.listTooLong
  exact decide_eq_false (by omega)
end

section
variable {X : Cx}

/-! ### methods -/
def rAppend : V → List V → Hp → VK → Prop := fun x vs H Q => ∃ l xs y, x = .ref l ∧ vs = [y] ∧ H l = some (.lst xs) ∧ xs.length < sizeLine ∧ Q .non (upd H l (.lst (xs ++ [y])))
theorem mt_append : MtM X "list.append" rAppend := by
  intro pins s σ H x vs v us Q I rx rv h
  obtain ⟨l, xs, y, rfl, rfl, hH, hz, q⟩ := h
  cases rx
  obtain ⟨u, rfl, ru⟩ := rv.one
  obtain ⟨z, its, n, r, hl, e⟩ := I.lstM hH
  refine call_meets F.slot_list_append ⟨_, e, rfl⟩ F.entry_list_append (F.args_list_append_2 _ _) (PySem.list_append l its.toArray n u (by rw [List.size_toArray]; omega)) ⟨e, ?_⟩
  refine ⟨.non, _, I.lset (its' := its ++ [u]) hH e (by simp) (r.append (.cons ru .nil)) ?_, rfl, q⟩
  rw [List.length_append, List.length_singleton]
  omega






/-! ### list + list, list += list, list * int -/
/-- a list times an int (a negative one is nothing) -/
def rRep : R2 := fun x y H Q => ∃ l k xs, x = .ref l ∧ y = .int k ∧ H l = some (.lst xs) ∧ -(2 ^ 63) ≤ k ∧ k < 2 ^ 63 ∧ xs.length * k.toNat ≤ sizeLine ∧
  ∀ p, H p = none → Q (.ref p) (upd H p (.lst (List.replicate k.toNat xs).flatten))
theorem len_rep {α : Type} (xs : List α) (k : Nat) : (List.replicate k xs).flatten.length = k * xs.length := by
  induction k with
  | zero => simp
  | succ k ih => rw [List.replicate_succ, List.flatten_cons, List.length_append, ih, Nat.succ_mul, Nat.add_comm]
theorem op_rep : OpR X (binaryOp .Mult) rRep := by
  intro pins s σ H x y v u Q I rx ry h
  obtain ⟨l, k, xs, rfl, rfl, hH, h1, h2, hz, q⟩ := h
  cases rx
  obtain ⟨t, rfl⟩ := ry
  obtain ⟨z, its, n, r, hl, e⟩ := I.lstM hH
  have hlen : its.toArray.size * k.toNat ≤ sizeLine := by rw [List.size_toArray, ← hl]; exact hz
  have hcap : ¬ its.toArray.size * k.toNat > (2 ^ 63 - 1) / 8 := by
    have : (sizeLine : Nat) ≤ (2 ^ 63 - 1) / 8 := by decide
    omega
  have hfit : ¬ (!Builtin.List.listFitsIndex k) = true := by
    rw [fitsIndex_both h1 h2]
    exact Bool.false_ne_true
  have hlong : ¬ Builtin.List.listTooLong (its.toArray.size * k.toNat) = true := by
    rw [notLongL hlen]
    exact Bool.false_ne_true
  have hnew : List.foldl (fun x1 x2 => x1 ++ x2) #[] (List.replicate (if its.toArray.isEmpty = true then 0 else k.toNat) its.toArray) = (List.replicate k.toNat its).flatten.toArray := by
    have f0 : ∀ m : Nat, List.foldl (fun x1 x2 => x1 ++ x2) #[] (List.replicate m its.toArray) = (List.replicate m its).flatten.toArray := fun m => by
      have := foldl_rep its m []
      rw [List.nil_append] at this
      exact this
    rw [f0]
    cases its with
    | nil => simp
    | cons a r' => rw [if_neg (by simp)]
  refine wpAny_binaryOp_repeat_ref (T := "list") (U := "int") (by decide) ⟨_, e, rfl⟩ (fun s' => typeIs_int s' k t) noFill_list_mul F.fills_int_mul F.slot_int_rmul repeat_list F.slot_int_index.lookup
    (call_meets F.slot_int_rmul (typeIs_int s k t) F.entry_int_rmul (F.args_int_rmul_2 _ _) (int___rmul___int_list k t l its.toArray n)
      ⟨e, rfl, ⟨_, e, rfl⟩, call_meets F.slot_list_mul ⟨_, e, rfl⟩ F.entry_list_mul (F.args_list_mul_2 _ _) (AutoListH.list___mul___list_int_3 l its.toArray n k t hfit hcap hlong) ⟨e, ?_⟩⟩)
  rw [hnew]
  exact ⟨.ref _, _, I.lnew (t' := s.toks) (r.rep k.toNat) (by rw [len_rep, Nat.mul_comm]; exact hz), rfl, q _ I.fresh⟩

/-! ### del xs[i] -/
end

/-! ### xs[a:b] = ys -/
section
variable {prog : Program} {w : World} {A : Around} {E : Value → Shared → Prop} {s : Shared}
end

section
variable {X : Cx}
end
end L2

namespace Att
open PySem PySem.W PySem.Calls PyProof.Rows

/-! ### the script -/
theorem ints_of_wellAll {P : Params} {h : Heap} : ∀ (ns : List Int) (vs : List Value), WellAll P h vs (ns.map WData.int) → IntsAre vs ns := by
  intro ns
  induction ns with
  | nil =>
    intro vs w
    rw [List.map_nil] at w
    cases w
    exact .nil
  | cons n ns ih =>
    intro vs w
    rw [List.map_cons] at w
    cases w with
    | cons a b =>
      cases a
      exact .cons _ _ (ih _ b)

theorem script_of {l : OpenLaw} {n : Nat} (hn : l.most = some n) {P : Params} {h : Heap} {args : List WData} {vals : List Value}
    (hpre : l.row.toRowW.claim.pre args = true) (hwl : WellAll P h vals args) :
    ∃ a vs ns, vals = [Value.ref a] ∧ args = [WData.list (ns.map WData.int)] ∧ h.get? a = some { cls := .type "list", data := .seq vs.toArray } ∧ IntsAre vs ns ∧ ns.length ≤ n := by
  have hsh : WShape.hasAll [] args [.list .int] = true := (pre_splitW hpre).1
  have hc : l.pre.holds [] { args := args } = true := (pre_splitW hpre).2
  obtain ⟨d, r, rfl, h1, h2⟩ := hasAllW_cons hsh
  obtain rfl := hasAllW_nil h2
  obtain ⟨xs, rfl, h3⟩ := hasW_list h1
  obtain ⟨ns, rfl⟩ := items_int h3
  have hlen : ns.length ≤ n := by
    unfold OpenLaw.pre at hc
    have h4 : (WTm.not (.lt (.lit (.int (n : Int))) (.len (.arg 0)))).holds [] { args := [.list (ns.map .int)] } = true := by
      have h4 := (holds_andW hc).1
      rw [hn] at h4
      exact h4
    have h5 := condW_of h4 (w_not (w_lt w_lit (w_len_list (w_arg rfl))))
    rw [List.length_map] at h5
    refine Nat.le_of_not_lt fun q => ?_
    have q' : (n : Int) < ((ns.length : Nat) : Int) := by omega
    first
      | (rw [decide_eq_true q'] at h5; exact absurd h5 (by decide))
      | (simp at h5; omega)
  cases hwl with
  | cons w1 w2 =>
    cases w2
    cases w1 with
    | list ho hall => exact ⟨_, _, ns, rfl, rfl, ho, ints_of_wellAll ns _ hall, hlen⟩

theorem post_true (l : OpenLaw) (args : List WData) : l.row.toRowW.claim.post args (.bool true) args = true :=
  postW_of (r := l.row.toRowW) (X := (true == true))
    (show WShape.has [] (.bool true) .bool = true by first | rfl | decide | simp [WShape.has, WShape.arms, WShape.armsAll])
    (show (WTm.eq .res (.lit (.bool true))).value [] { args := args, res := some (.bool true), after := args } = some (.bool (true == true)) from w_eq_bool (w_res rfl) w_lit) rfl

/-! ### the attachment: holds_open's last premise (the goal 'hc' behind k_head) from a wpAny of the law's body -/

/-- the same from a codeAny of the CALL (for a layer whose function contracts speak of calls) -/
theorem attach_call {l : OpenLaw} {n : Nat} {q : Program} {loose : List Str} {XP : (Str → Option Value) → Heap → Prop} {YP : World → Heap → Prop} {d : DefRec}
    (hn : l.most = some n) (hdf : d.params.defaults = [])
    (call : ∀ (w : World) (s₀ s₁ : Shared) (mg mb : Str → Option Value) (fa : Addr) (o : Obj) (pm cd doc : Value) (a : Addr) (vs : List Value) (ns : List Int),
      Ground q loose [] XP w s₀ mg mb s₁.heap → YP w s₁.heap →
      s₁.heap.get? fa = some o → o.data = .func (docDef d.name d.params d.body d.scope pm cd doc) → s₁.heap.CodeRec cd d.name → mg d.name = some (.ref fa) →
      s₁.heap.get? a = some { cls := .type "list", data := .seq vs.toArray } → IntsAre vs ns → ns.length ≤ n → s₁.gens = #[] →
      codeAny (model l.prog w) callerA (.call (.ref fa) ⟨[.ref a], []⟩) (fun r s' => r = .ok (.ret (.bool true)) ∧ OldK s₁.heap s'.heap ∧ s'.os = s₁.os ∧ AllBare s'.gens) s₁) :
    WalkO q loose XP YP l.row.toRowW d [] (fun f vs => PySem.call f vs) := by
  intro w s₀ s₁ mg mb G Y fa o pm cd doc dV kV ho hd hcd hD hmg hg args vals as hpre hlay hrd hwl hlo
  obtain rfl : dV = .none := Dflts.none hD hdf
  obtain rfl : kV = .none := Dflts.noKw hD
  obtain ⟨a, vs, ns, rfl, rfl, hobj, hints, hlen⟩ := script_of hn hpre hwl
  refine enter_call (codeAny_mono (call w s₀ s₁ mg mb fa o pm cd doc a vs ns G Y ho (fd_plain hd) hcd hmg hobj hints hlen hg) fun r s' hq => ?_)
  obtain ⟨rfl, h2, h3, h4⟩ := hq
  exact ⟨.inl ⟨.bool true, .bool true, [], rfl, fun _ => rfl, .bool true, post_true l _, fun _ => ⟨List.Pairwise.nil, fun _ hm => (nomatch hm)⟩⟩, h2, h3, h4⟩


/-! ### rules over ANY heap (no ledger) from facts about the written part K: the library's own take a ledger (News) for what they write -/
section
variable {prog : Program} {w : World} {A : Around} {E : Value → Shared → Prop} {s : Shared} {K : Frag}





/-! the whole heap as the ledger: makes every rule that writes through a ledger a rule over any heap -/

end
end Att

namespace L2
open PySem PySem.Spec PyProof.Rows

theorem vals_ints : ∀ {vs : List Value} {ns : List Int}, IntsAre vs ns → Vals (ns.map V.int) vs
  | _, _, .nil => .nil
  | _, _, .cons n t h => .cons ⟨t, rfl⟩ (vals_ints h)

/-- nothing is tracked but the script, known to the object (or it is an object of the module) -/
def Only (H : Hp) : Prop := ∀ b, H b = none ∨ ∃ o xs, H b = some (.frz o (.lst xs))

/-- THE HEAD: the law's promise, at the heap behind the top. F, the promise of the law's def, may use that base is part of the heap (so K.In base, base.Ns mainGlobals mg stand in Mod) -/
theorem law_call {P : Program} {w : World} {K : PySem.W.Frag} {mg mb : Str → Option Value} {CX : CXT} {k : Nat} {fa a : Addr} {fd : FuncData} {x : Str} {sp : Sp} {s₁ : Shared} {vs : List Value} {ns : List Int}
    (KX : K.In s₁.heap) (hns : s₁.heap.Ns mainGlobals mg) (hb : s₁.heap.Ns builtinsNs mb) (hbb : ∀ x : Str, x ≠ "__name__" → mb x = bootBuiltins x) (hlim : s₁.heap.NoLimit) (hg : s₁.gens = #[])
    (ha : s₁.heap.get? a = some { cls := .type "list", data := .seq vs.toArray }) (hi : IntsAre vs ns) (hl : ns.length ≤ sizeLine) (hr : Room k callerA)
    (F : ∀ base : Heap, K.In base → base.Ns mainGlobals mg → FnOk P w K mg base CX k fa fd [x] sp) (hbind : ∀ (s : Shared) (u : Value), BindsTo s fd ⟨[u], []⟩ [(x, u)])
    (hsp : ∀ H : Hp, Only H → SqL K H a (ns.map V.int) → sp [.ref a] H (fun v _ => v = .bl true) fun _ _ _ => False)
    (hCX : ∀ H e s', CX [] H s₁ (fun _ _ _ => False) e s' → False) :
    codeAny (model P w) callerA (.call (.ref fa) ⟨[.ref a], []⟩) (fun r s' => r = .ok (.ret (.bool true)) ∧ OldK s₁.heap s'.heap ∧ s'.os = s₁.os ∧ AllBare s'.gens) s₁ := by
  have rv := vals_ints hi
  have lenV := hi.length
  -- from an abstract heap in which nothing but the script may be tracked
  have core : ∀ H : Hp, Only H → SqL K H a (ns.map V.int) → HOk P w H s₁.heap → (∀ b, H b ≠ none → b = a) → (H a ≠ none → K.lookup a = none) →
      codeAny (model P w) callerA (.call (.ref fa) ⟨[.ref a], []⟩) (fun r s' => r = .ok (.ret (.bool true)) ∧ OldK s₁.heap s'.heap ∧ s'.os = s₁.os ∧ AllBare s'.gens) s₁ := by
    intro H hO hS hok hA hK
    have base_of : ∀ {b : Addr} {o : Obj}, s₁.heap.get? b = some o → H b = none → (hidT s₁.heap H).get? b = some o := fun e n => hidT_get e n
    have noA : ∀ {b : Addr} {o : Obj} {es : Array DictEntry} {ep : Nat}, s₁.heap.get? b = some o → o.data = .dict es ep → H b = none := fun {b o es ep} e d => by
      cases q : H b with
      | none => rfl
      | some u =>
        have e' : b = a := hA b (by rw [q]; simp)
        subst e'
        rw [ha] at e; cases e
        have d' : Data.seq vs.toArray _ = Data.dict es ep := d
        cases d'
    have nsK : ∀ {b : Addr} {m : Str → Option Value}, s₁.heap.Ns b m → (hidT s₁.heap H).Ns b m := fun {b m} ⟨o, es, ep, e, d, r⟩ => ⟨o, es, ep, base_of e (noA e d), d, r⟩
    have hKb : K.In (hidT s₁.heap H) := fun b o e => base_of (KX b o e) (by
      cases q : H b with
      | none => rfl
      | some u =>
        have e' : b = a := hA b (by rw [q]; simp)
        subst e'
        rw [hK (by rw [q]; simp)] at e; cases e)
    have hM : Mod K mg (hidT s₁.heap H) := ⟨hKb, nsK hns, ⟨mb, nsK hb, hbb⟩, let ⟨mc, h1, h2⟩ := hlim; ⟨mc, nsK h1, h2⟩⟩
    have e0 : Env0 P w K mg (hidT s₁.heap H) callerA [] s₁ H := ⟨rfl, hM, fun b o e => of_hidT e, Nat.le_of_eq (hidT_size _ _), trivial, fun b hb => absurd (show b ∈ ([] : List Addr) from hb) (by simp), hok, .of_eq hg⟩
    refine codeAny_mono ((F _ hKb (nsK hns)).run callerA [] s₁ H ⟨[.ref a], []⟩ [.ref a] [.ref a] _ _ hr e0 (hbind s₁ (.ref a)) (.cons rfl .nil) (hsp H hO hS)) fun r s' h => ?_
    cases r with
    | error e => exact (hCX H e s' h).elim
    | ok fl =>
      cases fl with
      | next => exact False.elim h
      | brk => exact False.elim h
      | cont => exact False.elim h
      | ret u =>
        obtain ⟨v, H', os, bare, un, hok', r', q⟩ := h
        have q' : v = .bl true := q
        subst q'
        obtain rfl : u = Value.bool true := r'
        refine ⟨rfl, OldK.of_keep fun b o e => ?_, os, bare⟩
        cases q : H b with
        | none => exact un.keep b o e q (by intro z; exact absurd (show b ∈ ([] : List Addr) from z) (by simp)) (by simp)
        | some u =>
          rcases hO b with z | ⟨ob, xs, z⟩
          · rw [q] at z; cases z
          · have z2 := un.frzs b ob _ z
            obtain ⟨e1, _⟩ := hok b _ z
            obtain ⟨e2, _⟩ := hok' b _ z2
            rw [e] at e1; cases e1
            exact e2
  cases hk : K.lookup a with
  | some o =>
    -- the script is one of the module's own objects
    have e := KX a o hk
    rw [ha] at e
    cases e
    refine core (fun _ => none) (fun _ => .inl rfl) (.inr ⟨_, vs.toArray, _, hk, rfl, rfl, rfl, by rw [List.size_toArray, lenV]; exact hl, by simpa using rv⟩) (fun b u z => by have z' : (none : Option HO) = some u := z; cases z') (fun b z => absurd rfl z) fun z => absurd rfl z
  | none =>
    refine core (fun b => if b = a then some (.frz { cls := .type "list", data := .seq vs.toArray } (.lst (ns.map V.int))) else none) (fun b => ?_) (.inl (.inr ⟨{ cls := .type "list", data := .seq vs.toArray }, if_pos rfl⟩)) (fun b u z => ?_) (fun b z => ?_) fun _ => hk
    · by_cases hb : b = a
      · exact .inr ⟨_, _, if_pos hb⟩
      · exact .inl (if_neg hb)
    · by_cases hb : b = a
      · have z' := (if_pos hb).symm.trans z
        cases z'
        subst hb
        exact ⟨ha, by rw [List.length_map]; exact hl, vs, _, rv, ha⟩
      · have z' := (if_neg hb).symm.trans z
        cases z'
    · by_cases hb : b = a
      · exact hb
      · exact absurd (if_neg hb) z
end L2

namespace L2
open PySem PySem.Spec PyProof.Rows


/-- the goal that k_head leaves (case hc), from the law's promise. F gives the function object fd (K's own) once, then the promise over every base -/
theorem walk_of {l : PySem.W.OpenLaw} {n k : Nat} {q : Program} {loose : List Str} {XP : (Str → Option Value) → Heap → Prop} {YP : World → Heap → Prop} {d : DefRec} {K : Params → PySem.W.Frag} {CX : World → CXT} {sp : World → Sp} {x : Str}
    (hn : l.most = some n) (hn2 : n ≤ sizeLine) (hdf : d.params.defaults = []) (hr : Room k callerA)
    (hY : ∀ (w : World) (h : Heap), YP w h → (K w.params).In h)
    (F : ∀ (w : World) (mg : Str → Option Value) (fa : Addr) (h : Heap), (K w.params).In h → h.Ns mainGlobals mg → mg d.name = some (.ref fa) →
      ∃ fd : FuncData, (∀ (s : Shared) (u : Value), BindsTo s fd ⟨[u], []⟩ [(x, u)]) ∧
        ∀ base : Heap, (K w.params).In base → base.Ns mainGlobals mg → FnOk l.prog w (K w.params) mg base (CX w) k fa fd [x] (sp w))
    (hsp : ∀ (w : World) (H : Hp) (a : Addr) (ns : List Int), ns.length ≤ n → Only H → SqL (K w.params) H a (ns.map V.int) → sp w [.ref a] H (fun v _ => v = .bl true) fun _ _ _ => False)
    (hCX : ∀ (w : World) (H : Hp) (s : Shared) (e : Value) (s' : Shared), CX w [] H s (fun _ _ _ => False) e s' → False) :
    PySem.W.WalkO q loose XP YP l.row.toRowW d [] (fun f vs => PySem.call f vs) := by
  refine Att.attach_call hn hdf fun w s₀ s₁ mg mb fa o pm cd doc a vs ns G Y ho hd hcd hmg hobj hints hlen hg => ?_
  have KX := hY w _ Y
  obtain ⟨fd, hb, hF⟩ := F w mg fa _ KX G.T.g hmg
  exact law_call KX G.T.g G.T.b G.T.builtins G.T.nolimit hg hobj hints (Nat.le_trans hlen hn2) hr hF hb (fun H hO hS => hsp w H a ns hlen hO hS) fun H e s' => hCX w H s₁ e s'
end L2

/- THE LAST THEOREM (shape; LID, My.* are yours):
   My.Adr: a structure of the addresses that your layer names (classes, functions); My.Txt K t: a structure (Prop) of the equations over K;
   My.txt_mk : {K} {implicit addresses ..} (e1 : nsIn K mainGlobals "law" = some (some (.ref f))) (e2 : K.lookup f = some ⟨oc, od, .func (fnOf "law" "law" params body scope dV kV doc pm an cdv ct), sl⟩) (e3 : codeIn K cdv "law" = true) .. : ∃ t, My.Txt K t

set_option maxRecDepth 100000 in
set_option maxHeartbeats 0 in
theorem PySem.Challenge.cw_LID_holds : PySem.Challenge.rw_LID.Holds := by
  w_on; o_law; k_head; (case hw => w_witness2)
  k_fill
  refine L2.walk_of (l := PySem.Challenge.rw_LID) (n := 63) (k := 40) (x := "script") (CX := fun w => ..) (sp := fun _ => My.sp_law) rfl (by decide) rfl ⟨rfl, by decide, by decide⟩ (fun w h Y => PySem.W.kIn_of Y) ?F ?S ?C
  case F =>
    intro w mg fa h KX G hmg
    have T : ∃ t, My.Txt (L2.KOf KX) t := by
      dsimp only [L2.KOf]                          -- K must stand as «<heap const> w.params» for k_is
      refine' My.txt_mk ?e1 ?e2 ?e3 ..
      (case e1 => PySem.W.k_is)                    -- in the order: a name -> its address -> its object -> its parts
      (case e2 => PySem.W.k_is)
      ..
    obtain ⟨t, T⟩ := T
    have e0 := hmg.symm.trans (PySem.W.mg_of KX G T.law)
    cases e0                                       -- fa is the law's own address
    exact ⟨_, fun s u => .of_eq rfl, fun base kb nb => My.law_fn T kb nb⟩     -- if «.of_eq rfl» comes too early: refine' ⟨_, ?b, fun base kb nb => My.law_fn T kb nb⟩; exact fun s u => .of_eq rfl
  case S => exact fun w H a ns hl hO hS => ..
  case C => exact ..
(the tactic k_is has no namespace: write k_is) -/

/-! SHORT WORDS over the layer: a def of the text, its body, what a loop and a test want. -/
namespace L2
open PySem PySem.Spec PyProof.Rows

/-! ### the text by places -/
def defArgs (s : Stmt) : Arguments := match s with
  | .FunctionDef _ a _ _ _ _ _ _ _ _ => a
  | _ => { posonlyargs := [], args := [], vararg := none, kwonlyargs := [], kw_defaults := [], kwarg := none, defaults := [] }
def defBody (s : Stmt) : List Stmt := match s with
  | .FunctionDef _ _ b _ _ _ _ _ _ _ => b
  | _ => []
def defScope (s : Stmt) : Scope := match s with
  | .FunctionDef _ _ _ _ _ _ sc _ _ _ => sc
  | _ => { kind := .function, names := [], isGenerator := false, isCoroutine := false }

/-! ### no exception leaves a def -/
abbrev CX0 : CXT := fun _ _ _ _ _ _ => False
abbrev E0 : XK := fun _ _ _ => False
theorem pass0 {X : Cx} : Passes CX0 X E0 := fun _ _ _ _ _ _ _ h => h.elim

/-! ### a def (or method) of the text as it stands behind the top -/
structure Fun (K : PySem.W.Frag) (x qual : Str) (st : Stmt) (f : Addr) (fd : FuncData) : Prop where
  ex : ∃ (oc : Value) (od : Option Addr) (kV doc pm : Value) (an : Option Addr) (cdv ct : Value) (osl : Array (Option Value)),
    fd = PySem.W.fnOf x qual (defArgs st) (defBody st) (defScope st) .none kV doc pm an cdv ct ∧ K.lookup f = some ⟨oc, od, .func fd, osl⟩ ∧ PySem.W.codeIn K cdv qual = true
  kp : PySem.W.keepIn K (.ref f) = true
section
variable {P : Program} {w : World} {K : PySem.W.Frag} {mg : Str → Option Value} {base : Heap}
/-- THE RULE for a def: its body as a term of rules, and the reading of that term -/
theorem Fun.ok {x qual : Str} {st : Stmt} {f : Addr} {fd : FuncData} {N ps : List Str} {k : Nat} {sp : Sp} (F : Fun K x qual st f fd) (S : FnScope N ps (defScope st)) (len : ∀ vs H Q E, sp vs H Q E → vs.length = ps.length)
    (hbody : ∀ (cdv : Value) (A : Around) (outer : List Env) (s : Shared) (H : Hp) (vs : List V) (Q : VK) (E : XK), Room k (A.deeper (envOfC qual (defScope st) s.heap.objs.size f cdv)) → sp vs H Q E →
      ∃ t, PSs (cxOf CX0 P w K mg base N qual (defScope st) f cdv A outer s H E).nox (defBody st) t ∧ t { nx := fun _ H' => Q .non H', rt := Q } (start N vs) H) : FnOk P w K mg base CX0 (k + 1) f fd ps sp := by
  obtain ⟨oc, od, kV, doc, pm, an, cdv, ct, osl, rfl, lk, hcd⟩ := F.ex
  refine fn_of lk hcd S len fun A outer s H vs Q E hr hsp => ?_
  obtain ⟨t, h, q⟩ := hbody cdv A outer s H vs Q E hr hsp
  exact ⟨t, h.nox, q⟩
/-- how its arguments bind (no defaults): h is «fun _ _ _ _ _ _ us hl => match us, hl with | [_, _], _ => rfl», one _ a parameter -/
theorem Fun.binds {x qual : Str} {st : Stmt} {f : Addr} {fd : FuncData} {ps : List Str} (F : Fun K x qual st f fd)
    (h : ∀ (kV doc pm : Value) (an : Option Addr) (cdv ct : Value) (us : List Value), us.length = ps.length → bindArgs (PySem.W.fnOf x qual (defArgs st) (defBody st) (defScope st) .none kV doc pm an cdv ct) ⟨us, []⟩ = pure (ps.zip us)) : Binds K fd ps [] := by
  obtain ⟨oc, od, kV, doc, pm, an, cdv, ct, osl, rfl, lk, hcd⟩ := F.ex
  exact .all (h kV doc pm an cdv ct)
theorem fun_mk {x qual : Str} {st : Stmt} {f : Addr} {oc : Value} {od an : Option Addr} {osl : Array (Option Value)} {kV doc pm cdv ct : Value} (l : K.lookup f = some ⟨oc, od, .func (PySem.W.fnOf x qual (defArgs st) (defBody st) (defScope st) .none kV doc pm an cdv ct), osl⟩)
    (c : PySem.W.codeIn K cdv qual = true) (k : PySem.W.keepIn K (.ref f) = true) : Fun K x qual st f (PySem.W.fnOf x qual (defArgs st) (defBody st) (defScope st) .none kV doc pm an cdv ct) := ⟨⟨oc, od, kV, doc, pm, an, cdv, ct, osl, rfl, l, c⟩, k⟩
end
theorem small1000 {n : Nat} (h : n ≤ 1000) : n < sizeLine := Nat.lt_of_le_of_lt h (by decide)

/-! ### expressions in short: the name that stands in the i-th slot -/
section
variable {X : Cx}
theorem pv (i : Nat) {x : Str} {pos : Pos} (hN : X.N[i]? = some x := by rfl) (hv : Vis X.env.scope x := by first | exact Or.inl rfl | exact Or.inr (Or.inl rfl) | exact Or.inr (Or.inr rfl)) (hd : (x == ("__debug__" : Str)) = false := by decide)
    (hcd : (x == ("__classdict__" : Str)) = false := by decide) : PE X (.Name x pos) (tVar i) := pe_var hN hv hd hcd
end

/-! ### tests -/
theorem iteF {A B : Prop} (h : B) : if false = true then A else B := by
  rw [if_neg Bool.false_ne_true]
  exact h
theorem iteT {A B : Prop} (h : A) : if true = true then A else B := by
  rw [if_pos rfl]
  exact h
theorem ite2 {c A B : Prop} [Decidable c] (h1 : c → A) (h2 : ¬ c → B) : if c then A else B := by
  by_cases h : c
  · rw [if_pos h]
    exact h1 h
  · rw [if_neg h]
    exact h2 h
theorem iteNS {c A B : Prop} [Decidable c] (hc : c) (h : B) : if (!decide c) = true then A else B := by
  rw [decide_eq_true hc]
  exact iteF h

/-! ### heaps -/
/-- all that was tracked is as it was -/
def Same (H H' : Hp) : Prop := ∀ b o, H b = some o → H' b = some o
theorem Same.trans {H H1 H2 : Hp} (a : Same H H1) (b : Same H1 H2) : Same H H2 := fun c o h => b c o (a c o h)
theorem Same.seq {K : PySem.W.Frag} {H H' : Hp} {a : Addr} {xs : List V} (e : Same H H') (h : SqL K H a xs) : SqL K H' a xs := by
  rcases h with (h | ⟨o, h⟩) | h
  · exact .inl (.inl (e _ _ h))
  · exact .inl (.inr ⟨o, e _ _ h⟩)
  · exact .inr h

end L2

set_option maxRecDepth 100000
set_option maxHeartbeats 4000000
namespace L2
open PySem PySem.Spec PyProof.Rows
end L2
namespace L2
open PySem PySem.Spec PyProof.Rows
section
variable (P : Program) (w : World)
end
section
variable {P : Program} {w : World} {H H' : Hp} {h h' : Heap} {a : Addr} {o : HO}
end
section
variable {P : Program} {w : World} {H : Hp} {h h' : Heap} {x e : Addr} {o' : HO}
end
section
variable {fs fs' ex ex' : List Addr} {H H1 H2 : Hp} {h h1 h2 h' : Heap} {a x e : Addr} {o : HO}
end
end L2
namespace L2
open PySem PySem.Spec PyProof.Rows
section
variable {X : Cx} {pins : List (Addr × Obj)} {σ : List (Option V)} {H H' : Hp} {s : Shared} {h' : Heap}
end
end L2
namespace L2
open PySem PySem.Spec PyProof.Rows
section
variable {X : Cx}
variable {a b : Expr} {ta tb : TE} {pos : Pos}
variable {tA tB' : TT} {rest : List Expr}
end
end L2
namespace L2
open PySem PySem.Spec PyProof.Rows
section
variable {X : Cx} {pins : List (Addr × Obj)} {σ : St} {H : Hp} {s : Shared} {a : Addr} {xs ys : List V}
end
section
variable {X : Cx} {pins : List (Addr × Obj)} {σ : St} {H : Hp} {s : Shared} {E : Value → Shared → Prop}
end
section
variable {X : Cx} {st : Stmt} {rest : List Stmt} {t u : TS} {e : Expr} {te : TE} {pos : Pos}
end
section
variable {X : Cx} {pos : Pos}
end
section
variable {X : Cx} {pos : Pos}
end
end L2
namespace L2
open PySem PySem.Spec PyProof.Rows
section
variable {X : Cx} {tg : Expr}
end
end L2
namespace L2
open PySem PySem.Spec PyProof.Rows
section
variable {X : Cx} {a b c : Expr} {ta tb tc : TE} {pos : Pos}
end
section
variable {X : Cx} {a b c : Expr} {ta tb tc : TE} {pos : Pos}
end
end L2
namespace L2
open PySem PySem.Spec PyProof.Rows
section
variable {prog : Program} {w : World} {A : Around} {E : Value → Shared → Prop} {s : Shared} {K : PySem.W.Frag} {x dx C f : Addr} {mA : Str → Option Value} {name : Str} {v : Value}
end
section
variable {P : Program} {w : World} {H H' : Hp} {h h' : Heap} {a C dx : Addr} {fs fs' : List (Str × V)}
end
section
variable {X : Cx} {pins : List (Addr × Obj)} {σ : St} {H : Hp} {s : Shared} {a C dx : Addr} {fs : List (Str × V)} {f : Str} {v : V} {A : Around} {E : Value → Shared → Prop}
end
section
variable {X : Cx} {o e value : Expr} {f : Str} {pos pos' tpos : Pos} {ta tv : TE}
end
section
variable {X : Cx} {pins : List (Addr × Obj)} {σ : St} {H : Hp} {s : Shared} {A : Around} {E : Value → Shared → Prop} {Q : Value → Shared → Prop} {c : Value} {b : Bool}
end
end L2
namespace L2
open PySem PySem.Spec PyProof.Rows
section
variable {X : Cx} {e : Expr} {es : List Expr} {te : TE} {t : TA} {pos : Pos}
end
section
variable {X : Cx} {pins : List (Addr × Obj)} {σ : St} {H : Hp} {s s' : Shared}
end
section
variable {X : Cx} {CX : CXT} {k : Nat} {f C : Addr} {fd : FuncData} {ps : List Str} {sp : Sp} {dvs : List V} {ds : List Value} {E : XK} {x m : Str} {p pos apos : Pos} {e o : Expr} {es : List Expr} {ta : TE} {t : TA}
end
section
variable {X : Cx} {CX : CXT} {k : Nat} {f C : Addr} {fd : FuncData} {ps ks : List Str} {sp : Sp} {E : XK} {x m : Str} {p pos apos kpos : Pos} {e o : Expr} {es : List Expr} {kws : List Keyword} {te ta : TE} {t tk : TA} {nm : Option Str}
variable {g : List Value → List Value → List Value} {gV : List V → List V → List V}
end
end L2
namespace L2
open PySem PySem.Spec PyProof.Rows
section
variable {X : Cx} {x : Str} {p pos : Pos} {e : Expr} {es : List Expr} {t : TA} {id T : String} {r : List V → Hp → VK → Prop}
end
end L2
namespace L2
open PySem PySem.Spec PyProof.Rows
section
variable {κ : Type} [DecidableEq κ]
end
section
variable {P : Program} {w : World} {H : Hp} {h : Heap} {a : Addr}
end
section
variable {X : Cx} {pins : List (Addr × Obj)} {σ : St} {H : Hp} {s : Shared} {a : Addr} {y v : V} {u r : Value} {o : Option V} {A : Around} {E : Value → Shared → Prop}
end
section
variable {X : Cx} {pins : List (Addr × Obj)} {σ : St} {H : Hp} {s : Shared} {a : Addr} {kvs : List (Key × V)} {k : Key} {u : Value} {A : Around} {E : Value → Shared → Prop}
end
section
variable {X : Cx} {o i e value : Expr} {pos pos' tpos : Pos} {td ty tv : TE}
end
section
variable {X : Cx} {pos : Pos}
end
section
variable {X : Cx} {pins : List (Addr × Obj)} {σ : St} {H : Hp} {s : Shared} {a : Addr} {y d : V} {u r : Value} {o : Option V} {A : Around} {E : Value → Shared → Prop}
end
section
variable {X : Cx} {o e f : Expr} {apos cpos : Pos} {td ty tx : TE}
end
section
variable {X : Cx} {pins : List (Addr × Obj)} {σ : St} {H : Hp} {s : Shared} {a : Addr} {kvs : List (Key × V)} {A : Around} {E : Value → Shared → Prop}
end
section
variable {X : Cx} {pins : List (Addr × Obj)} {σ : St} {H : Hp} {s : Shared} {a : Addr} {y : V} {u : Value} {A : Around} {E : Value → Shared → Prop}
end
end L2
namespace Att
open PySem PySem.W PySem.Calls PyProof.Rows
section
variable {prog : Program} {w : World} {A : Around} {E : Value → Shared → Prop} {s : Shared} {K : Frag}
end
end Att
namespace L2
open PySem PySem.Spec PyProof.Rows
end L2
namespace L2
open PySem PySem.Spec PyProof.Rows
end L2
namespace L2
open PySem PySem.Spec PyProof.Rows
section
variable {P : Program} {w : World} {K : PySem.W.Frag} {mg : Str → Option Value} {base : Heap}
end
section
variable {X : Cx}
end
section
variable {κ : Type} [DecidableEq κ]
end
end L2

namespace L2
open PySem PySem.Spec PyProof.Rows
/-! ### a list comprehension of one clause without a test -/
/-- the cells that the block is handed -/
def clOf (env : Env) (fr : List (Str × Nat)) : List (Str × Addr) := fr.map fun p => (p.1, (env.cells.lookup p.1).getD 0)
/-- what the names from outside are worth -/
def frOf (fr : List (Str × Nat)) (σ : St) : St := fr.map fun p => (σ[p.2]?).join
/-- the context of the block -/
def cxComp (X : Cx) (scope : Scope) (fr : List (Str × Nat)) (x : Str) (C : Addr) (ex : List Addr) (s : Shared) (H : Hp) : Cx where
  prog := X.prog
  w := X.w
  K := X.K
  mg := X.mg
  base := X.base
  A := X.A
  N := x :: fr.map (·.1)
  s₀ := s
  H₀ := H
  env := compEnvC scope (clOf X.env fr) C X.env
  outer := X.stack
  stack := X.stack
  ex := ex
  fn := fun _ => false
  calm := X.calm
  pn := []
  xe := fun _ _ => False
/-- what the text must show of the block's names -/
structure CompOk (X : Cx) (scope : Scope) (fr : List (Str × Nat)) (x : Str) : Prop where
  clos : closureFor scope X.env = pure (clOf X.env fr)
  cell : ∀ y ∈ scope.names, y.2 ≠ .cell
  kind : scope.kind = .function
  names : ∀ y ∈ scope.names, y.2 = .local → scope.names.lookup y.1 = some .local
  xl : scope.names.lookup x = some .local
  nd : (x :: fr.map (·.1)).Nodup
  slot : ∀ p ∈ fr, X.N[p.2]? = some p.1 ∧ X.env.kindOf p.1 = some .cell
  has : ∀ y ∈ (relabel scope X.env).names, (y.2 = .cell ∨ y.2 = .free) → y.1 ∈ fr.map (·.1)
  frk : ∀ p ∈ fr, (relabel scope X.env).names.lookup p.1 = some .cell
theorem CompOk.plain {X : Cx} {scope : Scope} {x : Str} (clos : closureFor scope X.env = pure []) (cell : ∀ y ∈ scope.names, y.2 ≠ .cell) (kind : scope.kind = .function) (names : ∀ y ∈ scope.names, y.2 = .local → scope.names.lookup y.1 = some .local)
    (hx : scope.names.lookup x = some .local) (nf : ∀ y ∈ scope.names, y.2 ≠ .free) : CompOk X scope [] x where
  clos := clos
  cell := cell
  kind := kind
  names := names
  xl := hx
  nd := by simp
  slot := fun p hp => nomatch hp
  has := fun y hy hk => by
    obtain ⟨⟨n, k⟩, hz, e⟩ := List.mem_map.mp (show y ∈ scope.names.map _ from hy)
    have h1 := nf _ hz
    have h2 := cell _ hz
    dsimp only at e h1 h2
    have hf : (k == NameKind.free) = false := by simpa using h1
    rw [hf] at e
    simp only [Bool.false_and, Bool.false_eq_true, if_false] at e
    subst e
    exact (hk.elim h2 h1).elim
  frk := fun p hp => nomatch hp
theorem CompOk.one {X : Cx} {scope : Scope} {x y : Str} {j : Nat} (clos : closureFor scope X.env = pure (clOf X.env [(y, j)])) (cell : ∀ y ∈ scope.names, y.2 ≠ .cell) (kind : scope.kind = .function) (names : ∀ y ∈ scope.names, y.2 = .local → scope.names.lookup y.1 = some .local)
    (hx : scope.names.lookup x = some .local) (nd : ([x, y] : List Str).Nodup) (hN : X.N[j]? = some y) (hk : X.env.kindOf y = some .cell) (nf : ∀ z ∈ scope.names, z.2 = .free → z.1 = y) (hr : (relabel scope X.env).names.lookup y = some .cell) : CompOk X scope [(y, j)] x where
  clos := clos
  cell := cell
  kind := kind
  names := names
  xl := hx
  nd := nd
  slot := fun p hp => by
    have e : p = (y, j) := by simpa using hp
    subst e
    exact ⟨hN, hk⟩
  has := fun z hz hk => by
    obtain ⟨⟨n, k⟩, hm, e⟩ := List.mem_map.mp (show z ∈ scope.names.map _ from hz)
    have h2 := cell _ hm
    dsimp only at e h2
    have hn : z.1 = n := by rw [← e]; split <;> rfl
    have hf : k = .free := by
      by_cases q : k = .free
      · exact q
      · have hb : (k == NameKind.free) = false := by simpa using q
        rw [hb] at e
        simp only [Bool.false_and, Bool.false_eq_true, if_false] at e
        subst e
        exact (hk.elim h2 q).elim
    have := nf _ hm hf
    rw [hn]
    simp [← this]
  frk := fun p hp => by
    have e : p = (y, j) := by simpa using hp
    subst e
    exact hr
theorem lookup_map_fst {env : Env} : ∀ {fr : List (Str × Nat)} {y : Str} {c : Addr}, (clOf env fr).lookup y = some c → y ∈ fr.map (·.1) ∧ c = (env.cells.lookup y).getD 0
  | [], _, _, h => by cases h
  | p :: r, y, c, h => by
    unfold clOf at h
    rw [List.map_cons, List.lookup_cons] at h
    cases e : y == p.1 with
    | true =>
      rw [e] at h
      have ey : y = p.1 := eq_of_beq e
      cases h
      exact ⟨by rw [ey]; exact List.mem_cons_self, by rw [ey]⟩
    | false =>
      rw [e] at h
      obtain ⟨a, b⟩ := lookup_map_fst (env := env) (fr := r) h
      exact ⟨List.mem_cons_of_mem _ a, b⟩
theorem lookup_map_some {env : Env} : ∀ {fr : List (Str × Nat)} {y : Str}, y ∈ fr.map (·.1) → (clOf env fr).lookup y = some ((env.cells.lookup y).getD 0)
  | [], _, h => by cases h
  | p :: r, y, h => by
    unfold clOf
    rw [List.map_cons, List.lookup_cons]
    cases e : y == p.1 with
    | true =>
      have ey : y = p.1 := eq_of_beq e
      rw [ey]
    | false =>
      have ny : y ≠ p.1 := fun z => by rw [z] at e; simp at e
      rcases List.mem_cons.mp h with z | z
      · exact absurd z ny
      · exact lookup_map_some (env := env) (fr := r) z
section
variable {X : Cx} {pins : List (Addr × Obj)} {σ : St} {H : Hp} {s : Shared} {scope : Scope} {fr : List (Str × Nat)} {x : Str}
/-- a cell of the block is a cell of the body around -/
theorem CompOk.cells (O : CompOk X scope fr x) (I : Inv X pins σ H s) {y : Str} {c : Addr} (h : (clOf X.env fr).lookup y = some c) : X.env.cells.lookup y = some c := by
  obtain ⟨hm, e⟩ := lookup_map_fst h
  obtain ⟨p, hp, ep⟩ := List.mem_map.mp hm
  have k := (O.slot p hp).2
  rw [ep] at k
  obtain ⟨c', e'⟩ := I.ok.has y (.inl k)
  rw [e'] at e
  rw [e', e]
  rfl
/-- the state at the block's head -/
theorem inv_comp {fp : List Addr} (O : CompOk X scope fr x) (I : Inv X pins σ H s) (hf : ∀ b ∈ fp, FpOk X pins H b) (hfs : ∀ b ∈ fp, b < s.heap.objs.size) {g h' : Heap} {tk : Nat} (hg : g = s.heap.push (LCg.lst []))
    (hk : ∀ b o, g.get? b = some o → h'.get? b = some o) (hC : h'.Ns g.objs.size fun _ => none) :
    Inv (cxComp X scope fr x g.objs.size (s.heap.objs.size :: fp) { s with heap := g } H) (X.pn ++ pins ++ [(s.heap.objs.size, LCg.lst [])]) (none :: frOf fr σ) H { s with heap := h', toks := tk } := by
  have hsz : g.objs.size = s.heap.objs.size + 1 := by rw [hg, Heap.size_push]
  have kp : ∀ b o, s.heap.get? b = some o → g.get? b = some o := fun b o e => by rw [hg]; exact Heap.get?_push_of_some _ e
  have hk0 : ∀ b o, s.heap.get? b = some o → h'.get? b = some o := fun b o e => hk b o (kp b o e)
  have hDo : h'.get? s.heap.objs.size = some (LCg.lst []) := hk _ _ (by rw [hg]; exact Heap.get?_push_size _ rfl)
  have neC : ∀ b, b < s.heap.objs.size → b ≠ g.objs.size := fun b e => by rw [hsz]; exact Nat.ne_of_lt (Nat.lt_succ_of_lt e)
  have hDC : s.heap.objs.size ≠ g.objs.size := by rw [hsz]; exact Nat.ne_of_lt (Nat.lt_succ_self _)
  have hfr : H g.objs.size = none := I.hok.fresh (by rw [hsz]; exact Nat.le_succ _)
  have hfD : H s.heap.objs.size = none := I.hok.fresh (Nat.le_refl _)
  have cne : ∀ y c, X.env.cells.lookup y = some c → c < s.heap.objs.size := fun y c e => by
    obtain ⟨v, q⟩ := I.cell y c e
    exact q.lt
  have nst : ∀ b, b ≠ X.env.locals → b ∉ X.fs → b ∉ frs X.stack := fun b h1 h2 z => (List.mem_cons.mp (I.stkSub b z)).elim h1 h2
  have nstD : s.heap.objs.size ∉ frs X.stack := nst _ (Nat.ne_of_gt I.lt) (I.nofs (Nat.le_refl _))
  refine ⟨⟨I.ok.mod, O.kind, I.ok.glob, I.ok.blt, Nat.le_refl _, ?_, ?_, fun _ _ z _ => (by cases z), I.ok.hd, I.ok.frames, .inl rfl, ?_, ?_, ?_, ?_, ?_, ?_, I.stkFree⟩, rfl, I.bare, Un.kept hk, ?_, ?_, hfr, ?_, ?_, I.hok.kept hk0, ?_⟩
  · intro y z c h1 h2
    exact I.ok.inj y z c (O.cells I h1) (O.cells I h2)
  · intro y hy
    have hm : y ∈ fr.map (·.1) := by
      rcases hy with hy | hy
      · exact O.has (y, _) (PySem.mem_of_lookup hy) (.inl rfl)
      · exact O.has (y, _) (PySem.mem_of_lookup hy) (.inr rfl)
    exact ⟨_, lookup_map_some hm⟩
  · intro b hb
    rcases List.mem_cons.mp hb with rfl | hb
    · exact ⟨hDC, fun y c e => Nat.ne_of_lt (cne y c (O.cells I e))⟩
    · exact ⟨neC b (hfs b hb), fun y c e => (hf b hb).2.2.2.2.1 y c (O.cells I e)⟩
  · intro b o e
    exact ⟨kp b o (I.bs b o e).1, (I.bs b o e).2⟩
  · show X.base.objs.size ≤ g.objs.size
    rw [hsz]
    exact Nat.le_succ_of_le (Nat.le_trans I.ok.bsz I.sz)
  · intro b o e hb
    rcases List.mem_cons.mp hb with z | hb
    · have := Heap.lt_size (I.bs b o e).1
      rw [z] at this
      exact Nat.lt_irrefl _ this
    · rcases (hf b hb).2.2.2.1 with z | z
      · exact I.ok.noex b o e z
      · exact absurd (Nat.lt_of_lt_of_le (Heap.lt_size (I.ok.bs b o e).1) z) (Nat.lt_irrefl _)
  · intro b hb
    rcases List.mem_cons.mp hb with z | hb
    · rw [z]; exact nstD
    · exact nst b (hf b hb).2.1 (hf b hb).2.2.1
  · exact (I.kept (h' := g) (t' := s.toks) kp).stack
  · refine ⟨_, hC, fun i y v e1 e2 e3 => ?_⟩
    cases i with
    | zero => cases e2
    | succ k =>
      have e1' : (fr.map (·.1))[k]? = some y := e1
      have e2' : (frOf fr σ)[k]? = some (some v) := e2
      unfold frOf at e2'
      rw [List.getElem?_map] at e1' e2'
      cases q : fr[k]? with
      | none => rw [q] at e1'; cases e1'
      | some p =>
        rw [q] at e1' e2'
        have ey : p.1 = y := Option.some.inj e1'
        have ev : (σ[p.2]?).join = some v := Option.some.inj e2'
        have hp : p ∈ fr := List.mem_of_getElem? q
        obtain ⟨hN, hK⟩ := O.slot p hp
        have hkk := O.frk p hp
        rw [ey] at hN hK hkk
        have ev' : σ[p.2]? = some (some v) := by
          cases q2 : σ[p.2]? with
          | none => rw [q2] at ev; cases ev
          | some w => rw [q2] at ev; exact congrArg some ev
        obtain ⟨m, hn, hl⟩ := I.loc
        obtain ⟨u, r, l⟩ := hl p.2 y v hN ev' (.inr (.inl hK))
        refine ⟨u, r, ?_⟩
        rcases l with ⟨k1, _⟩ | ⟨_, c, ec, z⟩
        · rw [hK] at k1; cases k1
        · have hm : y ∈ fr.map (·.1) := by rw [← ey]; exact List.mem_map.mpr ⟨p, hp, rfl⟩
          have el := lookup_map_some (env := X.env) hm
          rw [ec] at el
          exact .inr ⟨.inl hkk, c, el, by obtain ⟨o, ho, hd⟩ := z; exact ⟨o, hk0 _ _ ho, hd⟩⟩
  · intro y c e
    obtain ⟨v, o, ho, hd⟩ := I.cell y c (O.cells I e)
    exact ⟨v, o, hk0 _ _ ho, hd⟩
  · intro y c e
    exact I.freeC y c (O.cells I e)
  · intro p hp
    rcases List.mem_append.mp hp with hp | hp
    · cases hp
    · rcases List.mem_append.mp hp with hp | hp
      · obtain ⟨e, n, ne, nf, d⟩ := I.pin p hp
        exact ⟨hk0 _ _ e, n, neC _ (Heap.lt_size e), nst _ ne nf, d⟩
      · have ep : p = (s.heap.objs.size, LCg.lst []) := by simpa using hp
        subst ep
        exact ⟨hDo, hfD, hDC, nstD, fun v z => by cases z⟩
  · show (none :: frOf fr σ).length = (x :: fr.map (·.1)).length
    unfold frOf
    simp
/-- from the block's end back to the body around: the list is tracked, the block's names at C may still change -/
theorem inv_comp_end {fp : List Addr} {g : Heap} {s' : Shared} {H' : Hp} {σ' : St} {ys : List V} {us : List Value} (I : Inv X pins σ H s) (hf : ∀ b ∈ fp, FpOk X pins H b) (hg : g = s.heap.push (LCg.lst []))
    (J : Inv (cxComp X scope fr x g.objs.size (s.heap.objs.size :: fp) { s with heap := g } H) (X.pn ++ pins ++ [(s.heap.objs.size, LCg.lst us)]) σ' H' s') (hv : Vals ys us) (hl : ys.length ≤ sizeLine) :
    Inv X pins σ (upd H' s.heap.objs.size (.lst ys)) s' ∧ H' s.heap.objs.size = none ∧ FpOk X pins (upd H' s.heap.objs.size (.lst ys)) g.objs.size ∧ ∃ m, s'.heap.Ns g.objs.size m := by
  have hsz : g.objs.size = s.heap.objs.size + 1 := by rw [hg, Heap.size_push]
  have kp : ∀ b o, s.heap.get? b = some o → g.get? b = some o := fun b o e => by rw [hg]; exact Heap.get?_push_of_some _ e
  obtain ⟨eD, nD, _, _, _⟩ := J.pin (s.heap.objs.size, LCg.lst us) (by simp)
  have hDC : g.objs.size ≠ s.heap.objs.size := by rw [hsz]; exact Nat.ne_of_gt (Nat.lt_succ_self _)
  have nD' : ∀ b u, H' b = some u → b ≠ s.heap.objs.size := fun b u e z => by rw [z] at e; rw [e] at nD; cases nD
  have hx : ∀ b o, s.heap.get? b = some o → b ∉ fp → b ∉ s.heap.objs.size :: fp := fun b o e hb z => by
    rcases List.mem_cons.mp z with z | z
    · have := Heap.lt_size e
      rw [z] at this
      exact Nat.lt_irrefl _ this
    · exact hb z
  have bU : Un (frs X.stack) (s.heap.objs.size :: fp) H H' g s'.heap := J.base
  have ltD : ∀ b o, s.heap.get? b = some o → b ≠ s.heap.objs.size := fun b o e => Nat.ne_of_lt (Heap.lt_size e)
  have un : Un (frs X.stack) fp H (upd H' s.heap.objs.size (.lst ys)) s.heap s'.heap := by
    refine ⟨fun b o e n hb he => bU.keep b o (kp b o e) n hb (hx b o e he), fun b o e n hb he => bU.slot b o (kp b o e) n hb (hx b o e he), fun b o e n he => ?_, fun b o e he => bU.there b o (kp b o e) (hx b o e he), fun b xs e => ?_, fun b o u e => ?_, fun b ps e => ?_⟩
    · rw [upd_ne (ltD b o e)]; exact bU.free b o (kp b o e) n (hx b o e he)
    · have q := bU.tups b xs e
      rw [upd_ne (nD' b _ q)]; exact q
    · have q := bU.frzs b o u e
      rw [upd_ne (nD' b _ q)]; exact q
    · obtain ⟨more, q⟩ := bU.tbls b ps e
      exact ⟨more, by rw [upd_ne (nD' b _ q)]; exact q⟩
  have hok : HOk X.prog X.w (upd H' s.heap.objs.size (.lst ys)) s'.heap := fun b u e => by
    by_cases hb : b = s.heap.objs.size
    · rw [hb, upd_same] at e
      cases e
      rw [hb]
      exact ⟨hl, us, us.length, hv, eD⟩
    · rw [upd_ne hb] at e
      exact (J.hok b u e).stay (fun c v _ q => q) (fun c q => by rw [upd_ne (nD' c _ q)]; exact q) fun c xs q => by rw [upd_ne (nD' c _ q)]; exact q
  have os : s'.os = s.os := J.os
  refine ⟨I.call' os un hok J.bare fun b hb => ⟨(hf b hb).2.2.2.1, (hf b hb).2.1, (hf b hb).2.2.2.2⟩, nD, ?_, ?_⟩
  · refine I.fpOk (H' := upd H' s.heap.objs.size (.lst ys)) (b := g.objs.size) (by rw [hsz]; exact Nat.le_succ _) ?_
    rw [upd_ne hDC]
    exact J.free
  · obtain ⟨m, hn, _⟩ := J.loc
    exact ⟨m, hn⟩
end
/-- the reading: W by the turn, a measure, the items so far, the heap -/
def tCompR (te : TE) (fv : St) (J : It) (H1 : Hp) (QQ : List V → Hp → Prop) : Prop :=
  ∃ W : Nat → Nat → List V → Hp → Prop, (∃ m, W 0 m [] H1) ∧ ∀ i m ys H, W i m ys H → ys.length ≤ sizeLine ∧
    ((J.stop i H ∧ QQ ys H) ∨ (J.go i H ∧ ∃ N : V → Hp → Prop, (∀ y H2, N y H2 → ∃ m', m' < m ∧ W (i + 1) m' (ys ++ [y]) H2) ∧ ∀ x H', J.yld i H x H' → te (some x :: fv) H' N))
section
variable {X : Cx} {scope : Scope} {fr : List (Str × Nat)} {x : Str} {elt iter : Expr} {px pos : Pos} {te : TE} {wi : TI}
theorem comp_core {pins : List (Addr × Obj)} {σ : St} {H : Hp} {s : Shared} {E : Value → Shared → Prop} {it : Addr} {fp : List Addr} {tn : Nat → Heap → Prop} {J : It} {RR : Value → Addr → Result → Shared → Prop} {QQ : List V → Hp → Prop} (hc : X.calm = true) (O : CompOk X scope fr x)
    (he : ∀ C ex s H, PE (cxComp X scope fr x C ex s H) elt te) (I : Inv X pins σ H s) (T : Turn X.prog X.w X.K (.Name x px) J fp it tn) (st : tn 0 s.heap) (hf : ∀ b ∈ fp, FpOk X pins H b) (hq : tCompR te (frOf fr σ) J H QQ)
    (fin : ∀ D C H4 ys s4 m, Inv X pins σ (upd H4 D (.lst ys)) s4 → H4 D = none → FpOk X pins (upd H4 D (.lst ys)) C → s4.heap.Ns C m → QQ ys H4 → RR (.ref D) C (.ok .next) s4) :
    wpAny (model X.prog X.w) X.A (newList []) (fun acc s₃ => wpAny (model X.prog X.w) X.A (newFunctionEnv scope X.env.globals (clOf X.env fr) [] X.env.qual none .none (some X.env)) (fun cenv s₄ =>
      codeAny (model X.prog X.w) X.A (.compStart (.ListComp elt [⟨.Name x px, iter, [], 0⟩] scope pos) 0 (.ref it) acc { cenv with scope := relabel scope X.env }) (RR acc cenv.locals) s₄) E s₃) E s := by
  obtain ⟨W, ⟨m0, w0⟩, turn⟩ := hq
  have hfs : ∀ b ∈ fp, b < s.heap.objs.size := fun b hb => by
    obtain ⟨o, e, _⟩ := T.obj 0 s.heap st b hb
    exact Heap.lt_size e
  refine wpAny_newObj_type (wpAny_newFunctionEnv O.cell (by intro y hy; simp at hy) (fun h₁ hns₁ hsb₁ => ?_) O.kind)
  dsimp only at hns₁ hsb₁ ⊢
  generalize hH2 : s.heap.push { cls := .type "list", dict := none, data := .seq ([] : List Value).toArray } = g at hns₁ hsb₁ ⊢
  have hg : g = s.heap.push (LCg.lst []) := hH2.symm
  have hsz : g.objs.size = s.heap.objs.size + 1 := by rw [hg, Heap.size_push]
  have hk : ∀ b o, g.get? b = some o → h₁.get? b = some o := fun b o e => hsb₁.extBut b o (Nat.ne_of_lt (Heap.lt_size e)) (Heap.get?_push_of_some _ e)
  have kp : ∀ b o, s.heap.get? b = some o → h₁.get? b = some o := fun b o e => hk b o (by rw [hg]; exact Heap.get?_push_of_some _ e)
  have J0 := inv_comp (h' := h₁) (tk := s.toks + ([] : List (Str × Value)).length) O I hf hfs hg hk hns₁
  have stat : ∀ {H' : Hp} {us : List Value}, (∀ b ∈ fp, H' b = none) → ∀ b ∈ fp, FpOk (cxComp X scope fr x g.objs.size (s.heap.objs.size :: fp) { s with heap := g } H) (X.pn ++ pins ++ [(s.heap.objs.size, LCg.lst us)]) H' b := fun {H' us} hn b hb => by
    obtain ⟨_, f1, f2, f3, f4, f5⟩ := hf b hb
    refine ⟨hn b hb, ?_, fun z => (List.mem_cons.mp (I.stkSub b z)).elim f1 f2, .inl (List.mem_cons_of_mem _ hb), fun y c e => f4 y c (O.cells I e), fun p hp => ?_⟩
    · show b ≠ g.objs.size
      rw [hsz]; exact Nat.ne_of_lt (Nat.lt_succ_of_lt (hfs b hb))
    · rcases List.mem_append.mp hp with hp | hp
      · cases hp
      · rcases List.mem_append.mp hp with hp | hp
        · exact f5 p hp
        · have ep : p = (s.heap.objs.size, LCg.lst us) := by simpa using hp
          rw [ep]
          exact Nat.ne_of_gt (hfs b hb)
  have loop : codeAny (model X.prog X.w) X.A (.compLoop (.ListComp elt [⟨.Name x px, iter, [], 0⟩] scope pos) 0 (.ref it) (.ref s.heap.objs.size) (compEnvC scope (clOf X.env fr) g.objs.size X.env))
      (RR (.ref s.heap.objs.size) g.objs.size) { s with heap := h₁, toks := s.toks + ([] : List (Str × Value)).length } := by
    refine codeAny_compLoop_tests (fun n s' => ∃ i ys us H', Inv (cxComp X scope fr x g.objs.size (s.heap.objs.size :: fp) { s with heap := g } H) (X.pn ++ pins ++ [(s.heap.objs.size, LCg.lst us)]) (none :: frOf fr σ) H' s' ∧ Vals ys us ∧ tn i s'.heap ∧ (∀ b ∈ fp, H' b = none) ∧ W i n ys H') ?_ m0
      ⟨0, [], [], H, J0, .nil, T.keep 0 s.heap h₁ st fun b _ o e => kp b o e, fun b hb => (hf b hb).1, w0⟩
    rintro n s3 ⟨i, ys, us, H3, J3, hv, st3, fr3, w3⟩
    obtain ⟨hlen, hh⟩ := turn i n ys H3 w3
    have none_err : ∀ {α : Type} {t : Sem α} {Q : α → Shared → Prop} {E' : Value → Shared → Prop} {s : Shared}, wpAny (model X.prog X.w) X.A t Q (fun _ _ => False) s → wpAny (model X.prog X.w) X.A t Q E' s := fun h => wpAny_mono h (fun _ _ q => q) fun _ _ z => z.elim
    rcases hh with ⟨stop, qn⟩ | ⟨go, N, hN, step⟩
    · refine none_err (thn (T.done (cxComp X scope fr x g.objs.size (s.heap.objs.size :: fp) { s with heap := g } H) rfl rfl rfl hc i _ s3 _ H3 _ J3 (stat fr3) st3 stop) fun r s4 ⟨hr, J4⟩ => ?_)
      subst hr
      obtain ⟨I4, nD, fC, m, hn⟩ := inv_comp_end I hf hg J4 hv hlen
      exact fin _ _ H3 ys s4 m I4 nD fC hn qn
    · refine none_err (thn (T.item (cxComp X scope fr x g.objs.size (s.heap.objs.size :: fp) { s with heap := g } H) rfl rfl rfl hc i _ s3 _ H3 _ J3 (stat fr3) st3 go) fun r s4 ⟨u, hr, h4⟩ => ?_)
      subst hr
      have h4' := wpAny_bind (f := fun _ => assign (.Name x px) (compEnvC scope (clOf X.env fr) g.objs.size X.env) u) (thn h4 (Q' := fun _ s5 => wpAny (model X.prog X.w) X.A (assign (.Name x px) (compEnvC scope (clOf X.env fr) g.objs.size X.env) u) (fun _ s6 => ∃ (σ6 : St) (H6 : Hp) (v : V) (s5' : Shared) (H5 : Hp), Inv (cxComp X scope fr x g.objs.size (s.heap.objs.size :: fp) { s with heap := g } H) (X.pn ++ pins ++ [(s.heap.objs.size, LCg.lst us)] ++ pinsAt fp s5'.heap) σ6 H6 s6 ∧ σ6 = some v :: frOf fr σ ∧ H6 = H5 ∧ J.yld i H3 v H5 ∧ tn (i + 1) s5'.heap) (fun _ _ => False) s5) fun _ s5 ⟨v, H5, J5, r5, y5, st5, fr5⟩ => by
        have J5' := J5.pinned (stat fr5) (T.obj _ _ st5)
        have hNd : (cxComp X scope fr x g.objs.size (s.heap.objs.size :: fp) { s with heap := g } H).N.Nodup := O.nd
        have hxl : (cxComp X scope fr x g.objs.size (s.heap.objs.size :: fp) { s with heap := g } H).env.scope.names.lookup x = some .local := lookup_relabel_local O.xl
        exact thn (pg_name (X := cxComp X scope fr x g.objs.size (s.heap.objs.size :: fp) { s with heap := g } H) (i := 0) hNd rfl (.inl hxl) (.inr hxl) _ s5 _ H5 v u (fun σ6 H6 => σ6 = some v :: frOf fr σ ∧ H6 = H5) J5' r5 ⟨rfl, rfl⟩) fun _ s6 ⟨σ6, H6, J6, e6, e7⟩ => ⟨σ6, H6, v, s5, H5, J6, e6, e7, y5, st5⟩)
      refine none_err (thn h4' fun _ s6 ⟨σ6, H6, v, s5, H5, J6, e6, e7, y5, st5⟩ => ?_)
      subst e6 e7
      refine wpAny_tests_nil ?_
      rw [if_pos rfl]
      refine none_err (thn (he _ _ _ _ _ s6 _ H6 _ J6 (step v H6 y5)) fun u7 s7 ⟨v7, H7, J7, r7, q7⟩ => ?_)
      obtain ⟨m', hm, w7⟩ := hN v7 H7 q7
      obtain ⟨eD, nD, dC, dF, dd⟩ := J7.pin (s.heap.objs.size, LCg.lst us) (List.mem_append_right _ (List.mem_append_left _ (List.mem_append_right _ (by simp))))
      have hvl := hv.length
      refine append_at (hsz := by show us.toArray.size ≤ sizeLine; rw [List.size_toArray, ← hvl]; exact hlen) eD fun h8 hs8 hD8 => ?_
      have pinD : ∀ p ∈ X.pn ++ pins, p.1 ≠ s.heap.objs.size := fun p hp z => by
        have := Heap.lt_size (I.pin p hp).1
        rw [z] at this
        exact Nat.lt_irrefl _ this
      have J7a : Inv (cxComp X scope fr x g.objs.size (s.heap.objs.size :: fp) { s with heap := g } H) (X.pn ++ pins) _ H7 s7 := J7.pins_of fun p hp => J7.pin p (List.mem_append_right _ (List.mem_append_left _ (List.mem_append_left _ hp)))
      have J8 : Inv (cxComp X scope fr x g.objs.size (s.heap.objs.size :: fp) { s with heap := g } H) (X.pn ++ pins) _ H7 { s7 with heap := h8 } := J7a.turned (t' := s7.toks) (fun b o hb e => (hs8.2 b hb).trans e) nD dC (.inl List.mem_cons_self) (fun y c e z => by
        obtain ⟨w', q⟩ := I.cell y c (O.cells I e)
        have := q.lt
        rw [z] at this
        exact Nat.lt_irrefl _ this) (fun p hp => (List.mem_append.mp hp).elim (fun z => by cases z) (pinD p))
      have J9 : Inv (cxComp X scope fr x g.objs.size (s.heap.objs.size :: fp) { s with heap := g } H) (X.pn ++ pins ++ [(s.heap.objs.size, LCg.lst (us ++ [u7]))]) _ H7 { s7 with heap := h8 } := J8.pins_of fun p hp => by
        rcases List.mem_append.mp hp with hp | hp
        · exact J8.pin p (List.mem_append_right _ hp)
        · have ep : p = (s.heap.objs.size, LCg.lst (us ++ [u7])) := by simpa using hp
          subst ep
          exact ⟨hD8.trans (congrArg some (LCg.lst_snoc us u7)), nD, dC, dF, fun v z => by cases z⟩
      have J10 := J9.weak (σ' := none :: frOf fr σ) rfl fun i v e => by
        cases i with
        | zero => cases e
        | succ k => exact e
      have pinF : ∀ b ∈ fp, ∀ o, s5.heap.get? b = some o → s7.heap.get? b = some o ∧ H7 b = none := fun b hb o e => by
        obtain ⟨q1, q2, _⟩ := J7.pin (b, o) (List.mem_append_right _ (List.mem_append_right _ (mem_pinsAt hb e)))
        exact ⟨q1, q2⟩
      refine ⟨m', hm, i + 1, ys ++ [v7], us ++ [u7], H7, J10, hv.append (.cons r7 .nil), T.keep _ _ _ st5 fun b hb o e => (hs8.2 b (Nat.ne_of_lt (hfs b hb))).trans (pinF b hb o e).1, fun b hb => ?_, w7⟩
      obtain ⟨o, e, _⟩ := T.obj _ _ st5 b hb
      exact (pinF b hb o e).2
  exact codeAny_compStart_list loop (T.self X.A 0 _ _ _ (T.keep 0 s.heap h₁ st fun b _ o e => kp b o e) loop)
/-- [elt for x in iter] -/
def tComp (wi : TI) (te : TE) (fr : List (Str × Nat)) : TE := fun σ H Q => wi σ H fun J H1 => tCompR te (frOf fr σ) J H1 fun ys H2 => ∀ D, H2 D = none → Q (.ref D) (upd H2 D (.lst ys))
theorem pe_comp (hc : X.calm = true) (O : CompOk X scope fr x) (hi : PI X (.Name x px) iter wi) (he : ∀ C ex s H, PE (cxComp X scope fr x C ex s H) elt te) (hs : ∀ x, foldedSetIterable iter X.env x = pure x := by intro _; rfl) :
    PE X (.ListComp elt [⟨.Name x px, iter, [], 0⟩] scope pos) (tComp wi te fr) := by
  intro pins s σ H Q I h
  rw [eval_ListComp]
  refine wpAny_comprehension_free (use := none) rfl hs O.clos O.kind O.names (thn (hi pins s σ H _ I h) fun xv s1 h1 => thn h1 fun itv s2 h2 => ?_)
  obtain ⟨it, fp, tn, J, H2, e, I2, T, st2, f2, q2⟩ := h2
  subst e
  refine comp_core (RR := fun acc C => compPost (model X.prog X.w) X.A X.xe none (EP X pins σ Q) acc C) hc O he I2 T st2 f2 q2 ?_
  intro D C H4 ys s4 m I4 nD fC hn q4
  refine ⟨m, hn, fun h' hs' => ?_⟩
  obtain ⟨g0, g1, g2, g3, g4, g5⟩ := fC
  exact ⟨.ref D, _, I4.turned (t' := s4.toks) (fun b o hb e => (hs'.2 b hb).trans e) g0 g1 g3 g4 g5, rfl, q4 D nD⟩
/-- y = [elt for x in iter], y a plain local name -/
def tAsgComp (i : Nat) (wi : TI) (te : TE) (fr : List (Str × Nat)) : TS := fun D σ H => wi σ H fun J H1 => tCompR te (frOf fr σ) J H1 fun ys H2 => ∀ a, H2 a = none → D.nx (σ.set i (some (.ref a))) (upd H2 a (.lst ys))
theorem ps_setComp {i : Nat} {y : Str} {py spos : Pos} (hc : X.calm = true) (hN : X.N.Nodup) (hi' : X.N[i]? = some y) (hy : X.env.scope.names.lookup y = some .local) (O : CompOk X scope fr x) (hi : PI X (.Name x px) iter wi) (he : ∀ C ex s H, PE (cxComp X scope fr x C ex s H) elt te)
    (hsw : swapsWith (.ListComp elt [⟨.Name x px, iter, [], 0⟩] scope pos) (some (.Name y py)) spos.line X.env = pure true := by rfl) (hs : ∀ x, foldedSetIterable iter X.env x = pure x := by intro _; rfl) :
    PS X (.Assign [.Name y py] (.ListComp elt [⟨.Name x px, iter, [], 0⟩] scope pos) spos) (tAsgComp i wi te fr) := by
  intro pins s σ H D I h
  rw [exec_Assign_Name_used _ _ _ _ hsw]
  refine wpAny_bind (wpAny_standAt (wpAny_bind ?_))
  show wpAny _ X.A (do let _ ← comprehension (.ListComp elt [⟨.Name x px, iter, [], 0⟩] scope pos) scope X.env _ (newList []) false (eval iter X.env) (some (assign (.Name y py) X.env))) _ _ s
  refine wpAny_bind (thn (wpAny_comprehension_free (use := some (assign (.Name y py) X.env)) (Q := fun _ s' => SP X pins D .next s') rfl hs O.clos O.kind O.names (thn (hi pins s σ H _ I h) fun xv s1 h1 => thn h1 fun itv s2 h2 => ?_)) fun _ s' hq => wpAny_pure (wpAny_pure hq))
  obtain ⟨it, fp, tn, J, H2, e, I2, T, st2, f2, q2⟩ := h2
  subst e
  refine comp_core (RR := fun acc C => compPost (model X.prog X.w) X.A X.xe (some (assign (.Name y py) X.env)) (fun _ s' => SP X pins D .next s') acc C) hc O he I2 T st2 f2 q2 ?_
  intro a C H4 ys s4 m I4 nD fC hn q4
  obtain ⟨g0, g1, g2, g3, g4, g5⟩ := fC
  obtain ⟨oC, eC, hoC⟩ := LCg.ns_obj hn
  have I5 : Inv X (pins ++ [(C, oC)]) σ (upd H4 a (.lst ys)) s4 := I4.pins_of fun p hp => by
    rcases List.mem_append.mp hp with hp | hp
    · exact I4.pin p (List.mem_append_right _ hp)
    · have ep : p = (C, oC) := by simpa using hp
      subst ep
      obtain ⟨es, epp, hd, _⟩ := hoC
      exact ⟨eC, g0, g1, g2, fun v z => by rw [hd] at z; cases z⟩
  show wpAny _ X.A (assign (.Name y py) X.env (.ref a)) _ _ _
  refine wpAny_assign_Name (store_ok I5 hN hi' (.inl hy) (v := .ref a) rfl (fun s6 I6 => ?_) (.inr hy))
  obtain ⟨e6, _⟩ := I6.pin (C, oC) (List.mem_append_right _ (List.mem_append_right _ (by simp)))
  refine ⟨m, hoC.ns e6, fun h' hs' => ?_⟩
  exact ⟨_, _, I6.unpinned.turned (t' := s6.toks) (fun b o hb e => (hs'.2 b hb).trans e) g0 g1 g3 g4 g5, q4 a nD⟩
end
/-! ### the forms one uses -/
/-- over a list that stays as it is -/
theorem comp_list {K : PySem.W.Frag} {a : Addr} {xs : List V} {te : TE} {fv : St} {H1 : Hp} {QQ : List V → Hp → Prop} (Pv : Nat → List V → Hp → Prop) (hz : xs.length ≤ sizeLine) (h0 : Pv 0 [] H1) (hl : ∀ i ys H, i ≤ xs.length → Pv i ys H → SqL K H a xs)
    (hs : ∀ i x ys H, xs[i]? = some x → Pv i ys H → te (some x :: fv) H fun y H2 => Pv (i + 1) (ys ++ [y]) H2) (hd : ∀ ys H, ys.length = xs.length → Pv xs.length ys H → QQ ys H)
    : tCompR te fv (Itl K a) H1 QQ := by
  refine ⟨fun i m ys H => m = xs.length - i ∧ i ≤ xs.length ∧ ys.length = i ∧ Pv i ys H, ⟨xs.length, by simp, Nat.zero_le _, rfl, h0⟩, ?_⟩
  rintro i m ys H ⟨rfl, hi, hy, p⟩
  have q := hl i ys H hi p
  refine ⟨by omega, ?_⟩
  by_cases hlt : i < xs.length
  · refine .inr ⟨⟨xs, xs[i], q, by simp [hlt]⟩, fun y H2 => Pv (i + 1) (ys ++ [y]) H2, fun y H2 p2 => ⟨xs.length - (i + 1), by omega, rfl, hlt, by rw [List.length_append, hy]; rfl, p2⟩, fun x H' y => ?_⟩
    obtain ⟨e, y⟩ := y
    subst e
    exact hs i x ys _ (y xs q) p
  · have e : i = xs.length := by omega
    subst e
    exact .inl ⟨⟨xs, q, Nat.le_refl _⟩, hd ys H hy p⟩
theorem comp_range {lo : Int} {n : Nat} {te : TE} {fv : St} {H1 : Hp} {QQ : List V → Hp → Prop} (Pv : Nat → List V → Hp → Prop) (hz : n ≤ sizeLine) (h0 : Pv 0 [] H1)
    (hs : ∀ i ys H, i < n → Pv i ys H → te (some (.int (lo + i)) :: fv) H fun y H2 => Pv (i + 1) (ys ++ [y]) H2) (hd : ∀ ys H, ys.length = n → Pv n ys H → QQ ys H)
    : tCompR te fv (Itr lo n) H1 QQ := by
  refine ⟨fun i m ys H => m = n - i ∧ i ≤ n ∧ ys.length = i ∧ Pv i ys H, ⟨n, by simp, Nat.zero_le _, rfl, h0⟩, ?_⟩
  rintro i m ys H ⟨rfl, hi, hy, p⟩
  refine ⟨by omega, ?_⟩
  by_cases hlt : i < n
  · refine .inr ⟨hlt, fun y H2 => Pv (i + 1) (ys ++ [y]) H2, fun y H2 p2 => ⟨n - (i + 1), by omega, rfl, hlt, by rw [List.length_append, hy]; rfl, p2⟩, fun x H' y => ?_⟩
    obtain ⟨e, y⟩ := y
    subst e y
    exact hs i ys _ hlt p
  · have e : i = n := by omega
    subst e
    exact .inl ⟨Nat.le_refl _, hd ys H hy p⟩
end L2

namespace L2
open PySem PySem.Spec PyProof.Rows
theorem bt_list : bootBuiltins "list" = some (.type "list") := by decide +kernel
theorem bt_tuple : bootBuiltins "tuple" = some (.type "tuple") := by decide +kernel
theorem bt_len : bootBuiltins "len" = some (.builtin "len") := by decide +kernel
theorem bt_range : bootBuiltins "range" = some (.type "range") := by decide +kernel
theorem bt_isinstance : bootBuiltins "isinstance" = some (.builtin "isinstance") := by decide +kernel
theorem bt_enumerate : bootBuiltins "enumerate" = some (.type "enumerate") := by decide +kernel
/-! ### a callee, all that a call asks -/
structure Cal (P : Program) (w : World) (K : PySem.W.Frag) (mg : Str → Option Value) (base : Heap) (k : Nat) (x : Str) (ps : List Str) (sp : Sp) (f : Addr) (fd : FuncData) : Prop where
  ok : FnOk P w K mg base CX0 k f fd ps sp
  bn : Binds K fd ps []
  mg : mg x = some (.ref f)
  kp : PySem.W.keepIn K (.ref f) = true
/-! ### a block by what one asks of it -/
theorem pss_imp {X : Cx} {sts : List Stmt} {t t2 : TS} (h : PSs X sts t) (i : ∀ D σ H, t2 D σ H → t D σ H) : PSs X sts t2 := fun pins s σ H D I q => h pins s σ H D I (i D σ H q)
/-! ### isinstance(x, c), c one class -/
section
variable {X : Cx}
def rIsi (K : PySem.W.Frag) : List V → Hp → VK → Prop := fun xs H Q => ∃ x c t b u, xs = [x, c] ∧ TyOf K H x t ∧ ((∃ n, c = .ty n ∧ u = Value.type n) ∨ ∃ a, c = .ref a ∧ u = Value.ref a) ∧ PySem.W.kitOne K t u = some b ∧ Q (.bl b) H
theorem call_isi : CallR X (.builtin "isinstance") (rIsi X.K) := by
  intro pins s σ H xs us Q I r h
  obtain ⟨x, c, t, b, u, rfl, ty, hu, e, q⟩ := h
  obtain ⟨v1, v2, rfl, r1, r2⟩ := vals2 r
  have e2 : v2 = u := by
    rcases hu with ⟨n, rfl, rfl⟩ | ⟨a, rfl, rfl⟩
    · exact r2
    · exact r2
  subst e2
  exact isinst_ok I r1 ty e fun tk => ⟨.bl b, H, I.tok tk, rfl, q⟩
theorem kit_tt (K : PySem.W.Frag) : PySem.W.kitOne K (.type "tuple") (.type "tuple") = some true := by with_unfolding_all rfl
end
/-! ### == of two things that hold the same data: lists and tuples of ints, bools, texts, at any depth -/
section
variable {X : Cx}
end
/-! ### range(a, b, c), c above nought -/
def Itr3 (lo c : Int) (n : Nat) : It := ⟨fun i _ => i < n, fun i H x H' => H' = H ∧ x = .int (lo + i * c), fun i _ => n ≤ i⟩
theorem turn_range3 {P : Program} {w : World} {K : PySem.W.Frag} {tg : Expr} (it : Addr) (lo c : Int) (n : Nat) : Turn P w K tg (Itr3 lo c n) [it] it (fun i h => IsRangeIter h it (lo + (i : Nat) * c) ((n : Int) - (i : Nat)) c) where
  mem := by simp
  obj := fun i h st b hb => by
    have e : b = it := by simpa using hb
    subst e
    exact ⟨_, st, fun v z => by
      have z' : Data.fields _ = Data.cell v := z
      cases z'⟩
  keep := fun i h h' st k => k it (by simp) _ st
  item := by
    intro X hP hw hK hc i pins s σ H E I hf st hg
    subst hP hw hK
    obtain ⟨f0, f1, f2, f3, f4, f5⟩ := hf it (by simp)
    have W := Walks.range (prog := X.prog) (w := X.w) (I.ok.hd hc) it lo c n
    refine W.item i s _ _ hg st fun v h' tk hv st' kk => ?_
    obtain ⟨t, rfl⟩ := hv
    have I1 : Inv X pins σ H { s with heap := h', toks := tk } := I.turned (fun b o hb e => kk b o (by simpa using hb) e) f0 f1 f3 f4 f5
    exact ⟨_, rfl, go_of (s := { s with heap := h', toks := tk }) (n := "range_iterator") st' rfl rfl (by decide) ⟨.int (lo + i * c), H, I1, ⟨t, rfl⟩, ⟨rfl, rfl⟩, st', fun b hb => (hf b hb).1⟩⟩
  done := by
    intro X hP hw hK hc i pins s σ H E I hf st hg
    subst hP hw hK
    obtain ⟨f0, f1, f2, f3, f4, f5⟩ := hf it (by simp)
    exact wpAny_pyNext_range_end (I.ok.hd hc) st (by have : n ≤ i := hg; omega) fun h' eb => ⟨rfl, I.turned (t' := s.toks) (fun b o hb e => eb b o hb e) f0 f1 f3 f4 f5⟩
  self := fun _ _ _ _ _ st h => wpAny_pyIter_rangeiter st h
section
variable {X : Cx} {tg : Expr}
end
theorem for_range3 {lo c : Int} {n : Nat} {g : TG} {tb : TS} {D : Ends} {σ : St} {H : Hp} (Pv : Nat → St → Hp → Prop) (h0 : Pv 0 σ H)
    (hs : ∀ i σ H, i < n → Pv i σ H → g (.int (lo + i * c)) σ H fun σ2 H2 => tb { D with nx := Pv (i + 1), ct := Pv (i + 1), bk := D.nx } σ2 H2) (hd : ∀ σ H, Pv n σ H → D.nx σ H) :
    ∃ W : Nat → Nat → St → Hp → Prop, (∃ m, W 0 m σ H) ∧ ∀ i m σ H, W i m σ H →
      ((Itr3 lo c n).stop i H ∧ D.nx σ H) ∨ ((Itr3 lo c n).go i H ∧ ∃ N : St → Hp → Prop, (∀ σ' H', N σ' H' → ∃ m', m' < m ∧ W (i + 1) m' σ' H') ∧ ∀ x H', (Itr3 lo c n).yld i H x H' → g x σ H' fun σ2 H2 => tb { D with nx := N, ct := N, bk := D.nx } σ2 H2) := by
  refine ⟨fun i m σ H => m = n - i ∧ i ≤ n ∧ Pv i σ H, ⟨n, by simp, Nat.zero_le _, h0⟩, ?_⟩
  rintro i m σ H ⟨rfl, hi, p⟩
  by_cases hlt : i < n
  · refine .inr ⟨hlt, Pv (i + 1), fun σ' H' p' => ⟨n - (i + 1), by omega, rfl, hlt, p'⟩, fun x H' y => ?_⟩
    obtain ⟨e, y⟩ := y
    subst e y
    exact hs i σ _ hlt p
  · have e : i = n := by omega
    subst e
    exact .inl ⟨Nat.le_refl _, hd σ H p⟩
end L2

namespace L2
open PySem PySem.Spec PyProof.Rows
/-! ## exceptions of own classes: raised, passed on, caught -/
section
variable {P : Program} {w : World} {H : Hp} {h : Heap} {a : Addr} {o : HO}
theorem ObjOk.get (x : ObjOk P w H h a o) : ∃ ob, h.get? a = some ob := by
  cases o with
  | lst xs => obtain ⟨_, _, _, _, e⟩ := x; exact ⟨_, e⟩
  | tup xs => obtain ⟨_, _, _, ob, e, _⟩ := x; exact ⟨_, e⟩
  | dK kvs => obtain ⟨_, _, _, _, o, _, _, e, _⟩ := x; exact ⟨_, e⟩
  | dT kvs => obtain ⟨_, _, _, _, o, _, _, e, _⟩ := x; exact ⟨_, e⟩
  | set S n => obtain ⟨o, _, _, _, e, _⟩ := x; exact ⟨_, e⟩
  | ins C dx fs => obtain ⟨_, _, _, e, _⟩ := x; exact ⟨_, e⟩
  | own y => exact x
  | xd fs => obtain ⟨_, ⟨_, _, _, e, _⟩, _⟩ := x; exact ⟨_, e⟩
  | rng lo hi => obtain ⟨_, _, _, e⟩ := x; exact ⟨_, e⟩
  | frz ob u => exact ⟨_, x.1⟩
  | tbl ps => exact ⟨_, (show h.get? a = some _ from x)⟩
  | met f y => exact ⟨_, (show h.get? a = some _ from x)⟩
  | ext φ => exact x.2.1
theorem HOk.none_of (x : HOk P w H h) (e : h.get? a = none) : H a = none := by
  cases q : H a with
  | none => rfl
  | some u =>
    obtain ⟨ob, z⟩ := (x a u q).get
    rw [e] at z
    cases z
end

/-- an object of nobody: not there at the entry, not tracked, no frame, no cell, no pin -/
structure XOk (X : Cx) (pins : List (Addr × Obj)) (H : Hp) (b : Addr) : Prop where
  old : X.s₀.heap.get? b = none
  trk : H b = none
  nl : b ≠ X.env.locals
  nc : ∀ x c, X.env.cells.lookup x = some c → c ≠ b
  np : ∀ p ∈ X.pn ++ pins, p.1 ≠ b
section
variable {X : Cx} {pins : List (Addr × Obj)} {σ : St} {H H' : Hp} {s s' : Shared} {b : Addr}
/-- what is not there is nobody's -/
theorem Inv.xok (I : Inv X pins σ H s) (hx : X.ex = []) (e : s.heap.get? b = none) (n : H' b = none) : XOk X pins H' b := by
  refine ⟨?_, n, fun z => ?_, fun x c q z => ?_, fun p hp z => ?_⟩
  · cases q : X.s₀.heap.get? b with
    | none => rfl
    | some o =>
      obtain ⟨o', e'⟩ := I.base.there b o q (by rw [hx]; simp)
      rw [e] at e'
      cases e'
  · obtain ⟨m, ⟨o, _, _, ho, _⟩, _⟩ := I.loc
    rw [z, ho] at e
    cases e
  · obtain ⟨v, o, ho, _⟩ := I.cell x c q
    rw [z, e] at ho
    cases ho
  · have := (I.pin p hp).1
    rw [z, e] at this
    cases this
/-- a step of an exception: nobody's objects at ch may change, of the running frames the slots -/
theorem Inv.xstep {h' : Heap} {ch : List Addr} (I : Inv X pins σ H s) (hch : ∀ b ∈ ch, XOk X pins H b)
    (keep : ∀ b o, s.heap.get? b = some o → b ∉ ch → b ∉ frs X.stack → h'.get? b = some o)
    (slot : ∀ b o, s.heap.get? b = some o → b ∉ ch → b ∈ frs X.stack → ∃ sl, h'.get? b = some { o with slots := sl }) : Inv X pins σ H { s with heap := h' } := by
  have any : ∀ b o, s.heap.get? b = some o → b ∉ ch → ∃ sl, h'.get? b = some { o with slots := sl } := fun b o e hc => by
    by_cases hb : b ∈ frs X.stack
    · exact slot b o e hc hb
    · exact ⟨o.slots, keep b o e hc hb⟩
  have fsub : ∀ b, b ∈ frs X.stack → b ≠ X.env.locals → b ∈ X.fs := fun b hb n => (List.mem_cons.mp (I.stkSub b hb)).elim (fun z => absurd z n) fun z => z
  have neL : ∀ b o, X.s₀.heap.get? b = some o → b ≠ X.env.locals := fun b o e => Nat.ne_of_lt (Nat.lt_of_lt_of_le (Heap.lt_size e) I.ok.above)
  have neC : ∀ b o, X.s₀.heap.get? b = some o → b ∉ ch := fun b o e hb => by
    have := (hch b hb).old
    rw [e] at this
    cases this
  have cellK : ∀ x c, X.env.cells.lookup x = some c → ∀ v, s.heap.IsCell c v → h'.IsCell c v := fun x c e v ⟨o, ho, hd⟩ => by
    obtain ⟨sl, q⟩ := any c o ho fun z => (hch c z).nc x c e rfl
    exact ⟨_, q, hd⟩
  refine ⟨I.ok, I.os, I.bare, ⟨fun b o e n hb hx => ?_, fun b o e n hb hx => ?_, I.base.free, fun b o e hx => ?_, I.base.tups, I.base.frzs, I.base.tbls⟩, ?_, fun x c e => ?_, I.free, I.freeC, fun p hp => ?_, fun b u e => ?_, I.len⟩
  · exact keep b o (I.base.keep b o e n hb hx) (neC b o e) fun z => hb (fsub b z (neL b o e))
  · obtain ⟨sl, e1⟩ := I.base.slot b o e n hb hx
    obtain ⟨sl', e2⟩ := any b _ e1 (neC b o e)
    exact ⟨sl', e2⟩
  · obtain ⟨o', e1⟩ := I.base.there b o e hx
    obtain ⟨sl, e2⟩ := any b _ e1 (neC b o e)
    exact ⟨_, e2⟩
  · obtain ⟨m, ⟨o, es, ep, ho, r⟩, hl⟩ := I.loc
    obtain ⟨sl, e2⟩ := any _ o ho fun z => (hch _ z).nl rfl
    refine ⟨m, ⟨_, es, ep, e2, r⟩, fun i x v e1 e2 e3 => ?_⟩
    obtain ⟨u, r, l⟩ := hl i x v e1 e2 e3
    refine ⟨u, r, ?_⟩
    rcases l with l | ⟨k, c, e, z⟩
    · exact .inl l
    · exact .inr ⟨k, c, e, cellK x c e _ z⟩
  · obtain ⟨v, z⟩ := I.cell x c e
    exact ⟨v, cellK x c e v z⟩
  · obtain ⟨e, n, ne, nf, d⟩ := I.pin p hp
    exact ⟨keep p.1 p.2 e (fun z => (hch p.1 z).np p hp rfl) fun z => nf (fsub p.1 z ne), n, ne, nf, d⟩
  · have nof : ∀ c u', H c = some u' → c ∉ ch ∧ c ∉ frs X.stack := fun c u' q => ⟨fun z => (by rw [(hch c z).trk] at q; exact nomatch q), fun z => (by rw [I.stkFree c z] at q; exact nomatch q)⟩
    refine (I.hok b u e).stay (fun c v hc q => ?_) (fun _ q => q) fun _ _ q => q
    rcases hc with z | z
    · rw [z] at q ⊢
      exact keep b v q (nof b u e).1 (nof b u e).2
    · exact keep c v q (nof c _ z).1 (nof c _ z).2
/-- an object of nobody is tracked -/
theorem Inv.xtrack {a : Addr} {o : HO} (I : Inv X pins σ H s) (f : XOk X pins H a) (new : ObjOk X.prog X.w (upd H a o) s.heap a o) : Inv X pins σ (upd H a o) s := by
  have ne : ∀ b u, H b = some u → b ≠ a := fun b u e => ne_of_none e f.trk
  have nb : ∀ b u, s.heap.get? b = some u → b ≠ a → H b = none → upd H a o b = none := fun b u _ n q => by rw [upd_ne n]; exact q
  refine ⟨I.ok, I.os, I.bare, ⟨I.base.keep, I.base.slot, fun b ob e n hx => ?_, I.base.there, fun b xs e => ?_, fun b ob xs e => ?_, fun b ps e => ?_⟩, I.loc, I.cell, ?_, fun x c e => ?_, fun p hp => ?_, fun b u e => ?_, I.len⟩
  · rw [upd_ne (fun z => by rw [z, f.old] at e; cases e)]
    exact I.base.free b ob e n hx
  · have := I.base.tups b xs e
    rw [upd_ne (ne _ _ this)]
    exact this
  · have := I.base.frzs b ob xs e
    rw [upd_ne (ne _ _ this)]
    exact this
  · obtain ⟨m, q⟩ := I.base.tbls b ps e
    exact ⟨m, by rw [upd_ne (ne _ _ q)]; exact q⟩
  · rw [upd_ne (Ne.symm f.nl)]
    exact I.free
  · rw [upd_ne (f.nc x c e)]
    exact I.freeC x c e
  · obtain ⟨e, n, r⟩ := I.pin p hp
    exact ⟨e, by rw [upd_ne (f.np p hp)]; exact n, r⟩
  · by_cases hb : b = a
    · rw [hb, upd_same] at e
      cases e
      rw [hb]
      exact new
    · rw [upd_ne hb] at e
      exact (I.hok b u e).stay (fun c v _ q => q) (fun c q => by rw [upd_ne (ne c _ q)]; exact q) fun c xs q => by rw [upd_ne (ne c _ q)]; exact q
end

/-- an exception that has left a frame, or was looked at: at x, of the class C, its trace begins at T -/
def Trc (h : Heap) (x : Addr) (C : Value) (T : Addr) : Prop :=
  ∃ oe vs a0 oT ts, h.get? x = some oe ∧ oe.cls = C ∧ vs[0]? = some a0 ∧ oe.data = .fields vs ∧ vs[1]? = some (.ref T) ∧ T ≠ x ∧ h.get? T = some oT ∧ oT.data = .fields ts ∧ ts[3]? = some .none
/-- just made -/
def Xnw (h : Heap) (x : Addr) (C : Value) : Prop := ∃ oe vs a0, h.get? x = some oe ∧ oe.cls = C ∧ oe.data = .fields vs ∧ vs[0]? = some a0 ∧ vs[1]? = some .none
/-- an exception in flight -/
def XA (X : Cx) (pins : List (Addr × Obj)) (H : Hp) (s : Shared) (x : Addr) (C : Value) : Prop := XOk X pins H x ∧ (Xnw s.heap x C ∨ ∃ T, XOk X pins H T ∧ Trc s.heap x C T)
/-- how it lies behind a call -/
def CXr (P : Program) (w : World) : CXT := fun outer H s E e s' => ∃ (x : Addr) (C : Value) (T : Addr) (H' : Hp), e = .ref x ∧ s'.os = s.os ∧ AllBare s'.gens ∧ Un (frs outer) [] H H' s.heap s'.heap ∧ HOk P w H' s'.heap ∧
  s.heap.get? x = none ∧ s.heap.get? T = none ∧ H' x = none ∧ H' T = none ∧ Trc s'.heap x C T ∧ E C none H'
section
variable {X : Cx} {pins : List (Addr × Obj)} {σ : St} {H : Hp} {s : Shared} {x : Addr} {C : Value} {E : Value → Shared → Prop}
abbrev hidX (X : Cx) (h : Heap) (ch : List Addr) : Heap := PySem.W.hideAll h (ch ++ frs X.stack)
theorem Inv.hidF (I : Inv X pins σ H s) (ch : List Addr) : s.heap.FunFrames (hidX X s.heap ch) X.stack :=
  PySem.W.funFrames_hide I.stack fun env he a hf => List.mem_append_right _ (List.mem_filterMap.mpr ⟨env, he, hf⟩)
theorem hid_in (ch : List Addr) (h : Heap) : (hidX X h ch).StaysIn h := fun _ _ e => PySem.W.of_hideAll _ e
theorem hid_none {ch : List Addr} {h : Heap} {b : Addr} (hb : b ∈ ch) : (hidX X h ch).get? b = none := PySem.W.hideAll_none _ (List.mem_append_left _ hb)
/-- behind a note of a frame -/
theorem Inv.left {h' : Heap} {ch : List Addr} {a0 : Value} (I : Inv X pins σ H s) (hx : X.ex = []) (hch : ∀ b ∈ ch, XOk X pins H b) (k : (hidX X s.heap ch).StaysIn h') (t : h'.TracedW (hidX X s.heap ch) x C a0) (u : s.heap.UpToSlots h') :
    Inv X pins σ H { s with heap := h' } ∧ ∃ T, XOk X pins H T ∧ Trc h' x C T := by
  have fr : ∀ b o, s.heap.get? b = some o → b ∈ frs X.stack → ∃ sl, h'.get? b = some { o with slots := sl } := fun b o e hb => by
    obtain ⟨_, o', ho, hd⟩ := I.stack.mem hb
    rw [e] at ho
    cases ho
    exact u b o e hd
  refine ⟨I.xstep hch (fun b o e n1 n2 => k b o (PySem.W.hideAll_get _ e fun z => (List.mem_append.mp z).elim n1 n2)) fun b o e _ hb => fr b o e hb, ?_⟩
  obtain ⟨oe, vs, T, oT, ts, he, ⟨hcls, h0⟩, hd, h1, hnT, hTe, hT, hdT, h3⟩ := t
  refine ⟨T, ?_, oe, vs, a0, oT, ts, he, hcls, h0, hd, h1, hTe, hT, hdT, h3⟩
  cases q : s.heap.get? T with
  | none => exact I.xok hx q (I.hok.none_of q)
  | some o =>
    by_cases z : T ∈ ch
    · exact hch T z
    · by_cases z2 : T ∈ frs X.stack
      · obtain ⟨_, o', ho, hd'⟩ := I.stack.mem z2
        obtain ⟨sl, e⟩ := fr T o q z2
        rw [hT] at e
        cases e
        rw [q] at ho
        cases ho
        exact absurd hdT (hd' ts)
      · have := PySem.W.hideAll_get (ch ++ frs X.stack) q fun z3 => (List.mem_append.mp z3).elim z z2
        rw [hnT] at this
        cases this
/-- the exception leaves the frame -/
theorem Inv.leave {Q : Unit → Shared → Prop} (I : Inv X pins σ H s) (hx : X.ex = []) (hst : X.stack = X.env :: X.outer) (hfr : X.env.frame = some X.env.locals) (xa : XA X pins H s x C)
    (h : ∀ h' T, Inv X pins σ H { s with heap := h' } → XOk X pins H x → XOk X pins H T → Trc h' x C T → Q () { s with heap := h' }) : wpAny (model X.prog X.w) X.A (leaving X.env (.ref x)) Q E s := by
  obtain ⟨x1, x2⟩ := xa
  have frm : X.A.frames = some (X.env :: X.outer) := by rw [← hst]; exact I.ok.frames
  rcases x2 with ⟨oe, vs, a0, he, hc, hd, h0, h1⟩ | ⟨T, xT, oe, vs, a0, oT, ts, he, hc, h0, hd, h1, hTe, hT, hdT, h3⟩
  · have hch : ∀ b ∈ [x], XOk X pins H b := fun b hb => by
      have e : b = x := by simpa using hb
      rw [e]
      exact x1
    refine wpAny_leaving_firstW (base := hidX X s.heap [x]) frm (hst ▸ I.hidF [x]) hfr he (hid_in _ _) (hid_none (by simp)) hd h1 h0 fun h' L => ?_
    obtain ⟨k1, _, k3, k4⟩ := L
    obtain ⟨I', T, xT, tr⟩ := I.left hx hch k1 k3 k4
    rw [hc] at tr
    exact h h' T I' x1 xT tr
  · have hch : ∀ b ∈ [x, T], XOk X pins H b := fun b hb => by
      rcases List.mem_cons.mp hb with e | hb
      · rw [e]
        exact x1
      · have e : b = T := by simpa using hb
        rw [e]
        exact xT
    refine wpAny_leaving_nextW (base := hidX X s.heap [x, T]) frm (hst ▸ I.hidF [x, T]) hfr ⟨oe, vs, T, oT, ts, he, ⟨hc, h0⟩, hd, h1, hid_none (by simp), hTe, hT, hdT, h3⟩ (hid_in _ _) (hid_none (by simp)) fun h' L => ?_
    obtain ⟨k1, _, k3, k4⟩ := L
    obtain ⟨I', T', xT', tr⟩ := I.left hx hch k1 k3 k4
    exact h h' T' I' x1 xT' tr
end

/-- what is wanted of exceptions: W of the class, the names' values and the heap -/
abbrev WK := Value → St → Hp → Prop
def Wsh (X : Cx) (W : WK) : Prop := ∀ (pins : List (Addr × Obj)) (σ : St) (H : Hp) (s : Shared) (x : Addr) (C : Value), Inv X pins σ H s → XA X pins H s x C → W C σ H → X.xe (.ref x) s
/-- of a def's body: its own wish -/
theorem wsh_cx {P : Program} {w : World} {K : PySem.W.Frag} {mg : Str → Option Value} {base : Heap} {N : List Str} {qual : Str} {scope : Scope} {f : Addr} {cd : Value} {A : Around} {outer : List Env} {s₀ : Shared} {H₀ : Hp} {E : XK} :
    Wsh (cxOf (CXr P w) P w K mg base N qual scope f cd A outer s₀ H₀ E) (fun C _ H => E C none H) := fun pins σ H s x C I xa hE => by
  show wpAny (model P w) (A.deeper (envOfC qual scope s₀.heap.objs.size f cd)) (leaving (envOfC qual scope s₀.heap.objs.size f cd) (.ref x)) _ _ s
  refine Inv.leave I rfl rfl rfl xa fun h' T I' x1 xT tr => ?_
  exact ⟨x, C, T, H, rfl, I'.os, I'.bare, I'.base, I'.hok, x1.old, xT.old, x1.trk, xT.trk, tr, hE⟩
theorem pass0r {P : Program} {w : World} {X : Cx} : Passes (CXr P w) X E0 := fun _ _ _ _ _ _ _ ⟨_, _, _, _, _, _, _, _, _, _, _, _, _, _, z⟩ => z.elim

section
variable {X : Cx} {k : Nat} {f C : Addr} {fd : FuncData} {ps : List Str} {sp : Sp} {dvs : List V} {ds : List Value} {W : WK} {x m : Str} {p pos apos : Pos} {e o : Expr} {es : List Expr} {ta : TE} {t : TA}
/-- a callee's exception, from here -/
theorem Wsh.of {pins : List (Addr × Obj)} {σ : St} {H : Hp} {s s' : Shared} {v : Value} (ws : Wsh X W) (hx : X.ex = []) (I : Inv X pins σ H s) (h : CXr X.prog X.w X.stack H s (fun C _ H' => W C σ H') v s') : X.xe v s' := by
  obtain ⟨x, C, T, H', rfl, os, bare, un, hok, nx, nT, tx, tT, tr, q⟩ := h
  have I' : Inv X pins σ H' s' := I.call' os un hok bare fun b z => absurd z (by simp)
  exact ws pins σ H' s' x C I' ⟨I.xok hx nx tx, .inr ⟨T, I.xok hx nT tT, tr⟩⟩ q
theorem run_fnX {pins : List (Addr × Obj)} {σ : St} {H : Hp} {s : Shared} {Q : VK} {us : List Value} {vs : List V} (F : FnOk X.prog X.w X.K X.mg X.base (CXr X.prog X.w) k f fd ps sp) (hr : Room k X.A) (hb : Binds X.K fd ps ds) (hd : Vals dvs ds) (ws : Wsh X W) (hx : X.ex = [])
    (I : Inv X pins σ H s) (r : Vals vs us) (h : sp (vs ++ dvs) H Q (fun C _ H' => W C σ H')) : wpAny (model X.prog X.w) X.A (call (.ref f) us) (EP X pins σ Q) X.xe s := by
  have r2 : Vals (vs ++ dvs) (us ++ ds) := r.append hd
  have hl : (us ++ ds).length = ps.length := by rw [← r2.length]; exact F.len _ _ _ _ h
  refine wpAny_call (codeAny_mono (F.run X.A X.stack s H ⟨us, []⟩ (us ++ ds) (vs ++ dvs) Q _ hr I.env0 (hb s us I.kIn hl) r2 h) fun r s' hq => ?_)
  cases r with
  | error e => exact ws.of hx I hq
  | ok fl =>
    cases fl with
    | ret u => exact I.after hq
    | next => exact False.elim hq
    | brk => exact False.elim hq
    | cont => exact False.elim hq
def tCallX (sp : Sp) (dvs : List V) (W : WK) (t : TA) : TE := fun σ H Q => t σ H fun vs H1 => sp (vs ++ dvs) H1 Q fun C _ H' => W C σ H'
theorem pe_callX (F : FnOk X.prog X.w X.K X.mg X.base (CXr X.prog X.w) k f fd ps sp) (hr : Room k X.A) (hg : Gl X x) (hm : X.mg x = some (.ref f)) (hk : PySem.W.keepIn X.K (.ref f) = true) (hb : Binds X.K fd ps ds) (hd : Vals dvs ds) (ws : Wsh X W) (hx : X.ex = [])
    (ha : PA X (e :: es) t) (hdb : (x == ("__debug__" : Str)) = false := by decide) (he : starEach (e :: es) X.env = (false, eval e X.env) :: starEach es X.env := by rfl) (hpl : (backTo pos (starEach es X.env)).any (·.1) = false := by rfl) :
    PE X (.Call (.Name x p) (e :: es) [] pos) (tCallX sp dvs W t) := by
  intro pins s σ H Q I h
  refine wpAny_Call_Name_kw (ld_glob I hg hm ?_ hdb)
  refine PySem.W.callWith_K (h₀ := X.base) I.ok.mod.kin hk (thn (ha pos pins s σ H _ I h) fun us s1 ⟨vs, H1, I1, r, q⟩ => ⟨I1.kIn, ?_⟩) he hpl
  exact run_fnX F hr hb hd ws hx I1 r q
end
end L2

namespace L2
open PySem PySem.Spec PyProof.Rows
/-! ## exceptions, second part: raise, try, what was caught -/
structure CalX (P : Program) (w : World) (K : PySem.W.Frag) (mg : Str → Option Value) (base : Heap) (k : Nat) (x : Str) (ps : List Str) (sp : Sp) (f : Addr) (fd : FuncData) : Prop where
  ok : FnOk P w K mg base (CXr P w) k f fd ps sp
  bn : Binds K fd ps []
  mg : mg x = some (.ref f)
  kp : PySem.W.keepIn K (.ref f) = true
theorem Fun.okX {P : Program} {w : World} {K : PySem.W.Frag} {mg : Str → Option Value} {base : Heap} {x qual : Str} {st : Stmt} {f : Addr} {fd : FuncData} {N ps : List Str} {k : Nat} {sp : Sp} (F : Fun K x qual st f fd) (S : FnScope N ps (defScope st)) (len : ∀ vs H Q E, sp vs H Q E → vs.length = ps.length)
    (hbody : ∀ (cdv : Value) (A : Around) (outer : List Env) (s : Shared) (H : Hp) (vs : List V) (Q : VK) (E : XK), Room k (A.deeper (envOfC qual (defScope st) s.heap.objs.size f cdv)) → sp vs H Q E →
      ∃ t, PSs (cxOf (CXr P w) P w K mg base N qual (defScope st) f cdv A outer s H E) (defBody st) t ∧ t { nx := fun _ H' => Q .non H', rt := Q } (start N vs) H) : FnOk P w K mg base (CXr P w) (k + 1) f fd ps sp := by
  obtain ⟨oc, od, kV, doc, pm, an, cdv, ct, osl, rfl, lk, hcd⟩ := F.ex
  exact fn_of lk hcd S len fun A outer s H vs Q E hr hsp => hbody cdv A outer s H vs Q E hr hsp
/-- what an own error class under ValueError shows -/
abbrev veM : List Value := [.type "ValueError", .type "Exception", .type "BaseException", .type "object"]
abbrev ExC (K : PySem.W.Frag) (C : Addr) : Prop := PySem.W.excIn K C veM "ValueError.__new__" = true
theorem exc_obj {K : PySem.W.Frag} {C : Addr} {h : Heap} (e : ExC K C) (X : K.In h) : ∃ bm N nm qn bs hdct sn sub ab col dd k0 k1 k2 k3 k5 mN, h.get? C = some (excClassObj nm qn C N bs bm hdct sn sub ab col dd k0 k1 k2 k3 k5 "ValueError.__new__") ∧ h.Ns N mN ∧ mN "__init__" = none ∧ OwnTail h veM bm ∧ ∀ B b, PySem.W.mroIn K C B = some b → (Value.ref C :: bm).contains B = b := by
  have z := e
  unfold ExC PySem.W.excIn at z
  split at z
  · rename_i ddx cdx slx hobj
    split at z
    · rename_i Cx bmx y0 y1 y2 y3 nx y5 hmro hslots
      have zz := z
      simp only [Bool.and_eq_true, beq_iff_eq, Bool.not_eq_true'] at zz
      obtain ⟨⟨⟨⟨⟨eC, eN⟩, edel⟩, etail⟩, ens⟩, einit⟩ := zz
      subst eC
      subst eN
      obtain ⟨l⟩ := slx
      have hl : l = [y0, y1, y2, y3, some (.builtin "ValueError.__new__"), y5] := hslots
      subst hl
      obtain ⟨nm, bs, mro, ns, qn, hd, sn, sub, ab, col, del⟩ := cdx
      have hmro' : mro = .ref Cx :: bmx := hmro
      have hdel' : del = false := edel
      subst hmro' hdel'
      refine ⟨bmx, ns, nm, qn, bs, hd, sn, sub, ab, col, ddx, y0, y1, y2, y3, y5, _, X _ _ hobj, .of_isNs (PySem.W.isNs_of_in X ens), PySem.W.nsMap_none_of_in X ens einit, PySem.W.tail_of_in X etail, fun B b hB => ?_⟩
      unfold PySem.W.mroIn PySem.W.clsIn at hB
      rw [hobj] at hB
      simpa using hB
    · cases z
  · cases z
/-- raise C(..) -/
def tRaise (C : Addr) (W : WK) (t : TA) : TS := fun _ σ H => t σ H fun vs H1 => vs.length ≤ sizeLine ∧ W (.ref C) σ H1
theorem ps_raiseX {X : Cx} {x : Str} {C : Addr} {e : Expr} {es : List Expr} {t : TA} {W : WK} {np cpos pos : Pos} (ec : ExC X.K C) (hm : X.mg x = some (.ref C)) (hg : Gl X x) (ws : Wsh X W) (hx : X.ex = []) (hc : X.calm = true) (ha : PA X (e :: es) t)
    (he : starEach (e :: es) X.env = (false, eval e X.env) :: starEach es X.env := by rfl) (hpl : (backTo cpos (starEach es X.env)).any (·.1) = false := by rfl) (hdb : (x == ("__debug__" : Str)) = false := by decide) :
    PS X (.Raise (some (.Call (.Name x np) (e :: es) [] cpos)) none pos) (tRaise C W t) := by
  intro pins s σ H D I h
  obtain ⟨tl, N, nm, qn, bs, hdct, sn, sub, ab, col, dd, k0, k1, k2, k3, k5, mN, hC, hN, hni, T, _⟩ := exc_obj ec I.ok.mod.kin
  have hpl2 : (backTo cpos (starEach (e :: es) X.env)).any (·.1) = false := by
    rw [he]
    show (false || (backTo cpos (starEach es X.env)).any (·.1)) = false
    rw [hpl]; rfl
  refine wpAny_Raise_call_subT (C := C) (nm := nm) (q := qn) (N := N) (bs := bs) (bm := tl) (hdct := hdct) (sn := sn) (sub := sub) (ab := ab) (col := col) (dd := dd) (k0 := k0) (k1 := k1) (k2 := k2) (k3 := k3) (k5 := k5) PySem.F.excBase_ValueError (mN := mN) (T.hasType PySem.F.excBase_ValueError.hasBase) (I.ok.hd hc) hpl2 hni (ld_glob I hg hm ⟨rfl, ?_⟩ hdb)
  have z := ha cpos pins s σ H _ I h
  rw [he] at z ⊢
  refine Calls.evalArgs_plain (wpAny_mono z (fun us s2 zz => ?_) fun _ _ y => y)
  obtain ⟨vs, H1, I2, r, hz, q⟩ := zz
  refine ⟨rfl, by rw [← r.length]; exact hz, I2.bk _ _ hC, hN.keeps I2.bk, T.keeps I2.bk, fun h' e' hme => ?_⟩
  obtain ⟨t0, ht0, _, _⟩ := hme.there
  have I3 : Inv X pins σ H1 { s2 with heap := h' } := I2.kept (t' := s2.toks) hme.keeps
  exact ws pins σ H1 _ e' (.ref C) I3 ⟨I2.xok hx hme.new (I2.hok.none_of hme.new), .inl ⟨_, _, _, ht0, rfl, rfl, rfl, rfl⟩⟩ q
/-- an error that was caught -/
def excO (x C : Addr) : HO := .ext fun h => ∃ o, h.get? x = some o ∧ o.cls = .ref C
section
variable {X : Cx} {pins : List (Addr × Obj)} {σ : St} {H : Hp} {s : Shared} {x : Addr} {C : Value}
/-- the context in an except suite -/
def Cx.marked (X : Cx) (v : Value) : Cx := { X with A := X.A.mark (some v), calm := false, xe := fun _ _ => False }
theorem Inv.marked (I : Inv X pins σ H s) (v : Value) : Inv (X.marked v) pins σ H s :=
  ⟨⟨I.ok.mod, I.ok.kind, I.ok.glob, I.ok.blt, I.ok.above, I.ok.inj, I.ok.has, I.ok.cab, fun z => (by cases z), I.ok.frames, I.ok.stk, I.ok.exf, I.ok.bs, I.ok.bsz, I.ok.noex, I.ok.exfs, I.ok.funs, I.ok.frf⟩, I.os, I.bare, I.base, I.loc, I.cell, I.free, I.freeC, I.pin, I.hok, I.len⟩
theorem Inv.unmarked {hd : X.calm = true → X.A.handled = none} {fr : X.A.frames = some X.stack} {v : Value} (I : Inv (X.marked v) pins σ H s) : Inv X pins σ H s :=
  ⟨⟨I.ok.mod, I.ok.kind, I.ok.glob, I.ok.blt, I.ok.above, I.ok.inj, I.ok.has, I.ok.cab, hd, fr, I.ok.stk, I.ok.exf, I.ok.bs, I.ok.bsz, I.ok.noex, I.ok.exfs, I.ok.funs, I.ok.frf⟩, I.os, I.bare, I.base, I.loc, I.cell, I.free, I.freeC, I.pin, I.hok, I.len⟩
/-- a name of the frame is gone -/
theorem Inv.gone {i : Nat} {n : Str} {h' : Heap} {tk : Nat} {m : Str → Option Value} {v : Option Value} (I : Inv X pins σ H s) (hN : X.N.Nodup) (hi : X.N[i]? = some n) (hm : s.heap.Ns X.env.locals m ∧ ∀ (i : Nat) (x : Str) (v : V), X.N[i]? = some x → σ[i]? = some (some v) → Vis X.env.scope x → ∃ u, RelV v u ∧ Look X.env s.heap m x u)
    (hn : h'.Ns X.env.locals (fun y => if y = n then v else m y)) (hs : Heap.SameBut X.env.locals s.heap h') : Inv X pins (σ.set i none) H { s with heap := h', toks := tk } := by
  have lo : ∀ b o, X.s₀.heap.get? b = some o → b ≠ X.env.locals := fun b o e => Nat.ne_of_lt (Nat.lt_of_lt_of_le (Heap.lt_size e) I.ok.above)
  obtain ⟨oL, _, _, hoL, _⟩ := id hm.1
  refine ⟨I.ok, I.os, I.bare, ⟨fun b o e n1 hb hx => (hs.2 b (lo b o e)).trans (I.base.keep b o e n1 hb hx), fun b o e n1 hb hx => ?_, I.base.free, fun b o e hx => ?_, I.base.tups, I.base.frzs, I.base.tbls⟩, ⟨_, hn, fun j y w' e1 e2 e3 => ?_⟩, fun y c e => ?_, I.free, I.freeC, fun p hp => ?_, fun b u e => ?_, by simpa using I.len⟩
  · obtain ⟨sl, q⟩ := I.base.slot b o e n1 hb hx
    exact ⟨sl, (hs.2 b (lo b o e)).trans q⟩
  · obtain ⟨o', q⟩ := I.base.there b o e hx
    exact ⟨o', (hs.2 b (lo b o e)).trans q⟩
  · by_cases hj : j = i
    · subst hj
      rw [List.getElem?_set] at e2
      split at e2
      · split at e2 <;> cases e2
      · rename_i z; exact absurd rfl z
    · rw [List.getElem?_set_ne (Ne.symm hj)] at e2
      obtain ⟨u', r', l'⟩ := hm.2 j y w' e1 e2 e3
      refine ⟨u', r', ?_⟩
      rcases l' with ⟨kk, e⟩ | ⟨kk, c, e, z⟩
      · refine .inl ⟨kk, ?_⟩
        have ny : y ≠ n := fun q => hj (nodup_ix hN e1 (q ▸ hi))
        show (if y = n then v else m y) = some u'
        rw [if_neg ny]; exact e
      · exact .inr ⟨kk, c, e, z.sameBut hs (I.cne y c e)⟩
  · obtain ⟨w2, z⟩ := I.cell y c e
    exact ⟨w2, z.sameBut hs (I.cne y c e)⟩
  · obtain ⟨e, n1, ne, nf, d⟩ := I.pin p hp
    exact ⟨(hs.2 p.1 ne).trans e, n1, ne, nf, d⟩
  · refine (I.hok b u e).stay (fun c v2 hc q => (hs.2 c fun z => ?_).trans q) (fun _ q => q) fun _ _ q => q
    have fr := I.free
    rcases hc with y | y
    · rw [← y, z, fr] at e; cases e
    · rw [z, fr] at y; cases y
end
section
variable {M : Model} {A : Around} {E : Value → Shared → Prop} {h : Heap} {g : Array GenState} {d : Drawn} {t : Nat} {os : OsState}
theorem exc_up {C D : Addr} {nm qn nm2 qn2 : Str} {N N2 : Addr} {bs bm bs2 bm2 : List Value} {hdct hdct2 : Bool} {sn sn2 : List Str} {sub sub2 : List Value} {ab ab2 : Bool} {col col2 : Option Bool} {dd dd2 : Option Addr} {k0 k1 k2 k3 k5 j0 j1 j2 j3 j5 : Option Value} {id1 id2 : String} {x : Addr} {ob : Obj} {Q : Bool → Shared → Prop}
    (hC : h.get? C = some (excClassObj nm qn C N bs bm hdct sn sub ab col dd k0 k1 k2 k3 k5 id1)) (hD : h.get? D = some (excClassObj nm2 qn2 D N2 bs2 bm2 hdct2 sn2 sub2 ab2 col2 dd2 j0 j1 j2 j3 j5 id2)) (hob : h.get? x = some ob) (hcl : ob.cls = .ref C)
    (hDB : (Value.ref D :: bm2).contains (.type "BaseException") = true) (hCD : (Value.ref C :: bm).contains (.ref D) = true) (hq : Q true ⟨h, g, d, t, os⟩) : wpAny M A (excMatches (.ref x) (.ref D)) Q E ⟨h, g, d, t, os⟩ := by
  have ntup := tc_notTuple
  unfold excMatches
  repeat (first | (with_reducible refine wpAny_loadPart_at hob ?_; rw [hcl]) | with_reducible refine wpAny_loadPart_at hD ?_ | (with_reducible refine wpAny_isSubtype_exc hD ?_; rw [hDB]) | (with_reducible refine wpAny_isSubtype_exc hC ?_; rw [hCD]) | wp_step)
  exact hq
end
/-- the context in the body of a try -/
def Cx.tried (X : Cx) (pins : List (Addr × Obj)) (E : Value → Shared → Prop) : Cx := { X with pn := X.pn ++ pins, xe := E }
section
variable {X : Cx} {pins pins' : List (Addr × Obj)} {σ : St} {H : Hp} {s : Shared} {E : Value → Shared → Prop} {b : Addr}
theorem Inv.tried (I : Inv X pins σ H s) : Inv (X.tried pins E) [] σ H s :=
  ⟨⟨I.ok.mod, I.ok.kind, I.ok.glob, I.ok.blt, I.ok.above, I.ok.inj, I.ok.has, I.ok.cab, I.ok.hd, I.ok.frames, I.ok.stk, I.ok.exf, I.ok.bs, I.ok.bsz, I.ok.noex, I.ok.exfs, I.ok.funs, I.ok.frf⟩, I.os, I.bare, I.base, I.loc, I.cell, I.free, I.freeC, fun p hp => I.pin p (by rw [List.append_nil] at hp; exact hp), I.hok, I.len⟩
theorem Inv.untried (I : Inv (X.tried pins E) pins' σ H s) : Inv X pins σ H s :=
  ⟨⟨I.ok.mod, I.ok.kind, I.ok.glob, I.ok.blt, I.ok.above, I.ok.inj, I.ok.has, I.ok.cab, I.ok.hd, I.ok.frames, I.ok.stk, I.ok.exf, I.ok.bs, I.ok.bsz, I.ok.noex, I.ok.exfs, I.ok.funs, I.ok.frf⟩, I.os, I.bare, I.base, I.loc, I.cell, I.free, I.freeC, fun p hp => I.pin p (List.mem_append_left _ hp), I.hok, I.len⟩
theorem XOk.untried (x : XOk (X.tried pins E) pins' H b) : XOk X pins H b := ⟨x.old, x.trk, x.nl, x.nc, fun p hp => x.np p (List.mem_append_left _ hp)⟩
theorem SP.untried {D : Ends} {f : Flow} (h : SP (X.tried pins E) [] D f s) : SP X pins D f s := by
  cases f with
  | next => obtain ⟨σ', H', I, q⟩ := h; exact ⟨σ', H', I.untried, q⟩
  | brk => obtain ⟨σ', H', I, q⟩ := h; exact ⟨σ', H', I.untried, q⟩
  | cont => obtain ⟨σ', H', I, q⟩ := h; exact ⟨σ', H', I.untried, q⟩
  | ret u => obtain ⟨v, σ', H', I, r, q⟩ := h; exact ⟨v, σ', H', I.untried, r, q⟩
end
/-- what is wanted of the exceptions of callees -/
def WshT (X : Cx) (W : WK) : Prop := ∀ (pins : List (Addr × Obj)) (σ : St) (H : Hp) (s : Shared) (x T : Addr) (C : Value), Inv X pins σ H s → XOk X pins H x → XOk X pins H T → Trc s.heap x C T → W C σ H → X.xe (.ref x) s
section
variable {X : Cx} {k : Nat} {f : Addr} {fd : FuncData} {ps : List Str} {sp : Sp} {dvs : List V} {ds : List Value} {W : WK} {x : Str} {p pos : Pos} {e : Expr} {es : List Expr} {t : TA}
theorem pe_callT (F : FnOk X.prog X.w X.K X.mg X.base (CXr X.prog X.w) k f fd ps sp) (hr : Room k X.A) (hg : Gl X x) (hm : X.mg x = some (.ref f)) (hk : PySem.W.keepIn X.K (.ref f) = true) (hb : Binds X.K fd ps ds) (hd : Vals dvs ds) (ws : WshT X W) (hx : X.ex = [])
    (ha : PA X (e :: es) t) (hdb : (x == ("__debug__" : Str)) = false := by decide) (he : starEach (e :: es) X.env = (false, eval e X.env) :: starEach es X.env := by rfl) (hpl : (backTo pos (starEach es X.env)).any (·.1) = false := by rfl) :
    PE X (.Call (.Name x p) (e :: es) [] pos) (tCallX sp dvs W t) := by
  intro pins s σ H Q I h
  refine wpAny_Call_Name_kw (ld_glob I hg hm ?_ hdb)
  refine PySem.W.callWith_K (h₀ := X.base) I.ok.mod.kin hk (thn (ha pos pins s σ H _ I h) fun us s1 ⟨vs, H1, I1, r, q⟩ => ⟨I1.kIn, ?_⟩) he hpl
  have r2 : Vals (vs ++ dvs) (us ++ ds) := r.append hd
  have hl : (us ++ ds).length = ps.length := by rw [← r2.length]; exact F.len _ _ _ _ q
  refine wpAny_call (codeAny_mono (F.run X.A X.stack s1 H1 ⟨us, []⟩ (us ++ ds) (vs ++ dvs) Q _ hr I1.env0 (hb s1 us I1.kIn hl) r2 q) fun r s' hq => ?_)
  cases r with
  | error e =>
    obtain ⟨x, C, T, H', rfl, os, bare, un, hok, nx, nT, tx, tT, tr, q'⟩ := hq
    have I' : Inv X pins σ H' s' := I1.call' os un hok bare fun b z => absurd z (by simp)
    exact ws pins σ H' s' x T C I' (I1.xok hx nx tx) (I1.xok hx nT tT) tr q'
  | ok fl =>
    cases fl with
    | ret u => exact I1.after hq
    | next => exact False.elim hq
    | brk => exact False.elim hq
    | cont => exact False.elim hq
end
/-- a try whose body may raise, with one clause «except D as e» -/
def tTryAs (ie : Nat) (Cs : Addr → Prop) (tb : WK → TS) (ts : TS) : TS := fun Ds σ H => tb (fun C σ1 H1 => ∃ c, C = .ref c ∧ Cs c ∧ ∀ x, H1 x = none → ts { nx := fun σ2 H2 => Ds.nx (σ2.set ie none) H2, rt := fun _ _ => False } (σ1.set ie (some (.ref x))) (upd H1 x (excO x c))) Ds σ H
theorem ps_tryAs {X : Cx} {body : List Stmt} {b0 : Stmt} {suite : List Stmt} {dn en : Str} {np hpos pos : Pos} {D : Addr} {ie : Nat} {Cs : Addr → Prop} {tb : WK → TS} {ts : TS} (hx : X.ex = []) (hst : X.stack = X.env :: X.outer) (hfr : X.env.frame = some X.env.locals) (hN : X.N.Nodup) (hi : X.N[ie]? = some en) (hl : X.env.kindOf en = some .local)
    (hgD : Gl X dn) (hmD : X.mg dn = some (.ref D)) (eD : ExC X.K D) (hCs : ∀ c, Cs c → ExC X.K c ∧ PySem.W.mroIn X.K c (.ref D) = some true)
    (hb : ∀ pins XE W, WshT (X.tried pins XE) W → PSs (X.tried pins XE) body (tb W)) (hs : ∀ v, PSs (X.marked v) (b0 :: suite) ts) (hdb : (dn == ("__debug__" : Str)) = false := by decide) :
    PS X (.Try body [.ExceptHandler (some (.Name dn np)) (some en) (b0 :: suite) hpos] [] [] pos) (tTryAs ie Cs tb ts) := by
  intro pins s σ H Ds I h
  refine wpAny_Try_except ?_
  refine wpAny_mono (hb pins (fun e s₁ => wpAny (model X.prog X.w) X.A (noteFrame e X.env) (fun _ s₂ => wpAny (model X.prog X.w) X.A (setFlight e none) (fun _ s₃ => wpAny (model X.prog X.w) X.A (handleBy e X.env [.ExceptHandler (some (.Name dn np)) (some en) (b0 :: suite) hpos]) (SP X pins Ds) X.xe s₃) X.xe s₂) X.xe s₁) _ ?_ [] s σ H Ds I.tried h) (fun f s1 q => ?_) fun _ _ z => z
  · intro pins' σ1 H1 s1 x T C I1 xx xT tr hw
    obtain ⟨c, rfl, hc, hts⟩ := hw
    have I2 : Inv X pins σ1 H1 s1 := I1.untried
    have x2 : XOk X pins H1 x := xx.untried
    have T2 : XOk X pins H1 T := xT.untried
    have frm : X.A.frames = some (X.env :: X.outer) := by rw [← hst]; exact I2.ok.frames
    have fly : ∀ {h : Heap} {T : Addr}, Inv X pins σ1 H1 { s1 with heap := h } → Trc h x (.ref c) T → ∃ a0, Heap.FlyingW (hidX X h [x, T]) (X.env :: X.outer) x (.ref c) a0 h := fun {h T} J tr => by
      obtain ⟨oe, vs, a0, oT, ts, he, hcl, h0, hd, h1, hTe, hT, hdT, h3⟩ := tr
      exact ⟨a0, hid_in _ _, hid_none (by simp), hst ▸ J.hidF [x, T], ⟨oe, vs, T, oT, ts, he, ⟨hcl, h0⟩, hd, h1, hid_none (by simp), hTe, hT, hdT, h3⟩⟩
    have two : ∀ {T : Addr}, XOk X pins H1 T → ∀ b ∈ [x, T], XOk X pins H1 b := fun {T} hT b hb => by
      rcases List.mem_cons.mp hb with e | hb
      · rw [e]; exact x2
      · have e : b = T := by simpa using hb
        rw [e]; exact hT
    obtain ⟨a0, fl⟩ := fly (h := s1.heap) I2 tr
    refine wpAny_looks_onW frm hfr fl fun h4 held4 up4 => ?_
    refine wpAny_landsW held4 fun h5 fl5 up5 => ?_
    obtain ⟨I5, T5, xT5, tr5⟩ := I2.left hx (two T2) fl5.1 fl5.2.2.2 (up4.trans up5)
    refine wpAny_handleBy_cons (codeAny_handlers_test (Calls.Name_function_global I5.ok.kind hgD (Calls.loadGlobal_global (by rw [I5.ok.glob]; exact I5.mod.glob.keeps I5.bk) hmD ?_) hdb)) (by intro q; cases q)
    obtain ⟨e1, e2⟩ := hCs c hc
    obtain ⟨_, _, _, _, _, _, _, _, _, _, _, _, _, _, _, _, _, hC, _, _, _, mC⟩ := exc_obj e1 I5.kIn
    obtain ⟨_, _, _, _, _, _, _, _, _, _, _, _, _, _, _, _, _, hD, _, _, TD, _⟩ := exc_obj eD I5.kIn
    have hDB := TD.hasType (X := "BaseException") (b := true) rfl
    obtain ⟨ob, _, _, _, _, hob, hcl, _⟩ := id tr5
    refine exc_up hC hD hob hcl (by rw [List.contains_cons, hDB, Bool.or_true]) (mC _ _ e2) ?_
    refine codeAny_handlers_suite_as ?_
    obtain ⟨a5, fl5'⟩ := fly I5 tr5
    refine lands_againW (s := { s1 with heap := h5 }) fl5' fun h6 fl6 up6 => ?_
    obtain ⟨I6, T6, xT6, tr6⟩ := I5.left hx (two xT5) fl6.1 fl6.2.2.2 up6
    obtain ⟨oe, _, _, _, _, he, hcl6, _⟩ := id tr6
    have I7 := I6.xtrack (o := excO x c) x2 ⟨⟨oe, he, hcl6⟩, ⟨oe, he⟩, fun h1 h2 ⟨o, z1, z2⟩ kk => ⟨o, kk o z1, z2⟩⟩
    refine store_ok I7 hN hi (.inl hl) (v := .ref x) rfl (fun s8 I8 => ?_) (.inr hl)
    refine wpAny_mono (hs (.ref x) pins s8 _ _ _ (I8.marked _) (hts x x2.trk)) (fun f s9 q9 => ?_) fun _ _ z => z.elim
    cases f with
    | next =>
      obtain ⟨σ9, H9, I9, q9⟩ := q9
      have I9' : Inv X pins σ9 H9 s9 := Inv.unmarked (hd := I2.ok.hd) (fr := I2.ok.frames) I9
      obtain ⟨m, hm⟩ := I9'.loc
      refine wpAny_nameGoes_keeps hl hm.1 (by rw [I9'.ok.kind]; rfl) fun h' v hn hss => ?_
      exact ⟨_, _, I9'.gone hN hi hm hn hss, q9⟩
    | brk => obtain ⟨_, _, _, z⟩ := q9; exact z.elim
    | cont => obtain ⟨_, _, _, z⟩ := q9; exact z.elim
    | ret u => obtain ⟨_, _, _, _, _, z⟩ := q9; exact z.elim
  · have q' := SP.untried q
    cases f with
    | next => exact wpAny_execs_nil q'
    | brk => exact q'
    | cont => exact q'
    | ret u => exact q'
/-! ### isinstance of what was caught, of its very class -/
theorem isi_exact {K : PySem.W.Frag} {x c : Value} {Hh : Heap → Prop} (ty : ∀ (M : Model) (h : Heap), Hh h → PySem.W.Looks M h (typeOf x) c) : Answers (fun s => Hh s.heap) x c true := by
  intro dep tk prog w A R s hs
  obtain ⟨h0, g, d, tt, os⟩ := s
  obtain ⟨p, hq⟩ := hs
  have LT := ty (model prog w) h0 p
  unfold Builtin.«isinstance.nested»
  refine wpAny_bind (LT.at ?_)
  rw [if_pos (by simp)]
  first
    | exact wpAny_bind (wpAny_rule (hq tt))
    | exact wpAny_bind (wpAny_rule (wpAny_pure (hq tt)))
    | ((repeat lk); exact hq tt)
end L2
namespace L2
open PySem PySem.Spec PyProof.Rows
theorem call_isiX {X : Cx} : CallR X (.builtin "isinstance") (fun xs H Q => ∃ x c, xs = [.ref x, .ref c] ∧ H x = some (excO x c) ∧ Q (.bl true) H) := by
  intro pins s σ H xs us Q I r h
  obtain ⟨x, c, rfl, hx, q⟩ := h
  obtain ⟨v1, v2, rfl, r1, r2⟩ := vals2 r
  cases r1
  cases r2
  obtain ⟨⟨o, e, hc⟩, _, _⟩ := (show ObjOk X.prog X.w H s.heap x (excO x c) from I.hok x _ hx)
  have an := isi_exact (K := X.K) (x := .ref x) (c := .ref c) (Hh := fun h => ∃ o, h.get? x = some o ∧ o.cls = .ref c) fun M h ⟨o, z1, z2⟩ => z2 ▸ (PySem.W.Looks.ld z1).andThen .now
  exact call_isinstance (S := fun _ R s => (∃ o, s.heap.get? x = some o ∧ o.cls = .ref c) ∧ ∀ tk, R (.ok (.ret (.bool true))) { s with toks := tk }) (fun prog w A R s hs => isinstance_outer (an 0 _ prog w A R s hs) (by intro z; cases z)) ⟨⟨o, e, hc⟩, fun tk => ⟨.bl true, H, I.tok tk, rfl, q⟩⟩
end L2

namespace L2
open PySem PySem.Spec PyProof.Rows
section
variable {prog : Program} {w : World} {A : Around} {E : Value → Shared → Prop} {s : Shared}
end
end L2

namespace L2
open PySem PySem.Spec PyProof.Rows
section
variable {prog : Program} {w : World} {A : Around} {E : Value → Shared → Prop} {s : Shared}
end
section
variable {X : Cx}
/-- an object of ours that lies there untracked is tracked from here on -/
theorem Inv.track {pins : List (Addr × Obj)} {σ : St} {H : Hp} {s : Shared} {a : Addr} {o : HO} (I : Inv X pins σ H s) (f : FpOk X pins H a) (new : ObjOk X.prog X.w (upd H a o) s.heap a o) : Inv X pins σ (upd H a o) s := by
  obtain ⟨f0, f1, f2, f3, f4, f5⟩ := f
  have ne : ∀ b u, H b = some u → b ≠ a := fun b u e => ne_of_none e f0
  refine I.step (g' := s.gens) (t' := s.toks) (d' := s.drawn) (h' := s.heap) (ch := [a]) (fun b hb => ?_) (fun b o _ _ _ e _ => e) (fun b o _ _ _ e _ => ⟨o.slots, e⟩) (fun b o hc e n => ?_) (fun b o _ e => ⟨o, e⟩) (fun b xs e => by rw [upd_ne (ne b _ e)]; exact e) (fun b o u e => by rw [upd_ne (ne b _ e)]; exact e)
    (fun b ps e => ⟨#[], by rw [upd_ne (ne b _ e), e]; simp⟩) (fun m hm => hm) (fun b u e => ?_) I.bare
  · have eb : b = a := by simpa using hb
    rw [eb]
    exact ⟨f3, f1, f4, f5⟩
  · rw [upd_ne (fun z => hc (by simp [z]))]
    exact n
  · by_cases hb : b = a
    · rw [hb, upd_same] at e
      cases e
      rw [hb]
      exact new
    · rw [upd_ne hb] at e
      exact (I.hok b u e).stay (fun c v _ q => q) (fun c q => by rw [upd_ne (ne c _ q)]; exact q) fun c xs q => by rw [upd_ne (ne c _ q)]; exact q
end
end L2

namespace L2
open PySem PySem.Spec PyProof.Rows
section
variable {X : Cx}
end
end L2

namespace L2
open PySem PySem.Spec PyProof.Rows
/-! ### several records of ours turned -/
theorem Inv.turnedL {X : Cx} {pins : List (Addr × Obj)} {σ : St} {H : Hp} {s : Shared} {h' : Heap} {t' : Nat} {fp : List Addr} (I : Inv X pins σ H s) (k : ∀ b o, b ∉ fp → s.heap.get? b = some o → h'.get? b = some o) (hf : ∀ b ∈ fp, FpOk X pins H b) : Inv X pins σ H { s with heap := h', toks := t' } := by
  have nit : ∀ b u, H b = some u → b ∉ fp := fun b u e z => by rw [(hf b z).1] at e; cases e
  refine I.step (g' := s.gens) (d' := s.drawn) (ch := fp) (fun b hb => ?_) (fun b o _ _ hc e _ => k b o hc e) (fun b o _ _ hc e _ => ⟨o.slots, k b o hc e⟩) (fun _ _ _ _ n => n)
    (fun b o hc e => ⟨o, k b o hc e⟩) (fun _ _ e => e) (fun _ _ _ e => e) (fun b ps e => ⟨#[], by rw [e]; simp⟩) (fun m hm => ?_) (fun b u e => ?_) I.bare
  · obtain ⟨f0, f1, f2, f3, f4, f5⟩ := hf b hb
    exact ⟨f3, f1, f4, f5⟩
  · obtain ⟨o, es, ep, ho, r⟩ := hm
    exact ⟨o, es, ep, k _ o (fun z => (hf _ z).2.1 rfl) ho, r⟩
  · refine (I.hok b u e).stay (fun c v hc q => k c v ?_ q) (fun _ q => q) fun _ _ q => q
    rcases hc with z | z
    · rw [z]; exact nit b u e
    · exact nit c _ z
/-! ### enumerate(list), walked by a pair of names -/
def Ite (K : PySem.W.Frag) (a : Addr) : It :=
  ⟨fun i H => ∃ xs x, SqL K H a xs ∧ xs[i]? = some x, fun i H v H' => ∃ T x, H T = none ∧ v = .ref T ∧ H' = upd H T (.tup [.int (i : Int), x]) ∧ ∀ xs, SqL K H a xs → xs[i]? = some x, fun i H => ∃ xs, SqL K H a xs ∧ xs.length ≤ i⟩
theorem turn_enum {P : Program} {w : World} {K : PySem.W.Frag} {es : List Expr} {k : Nat} {pos : Pos} (a e it : Addr) (hei : e ≠ it) : Turn P w K (.Tuple es k pos) (Ite K a) [e, it] e (fun i h => (∃ old, IsEnum h e it ((i : Nat) : Int) old) ∧ h.IsListIter it a i) where
  mem := by simp
  obj := fun i h st b hb => by
    obtain ⟨⟨old, he⟩, o, e2, c, d⟩ := st
    rcases List.mem_cons.mp hb with rfl | hb
    · exact ⟨_, he, fun v z => by
        have z' : Data.fields _ = Data.cell v := z
        cases z'⟩
    · have e3 : b = it := by simpa using hb
      subst e3
      exact ⟨o, e2, fun v z => by rw [d] at z; cases z⟩
  keep := fun i h h' st kk => by
    obtain ⟨⟨old, he⟩, hit⟩ := st
    exact ⟨⟨old, kk e (by simp) _ he⟩, hit.at fun o q => kk it (by simp) o q⟩
  item := by
    intro X hP hw hK hc i pins s σ H E I hf st hg
    subst hP hw hK
    obtain ⟨xs, x, hq, hx⟩ := hg
    obtain ⟨its, rv, p, hz⟩ := I.list hq
    obtain ⟨u, hu, ru⟩ := rv.get hx
    obtain ⟨⟨old, he⟩, hit⟩ := st
    refine wpAny_pyNext_enum_item he hit p.isList (x := u) (by simpa using hu) hei fun h' ho hit' hT hsz hk => ?_
    refine ⟨_, rfl, ?_⟩
    refine wpAny_letOwnedTupleGo_enum ho fun h2 he2 hs2 => ?_
    have hs2' : Heap.SameBut e h' h2 := hs2
    have hel : e < s.heap.objs.size := Heap.lt_size he
    have hil : it < s.heap.objs.size := by obtain ⟨_, q, _⟩ := hit; exact Heap.lt_size q
    have hfr : H s.heap.objs.size = none := I.hok.fresh (Nat.le_refl _)
    have I0 : Inv X pins σ (upd H s.heap.objs.size (.tup [.int (i : Int), x])) { s with heap := s.heap.push { cls := .type "tuple", data := .seq #[.int (i : Int) s.toks, u] }, toks := s.toks + 1 } :=
      I.laid (t' := s.toks + 1) (fun b u e => Heap.get?_push_of_some _ e) (Nat.le_refl _) ⟨by show 2 ≤ sizeLine; decide, [.int (i : Int) s.toks, u], .cons ⟨_, rfl⟩ (.cons ru .nil), ⟨_, Heap.get?_push_size _ rfl, rfl, _, rfl⟩⟩
    have hfb : ∀ b ∈ [e, it], b < s.heap.objs.size := fun b hb => by
      rcases List.mem_cons.mp hb with rfl | hb
      · exact hel
      · have e3 : b = it := by simpa using hb
        rw [e3]; exact hil
    have hn : ∀ b ∈ [e, it], upd H s.heap.objs.size (.tup [.int (i : Int), x]) b = none := fun b hb => by
      rw [upd_ne (Nat.ne_of_lt (hfb b hb))]
      exact (hf b hb).1
    have I2 : Inv X pins σ (upd H s.heap.objs.size (.tup [.int (i : Int), x])) { s with heap := h2, toks := s.toks + 1 } := Inv.turnedL (s := { s with heap := s.heap.push { cls := .type "tuple", data := .seq #[.int (i : Int) s.toks, u] }, toks := s.toks + 1 }) (h' := h2) I0 (t' := s.toks + 1) (fp := [e, it]) (fun b o hb q => by
      have nb : b ≠ e := fun z => hb (by simp [z])
      have nb2 : b ≠ it := fun z => hb (by simp [z])
      refine (hs2'.2 b nb).trans ?_
      rcases Heap.get?_push_cases q with ⟨z1, z2⟩ | q
      · rw [z1, z2]; exact hT
      · exact hk b o nb nb2 q) fun b hb => ⟨hn b hb, (hf b hb).2⟩
    refine ⟨.ref s.heap.objs.size, _, I2, rfl, ⟨s.heap.objs.size, x, hfr, rfl, rfl, fun ys hy => by rw [I.list_inj hy hq]; exact hx⟩, ?_, hn⟩
    refine ⟨⟨u, ?_⟩, hit'.at fun o q => (hs2'.2 it (Ne.symm hei)).trans q⟩
    have e4 : (((i + 1 : Nat) : Nat) : Int) = (i : Int) + 1 := by omega
    rw [e4]
    exact he2
  done := by
    intro X hP hw hK hc i pins s σ H E I hf st hg
    subst hP hw hK
    obtain ⟨xs, hq, hx⟩ := hg
    obtain ⟨its, rv, p, hz⟩ := I.list hq
    obtain ⟨⟨old, he⟩, hit⟩ := st
    have hl := rv.length
    obtain ⟨f0, f1, f2, f3, f4, f5⟩ := hf it (by simp)
    exact wpAny_pyNext_enum_end (I.ok.hd hc) he hit p.isList (by simp; omega) fun h' eb => ⟨rfl, I.turned (t' := s.toks) (fun b o hb e => eb b o hb e) f0 f1 f3 f4 f5⟩
  self := fun _ _ _ _ _ st h => by
    obtain ⟨⟨old, he⟩, _⟩ := st
    exact wpAny_pyIter_enum he h
section
variable {X : Cx}
def iEnum (K : PySem.W.Frag) (ta : TA) : TI := fun σ H R => ta σ H fun vs H1 => ∃ a, vs = [.ref a] ∧ (∃ xs, SqL K H1 a xs) ∧ R (Ite K a) H1
theorem pi_enum {l : Expr} {ta : TA} {es : List Expr} {k : Nat} {tp p pos : Pos} (hg : Gl X "enumerate") (hm : X.mg "enumerate" = none) (ha : PA X [l] ta) (hs : starEach [l] X.env = [(false, eval l X.env)] := by rfl) :
    PI X (.Tuple es k tp) (.Call (.Name "enumerate" p) [l] [] pos) (iEnum X.K ta) := by
  intro pins s σ H R I h
  refine Call_ (ld_blt I hg hm bt_enumerate (PyProof.Rows.callWith_type1 (thn (ha pos pins s σ H _ I h) fun us s1 ⟨vs, H1, I1, r1, q1⟩ => ?_) hs rfl))
  obtain ⟨a, e, ⟨xs, hq⟩, q⟩ := q1
  subst e
  obtain ⟨u, rfl, ru⟩ := vals1 r1
  cases ru
  obtain ⟨its, rv, p, hz⟩ := I1.list hq
  refine call_enumerate_list p.isList fun h' he hit hsz hk => ?_
  refine wpAny_pyIter_enum he ?_
  refine ⟨s1.heap.objs.size + 1, [s1.heap.objs.size + 1, s1.heap.objs.size], _, _, H1, rfl, I1.kept (t' := s1.toks) hk, turn_enum a _ _ (Nat.succ_ne_self _), ⟨⟨_, he⟩, hit⟩, fun b hb => ?_, q⟩
  have hb' : s1.heap.objs.size ≤ b := by
    rcases List.mem_cons.mp hb with rfl | hb
    · exact Nat.le_succ _
    · have e3 : b = s1.heap.objs.size := by simpa using hb
      rw [e3]; exact Nat.le_refl _
  exact I1.fpOk hb' (I1.hok.fresh hb')
end
end L2
namespace L2
open PySem PySem.Spec PyProof.Rows
section
variable {X : Cx}
end
theorem ixN_nat {n j : Nat} (h : j < n) : ixN n (j : Int) = some j := by
  unfold ixN
  rw [if_pos (by omega), if_pos (by omega)]
  rfl
end L2
namespace L2
open PySem PySem.Spec PyProof.Rows
end L2

namespace L2
open PySem PySem.Spec PyProof.Rows
/-! ### a list comprehension of one clause, by names or a tuple of names, with or without a test -/
def cxG (X : Cx) (scope : Scope) (fr : List (Str × Nat)) (xs : List Str) (C : Addr) (ex : List Addr) (s : Shared) (H : Hp) : Cx where
  prog := X.prog
  w := X.w
  K := X.K
  mg := X.mg
  base := X.base
  A := X.A
  N := xs ++ fr.map (·.1)
  s₀ := s
  H₀ := H
  env := compEnvC scope (clOf X.env fr) C X.env
  outer := X.stack
  stack := X.stack
  ex := ex
  fn := fun _ => false
  calm := X.calm
  pn := []
  xe := fun _ _ => False
structure CompG (X : Cx) (scope : Scope) (fr : List (Str × Nat)) (xs : List Str) : Prop where
  clos : closureFor scope X.env = pure (clOf X.env fr)
  cell : ∀ y ∈ scope.names, y.2 ≠ .cell
  kind : scope.kind = .function
  names : ∀ y ∈ scope.names, y.2 = .local → scope.names.lookup y.1 = some .local
  slot : ∀ p ∈ fr, X.N[p.2]? = some p.1 ∧ X.env.kindOf p.1 = some .cell
  has : ∀ y ∈ (relabel scope X.env).names, (y.2 = .cell ∨ y.2 = .free) → y.1 ∈ fr.map (·.1)
  frk : ∀ p ∈ fr, (relabel scope X.env).names.lookup p.1 = some .cell
theorem CompG.of {X : Cx} {scope : Scope} {fr : List (Str × Nat)} {xs : List Str} (clos : closureFor scope X.env = pure (clOf X.env fr)) (cell : ∀ y ∈ scope.names, y.2 ≠ .cell) (kind : scope.kind = .function) (names : ∀ y ∈ scope.names, y.2 = .local → scope.names.lookup y.1 = some .local)
    (slot : ∀ p ∈ fr, X.N[p.2]? = some p.1 ∧ X.env.kindOf p.1 = some .cell) (nf : ∀ z ∈ scope.names, z.2 = .free → z.1 ∈ fr.map (·.1)) (frk : ∀ p ∈ fr, (relabel scope X.env).names.lookup p.1 = some .cell) : CompG X scope fr xs where
  clos := clos
  cell := cell
  kind := kind
  names := names
  slot := slot
  has := fun z hz hk => by
    obtain ⟨⟨n, k⟩, hm, e⟩ := List.mem_map.mp (show z ∈ scope.names.map _ from hz)
    have h2 := cell _ hm
    dsimp only at e h2
    have hn : z.1 = n := by rw [← e]; split <;> rfl
    have hf : k = .free := by
      by_cases q : k = .free
      · exact q
      · have hb : (k == NameKind.free) = false := by simpa using q
        rw [hb] at e
        simp only [Bool.false_and, Bool.false_eq_true, if_false] at e
        subst e
        exact (hk.elim h2 q).elim
    have := nf _ hm hf
    rw [hn]
    exact this
  frk := frk
/-- nothing yet -/
abbrev nons (xs : List Str) : St := List.replicate xs.length none
section
variable {X : Cx} {pins : List (Addr × Obj)} {σ : St} {H : Hp} {s : Shared} {scope : Scope} {fr : List (Str × Nat)} {xs : List Str}
theorem CompG.cells (O : CompG X scope fr xs) (I : Inv X pins σ H s) {y : Str} {c : Addr} (h : (clOf X.env fr).lookup y = some c) : X.env.cells.lookup y = some c := by
  obtain ⟨hm, e⟩ := lookup_map_fst h
  obtain ⟨p, hp, ep⟩ := List.mem_map.mp hm
  have k := (O.slot p hp).2
  rw [ep] at k
  obtain ⟨c', e'⟩ := I.ok.has y (.inl k)
  rw [e'] at e
  rw [e', e]
  rfl
theorem inv_compG {fp : List Addr} (O : CompG X scope fr xs) (I : Inv X pins σ H s) (hf : ∀ b ∈ fp, FpOk X pins H b) (hfs : ∀ b ∈ fp, b < s.heap.objs.size) {g h' : Heap} {tk : Nat} (hg : g = s.heap.push (LCg.lst []))
    (hk : ∀ b o, g.get? b = some o → h'.get? b = some o) (hC : h'.Ns g.objs.size fun _ => none) :
    Inv (cxG X scope fr xs g.objs.size (s.heap.objs.size :: fp) { s with heap := g } H) (X.pn ++ pins ++ [(s.heap.objs.size, LCg.lst [])]) (nons xs ++ frOf fr σ) H { s with heap := h', toks := tk } := by
  have hsz : g.objs.size = s.heap.objs.size + 1 := by rw [hg, Heap.size_push]
  have kp : ∀ b o, s.heap.get? b = some o → g.get? b = some o := fun b o e => by rw [hg]; exact Heap.get?_push_of_some _ e
  have hk0 : ∀ b o, s.heap.get? b = some o → h'.get? b = some o := fun b o e => hk b o (kp b o e)
  have hDo : h'.get? s.heap.objs.size = some (LCg.lst []) := hk _ _ (by rw [hg]; exact Heap.get?_push_size _ rfl)
  have neC : ∀ b, b < s.heap.objs.size → b ≠ g.objs.size := fun b e => by rw [hsz]; exact Nat.ne_of_lt (Nat.lt_succ_of_lt e)
  have hDC : s.heap.objs.size ≠ g.objs.size := by rw [hsz]; exact Nat.ne_of_lt (Nat.lt_succ_self _)
  have hfr : H g.objs.size = none := I.hok.fresh (by rw [hsz]; exact Nat.le_succ _)
  have hfD : H s.heap.objs.size = none := I.hok.fresh (Nat.le_refl _)
  have cne : ∀ y c, X.env.cells.lookup y = some c → c < s.heap.objs.size := fun y c e => by
    obtain ⟨v, q⟩ := I.cell y c e
    exact q.lt
  have nst : ∀ b, b ≠ X.env.locals → b ∉ X.fs → b ∉ frs X.stack := fun b h1 h2 z => (List.mem_cons.mp (I.stkSub b z)).elim h1 h2
  have nstD : s.heap.objs.size ∉ frs X.stack := nst _ (Nat.ne_of_gt I.lt) (I.nofs (Nat.le_refl _))
  refine ⟨⟨I.ok.mod, O.kind, I.ok.glob, I.ok.blt, Nat.le_refl _, ?_, ?_, fun _ _ z _ => (by cases z), I.ok.hd, I.ok.frames, .inl rfl, ?_, ?_, ?_, ?_, ?_, ?_, I.stkFree⟩, rfl, I.bare, Un.kept hk, ?_, ?_, hfr, ?_, ?_, I.hok.kept hk0, ?_⟩
  · intro y z c h1 h2
    exact I.ok.inj y z c (O.cells I h1) (O.cells I h2)
  · intro y hy
    have hm : y ∈ fr.map (·.1) := by
      rcases hy with hy | hy
      · exact O.has (y, _) (PySem.mem_of_lookup hy) (.inl rfl)
      · exact O.has (y, _) (PySem.mem_of_lookup hy) (.inr rfl)
    exact ⟨_, lookup_map_some hm⟩
  · intro b hb
    rcases List.mem_cons.mp hb with rfl | hb
    · exact ⟨hDC, fun y c e => Nat.ne_of_lt (cne y c (O.cells I e))⟩
    · exact ⟨neC b (hfs b hb), fun y c e => (hf b hb).2.2.2.2.1 y c (O.cells I e)⟩
  · intro b o e
    exact ⟨kp b o (I.bs b o e).1, (I.bs b o e).2⟩
  · show X.base.objs.size ≤ g.objs.size
    rw [hsz]
    exact Nat.le_succ_of_le (Nat.le_trans I.ok.bsz I.sz)
  · intro b o e hb
    rcases List.mem_cons.mp hb with z | hb
    · have := Heap.lt_size (I.bs b o e).1
      rw [z] at this
      exact Nat.lt_irrefl _ this
    · rcases (hf b hb).2.2.2.1 with z | z
      · exact I.ok.noex b o e z
      · exact absurd (Nat.lt_of_lt_of_le (Heap.lt_size (I.ok.bs b o e).1) z) (Nat.lt_irrefl _)
  · intro b hb
    rcases List.mem_cons.mp hb with z | hb
    · rw [z]; exact nstD
    · exact nst b (hf b hb).2.1 (hf b hb).2.2.1
  · exact (I.kept (h' := g) (t' := s.toks) kp).stack
  · refine ⟨_, hC, fun i y v e1 e2 e3 => ?_⟩
    have e1a : (xs ++ fr.map (·.1))[i]? = some y := e1
    by_cases hi : i < xs.length
    · rw [List.getElem?_append_left (by simpa using hi)] at e2
      rw [List.getElem?_replicate, if_pos hi] at e2
      cases e2
    · have e1' : (fr.map (·.1))[i - xs.length]? = some y := by
        rw [List.getElem?_append_right (by omega)] at e1a
        exact e1a
      have e2' : (frOf fr σ)[i - xs.length]? = some (some v) := by
        rw [List.getElem?_append_right (by simp; omega)] at e2
        simpa using e2
      generalize i - xs.length = k at e1' e2'
      unfold frOf at e2'
      rw [List.getElem?_map] at e1' e2'
      cases q : fr[k]? with
      | none => rw [q] at e1'; cases e1'
      | some p =>
        rw [q] at e1' e2'
        have ey : p.1 = y := Option.some.inj e1'
        have ev : (σ[p.2]?).join = some v := Option.some.inj e2'
        have hp : p ∈ fr := List.mem_of_getElem? q
        obtain ⟨hN, hK⟩ := O.slot p hp
        have hkk := O.frk p hp
        rw [ey] at hN hK hkk
        have ev' : σ[p.2]? = some (some v) := by
          cases q2 : σ[p.2]? with
          | none => rw [q2] at ev; cases ev
          | some w => rw [q2] at ev; exact congrArg some ev
        obtain ⟨m, hn, hl⟩ := I.loc
        obtain ⟨u, r, l⟩ := hl p.2 y v hN ev' (.inr (.inl hK))
        refine ⟨u, r, ?_⟩
        rcases l with ⟨k1, _⟩ | ⟨_, c, ec, z⟩
        · rw [hK] at k1; cases k1
        · have hm : y ∈ fr.map (·.1) := by rw [← ey]; exact List.mem_map.mpr ⟨p, hp, rfl⟩
          have el := lookup_map_some (env := X.env) hm
          rw [ec] at el
          exact .inr ⟨.inl hkk, c, el, by obtain ⟨o, ho, hd⟩ := z; exact ⟨o, hk0 _ _ ho, hd⟩⟩
  · intro y c e
    obtain ⟨v, o, ho, hd⟩ := I.cell y c (O.cells I e)
    exact ⟨v, o, hk0 _ _ ho, hd⟩
  · intro y c e
    exact I.freeC y c (O.cells I e)
  · intro p hp
    rcases List.mem_append.mp hp with hp | hp
    · cases hp
    · rcases List.mem_append.mp hp with hp | hp
      · obtain ⟨e, n, ne, nf, d⟩ := I.pin p hp
        exact ⟨hk0 _ _ e, n, neC _ (Heap.lt_size e), nst _ ne nf, d⟩
      · have ep : p = (s.heap.objs.size, LCg.lst []) := by simpa using hp
        subst ep
        exact ⟨hDo, hfD, hDC, nstD, fun v z => by cases z⟩
  · show (nons xs ++ frOf fr σ).length = (xs ++ fr.map (·.1)).length
    unfold frOf
    simp
theorem inv_comp_endG {fp : List Addr} {g : Heap} {s' : Shared} {H' : Hp} {σ' : St} {ys : List V} {us : List Value} (I : Inv X pins σ H s) (hf : ∀ b ∈ fp, FpOk X pins H b) (hg : g = s.heap.push (LCg.lst []))
    (J : Inv (cxG X scope fr xs g.objs.size (s.heap.objs.size :: fp) { s with heap := g } H) (X.pn ++ pins ++ [(s.heap.objs.size, LCg.lst us)]) σ' H' s') (hv : Vals ys us) (hl : ys.length ≤ sizeLine) :
    Inv X pins σ (upd H' s.heap.objs.size (.lst ys)) s' ∧ H' s.heap.objs.size = none ∧ FpOk X pins (upd H' s.heap.objs.size (.lst ys)) g.objs.size ∧ ∃ m, s'.heap.Ns g.objs.size m := by
  have hsz : g.objs.size = s.heap.objs.size + 1 := by rw [hg, Heap.size_push]
  have kp : ∀ b o, s.heap.get? b = some o → g.get? b = some o := fun b o e => by rw [hg]; exact Heap.get?_push_of_some _ e
  obtain ⟨eD, nD, _, _, _⟩ := J.pin (s.heap.objs.size, LCg.lst us) (by simp)
  have hDC : g.objs.size ≠ s.heap.objs.size := by rw [hsz]; exact Nat.ne_of_gt (Nat.lt_succ_self _)
  have nD' : ∀ b u, H' b = some u → b ≠ s.heap.objs.size := fun b u e z => by rw [z] at e; rw [e] at nD; cases nD
  have hx : ∀ b o, s.heap.get? b = some o → b ∉ fp → b ∉ s.heap.objs.size :: fp := fun b o e hb z => by
    rcases List.mem_cons.mp z with z | z
    · have := Heap.lt_size e
      rw [z] at this
      exact Nat.lt_irrefl _ this
    · exact hb z
  have bU : Un (frs X.stack) (s.heap.objs.size :: fp) H H' g s'.heap := J.base
  have ltD : ∀ b o, s.heap.get? b = some o → b ≠ s.heap.objs.size := fun b o e => Nat.ne_of_lt (Heap.lt_size e)
  have un : Un (frs X.stack) fp H (upd H' s.heap.objs.size (.lst ys)) s.heap s'.heap := by
    refine ⟨fun b o e n hb he => bU.keep b o (kp b o e) n hb (hx b o e he), fun b o e n hb he => bU.slot b o (kp b o e) n hb (hx b o e he), fun b o e n he => ?_, fun b o e he => bU.there b o (kp b o e) (hx b o e he), fun b xs e => ?_, fun b o u e => ?_, fun b ps e => ?_⟩
    · rw [upd_ne (ltD b o e)]; exact bU.free b o (kp b o e) n (hx b o e he)
    · have q := bU.tups b xs e
      rw [upd_ne (nD' b _ q)]; exact q
    · have q := bU.frzs b o u e
      rw [upd_ne (nD' b _ q)]; exact q
    · obtain ⟨more, q⟩ := bU.tbls b ps e
      exact ⟨more, by rw [upd_ne (nD' b _ q)]; exact q⟩
  have hok : HOk X.prog X.w (upd H' s.heap.objs.size (.lst ys)) s'.heap := fun b u e => by
    by_cases hb : b = s.heap.objs.size
    · rw [hb, upd_same] at e
      cases e
      rw [hb]
      exact ⟨hl, us, us.length, hv, eD⟩
    · rw [upd_ne hb] at e
      exact (J.hok b u e).stay (fun c v _ q => q) (fun c q => by rw [upd_ne (nD' c _ q)]; exact q) fun c xs q => by rw [upd_ne (nD' c _ q)]; exact q
  have os : s'.os = s.os := J.os
  refine ⟨I.call' os un hok J.bare fun b hb => ⟨(hf b hb).2.2.2.1, (hf b hb).2.1, (hf b hb).2.2.2.2⟩, nD, ?_, ?_⟩
  · refine I.fpOk (H' := upd H' s.heap.objs.size (.lst ys)) (b := g.objs.size) (by rw [hsz]; exact Nat.le_succ _) ?_
    rw [upd_ne hDC]
    exact J.free
  · obtain ⟨m, hn, _⟩ := J.loc
    exact ⟨m, hn⟩
end
/-- the tests of a clause -/
def PTs (X : Cx) (ifs : List Expr) (t : TT) : Prop :=
  ∀ (pins : List (Addr × Obj)) (s : Shared) (σ : St) (H : Hp) (Q : Bool → Hp → Prop), Inv X pins σ H s → t σ H Q →
    wpAny (model X.prog X.w) X.A (forIn ifs true fun c r => if r = true then do let ok ← isTrue c X.env (eval c X.env); pure (ForInStep.yield ok) else pure (ForInStep.yield r)) (fun b s' => ∃ H', Inv X pins σ H' s' ∧ Q b H') X.xe s
def tYes : TT := fun _ H Q => Q true H
theorem pts_nil {X : Cx} : PTs X [] tYes := fun _ _ _ H _ I h => wpAny_tests_nil ⟨H, I, h⟩
theorem pts_one {X : Cx} {c : Expr} {t : TT} (h : PT X c t) : PTs X [c] t := fun pins s σ H Q I q => wpAny_tests_one (h pins s σ H Q I q)
section
variable {prog : Program} {w : World} {A : Around} {s : Shared}
theorem compLoopG {elt target iter : Expr} {ifs : List Expr} {scope : Scope} {pos : Pos} {it acc : Value} {env : Env} {R : Result → Shared → Prop} (I : Nat → Shared → Prop)
    (turn : ∀ n s, I n s → wpAny (model prog w) A (pyNext it) (fun r s₁ => match r with
      | none => R (.ok .next) s₁
      | some v => wpAny (model prog w) A (letOwnedTupleGo target it v) (fun _ s₀ => wpAny (model prog w) A (assign target env v) (fun _ s₂ =>
          wpAny (model prog w) A (forIn ifs true fun c r => if r = true then do let ok ← isTrue c env (eval c env); pure (ForInStep.yield ok) else pure (ForInStep.yield r)) (fun ok s₃ => if ok = true then wpAny (model prog w) A (eval elt env) (fun x s₄ =>
            wpAny (model prog w) A (call (.builtin "list.append") [acc, x]) (fun _ s₅ => ∃ m, m < n ∧ I m s₅) (notedBy (model prog w) A env fun e s' => R (.error e) s') s₄) (notedBy (model prog w) A env fun e s' => R (.error e) s') s₃
            else ∃ m, m < n ∧ I m s₃) (notedBy (model prog w) A env fun e s' => R (.error e) s') s₂)
          (notedBy (model prog w) A env fun e s' => R (.error e) s') s₀) (notedBy (model prog w) A env fun e s' => R (.error e) s') s₁) (notedBy (model prog w) A env fun e s' => R (.error e) s') s)
    (n : Nat) (h : I n s) : codeAny (model prog w) A (.compLoop (.ListComp elt [⟨target, iter, ifs, 0⟩] scope pos) 0 it acc env) R s := by
  refine codeAny_loop rfl I (fun n s hI => ?_) n h
  show wpAny _ A ((compTurn (.ListComp elt [⟨target, iter, ifs, 0⟩] scope pos) 0 it acc env).onRaise (fun x => do noteFrame x env; theTreesLotGoes x)) _ _ s
  refine wpAny_noted ?_
  rw [compTurn_list]
  refine wpAny_bind (wpAny_standAt (wpAny_bind (wpAny_mono (turn n s hI) (fun r s₁ h₁ => ?_) fun _ _ h' => h')))
  cases r with
  | none => exact wpAny_pure h₁
  | some v =>
    refine wpAny_bind (wpAny_mono h₁ (fun _ s₀ h₀' => ?_) fun _ _ h' => h')
    refine wpAny_bind (wpAny_mono h₀' (fun _ s₂ h₂ => ?_) fun _ _ h' => h')
    refine wpAny_bind (wpAny_mono h₂ (fun okb s₃ h₃ => ?_) fun _ _ h' => h')
    cases okb with
    | false => exact wpAny_pure ⟨rfl, h₃⟩
    | true => exact wpAny_bind (wpAny_bind (wpAny_mono h₃ (fun x s₄ h₄ => wpAny_bind (wpAny_mono h₄ (fun _ s₅ h₅ => wpAny_pure (wpAny_pure ⟨rfl, h₅⟩)) fun _ _ h' => h')) fun _ _ h' => h'))
end
/-- the reading: W by the turn, a measure, the items so far, the heap -/
def tCompG (g : TG) (tt : TT) (te : TE) (n : Nat) (fv : St) (J : It) (H1 : Hp) (QQ : List V → Hp → Prop) : Prop :=
  ∃ W : Nat → Nat → List V → Hp → Prop, (∃ m, W 0 m [] H1) ∧ ∀ i m ys H, W i m ys H → ys.length ≤ sizeLine ∧
    ((J.stop i H ∧ QQ ys H) ∨ (J.go i H ∧ ∃ N : List V → Hp → Prop, (∀ zs H2, N zs H2 → ∃ m', m' < m ∧ W (i + 1) m' zs H2) ∧
      ∀ x H', J.yld i H x H' → g x (List.replicate n none ++ fv) H' fun σ2 H2 => σ2.drop n = fv ∧ tt σ2 H2 fun b H3 => if b = true then te σ2 H3 (fun y H4 => N (ys ++ [y]) H4) else N ys H3))
section
variable {X : Cx} {scope : Scope} {fr : List (Str × Nat)} {xs : List Str} {elt iter tg : Expr} {ifs : List Expr} {pos : Pos} {te : TE} {tt : TT} {tgt : TG} {wi : TI}
theorem comp_coreG {pins : List (Addr × Obj)} {σ : St} {H : Hp} {s : Shared} {E : Value → Shared → Prop} {it : Addr} {fp : List Addr} {tn : Nat → Heap → Prop} {J : It} {RR : Value → Addr → Result → Shared → Prop} {QQ : List V → Hp → Prop} (hc : X.calm = true) (O : CompG X scope fr xs)
    (hg0 : ∀ C ex s H, PG (cxG X scope fr xs C ex s H) tg tgt) (ht : ∀ C ex s H, PTs (cxG X scope fr xs C ex s H) ifs tt) (he : ∀ C ex s H, PE (cxG X scope fr xs C ex s H) elt te) (I : Inv X pins σ H s) (T : Turn X.prog X.w X.K tg J fp it tn) (st : tn 0 s.heap) (hf : ∀ b ∈ fp, FpOk X pins H b) (hq : tCompG tgt tt te xs.length (frOf fr σ) J H QQ)
    (fin : ∀ D C H4 ys s4 m, Inv X pins σ (upd H4 D (.lst ys)) s4 → H4 D = none → FpOk X pins (upd H4 D (.lst ys)) C → s4.heap.Ns C m → QQ ys H4 → RR (.ref D) C (.ok .next) s4) :
    wpAny (model X.prog X.w) X.A (newList []) (fun acc s₃ => wpAny (model X.prog X.w) X.A (newFunctionEnv scope X.env.globals (clOf X.env fr) [] X.env.qual none .none (some X.env)) (fun cenv s₄ =>
      codeAny (model X.prog X.w) X.A (.compStart (.ListComp elt [⟨tg, iter, ifs, 0⟩] scope pos) 0 (.ref it) acc { cenv with scope := relabel scope X.env }) (RR acc cenv.locals) s₄) E s₃) E s := by
  obtain ⟨W, ⟨m0, w0⟩, turn⟩ := hq
  have hfs : ∀ b ∈ fp, b < s.heap.objs.size := fun b hb => by
    obtain ⟨o, e, _⟩ := T.obj 0 s.heap st b hb
    exact Heap.lt_size e
  refine wpAny_newObj_type (wpAny_newFunctionEnv O.cell (by intro y hy; simp at hy) (fun h₁ hns₁ hsb₁ => ?_) O.kind)
  dsimp only at hns₁ hsb₁ ⊢
  generalize hH2 : s.heap.push { cls := .type "list", dict := none, data := .seq ([] : List Value).toArray } = g at hns₁ hsb₁ ⊢
  have hg : g = s.heap.push (LCg.lst []) := hH2.symm
  have hsz : g.objs.size = s.heap.objs.size + 1 := by rw [hg, Heap.size_push]
  have hk : ∀ b o, g.get? b = some o → h₁.get? b = some o := fun b o e => hsb₁.extBut b o (Nat.ne_of_lt (Heap.lt_size e)) (Heap.get?_push_of_some _ e)
  have kp : ∀ b o, s.heap.get? b = some o → h₁.get? b = some o := fun b o e => hk b o (by rw [hg]; exact Heap.get?_push_of_some _ e)
  have J0 := inv_compG (h' := h₁) (tk := s.toks + ([] : List (Str × Value)).length) O I hf hfs hg hk hns₁
  have stat : ∀ {H' : Hp} {us : List Value}, (∀ b ∈ fp, H' b = none) → ∀ b ∈ fp, FpOk (cxG X scope fr xs g.objs.size (s.heap.objs.size :: fp) { s with heap := g } H) (X.pn ++ pins ++ [(s.heap.objs.size, LCg.lst us)]) H' b := fun {H' us} hn b hb => by
    obtain ⟨_, f1, f2, f3, f4, f5⟩ := hf b hb
    refine ⟨hn b hb, ?_, fun z => (List.mem_cons.mp (I.stkSub b z)).elim f1 f2, .inl (List.mem_cons_of_mem _ hb), fun y c e => f4 y c (O.cells I e), fun p hp => ?_⟩
    · show b ≠ g.objs.size
      rw [hsz]; exact Nat.ne_of_lt (Nat.lt_succ_of_lt (hfs b hb))
    · rcases List.mem_append.mp hp with hp | hp
      · cases hp
      · rcases List.mem_append.mp hp with hp | hp
        · exact f5 p hp
        · have ep : p = (s.heap.objs.size, LCg.lst us) := by simpa using hp
          rw [ep]
          exact Nat.ne_of_gt (hfs b hb)
  have loop : codeAny (model X.prog X.w) X.A (.compLoop (.ListComp elt [⟨tg, iter, ifs, 0⟩] scope pos) 0 (.ref it) (.ref s.heap.objs.size) (compEnvC scope (clOf X.env fr) g.objs.size X.env))
      (RR (.ref s.heap.objs.size) g.objs.size) { s with heap := h₁, toks := s.toks + ([] : List (Str × Value)).length } := by
    refine compLoopG (fun n s' => ∃ i ys us H', Inv (cxG X scope fr xs g.objs.size (s.heap.objs.size :: fp) { s with heap := g } H) (X.pn ++ pins ++ [(s.heap.objs.size, LCg.lst us)]) (nons xs ++ frOf fr σ) H' s' ∧ Vals ys us ∧ tn i s'.heap ∧ (∀ b ∈ fp, H' b = none) ∧ W i n ys H') ?_ m0
      ⟨0, [], [], H, J0, .nil, T.keep 0 s.heap h₁ st fun b _ o e => kp b o e, fun b hb => (hf b hb).1, w0⟩
    rintro n s3 ⟨i, ys, us, H3, J3, hv, st3, fr3, w3⟩
    obtain ⟨hlen, hh⟩ := turn i n ys H3 w3
    have none_err : ∀ {α : Type} {t : Sem α} {Q : α → Shared → Prop} {E' : Value → Shared → Prop} {s : Shared}, wpAny (model X.prog X.w) X.A t Q (fun _ _ => False) s → wpAny (model X.prog X.w) X.A t Q E' s := fun h => wpAny_mono h (fun _ _ q => q) fun _ _ z => z.elim
    have weakN : ∀ {σ6 : St}, σ6.length = (nons xs ++ frOf fr σ).length → σ6.drop xs.length = frOf fr σ → ∀ (i : Nat) v, (nons xs ++ frOf fr σ)[i]? = some (some v) → σ6[i]? = some (some v) := fun {σ6} hl6 e6 i v e => by
      by_cases hi : i < xs.length
      · rw [List.getElem?_append_left (by simpa using hi), List.getElem?_replicate, if_pos hi] at e
        cases e
      · rw [List.getElem?_append_right (by simp; omega), ← e6, List.getElem?_drop] at e
        have : xs.length + (i - (nons xs).length) = i := by simp; omega
        rw [this] at e
        exact e
    rcases hh with ⟨stop, qn⟩ | ⟨go, N, hN, step⟩
    · refine none_err (thn (T.done (cxG X scope fr xs g.objs.size (s.heap.objs.size :: fp) { s with heap := g } H) rfl rfl rfl hc i _ s3 _ H3 _ J3 (stat fr3) st3 stop) fun r s4 ⟨hr, J4⟩ => ?_)
      subst hr
      obtain ⟨I4, nD, fC, m, hn⟩ := inv_comp_endG I hf hg J4 hv hlen
      exact fin _ _ H3 ys s4 m I4 nD fC hn qn
    · refine none_err (thn (T.item (cxG X scope fr xs g.objs.size (s.heap.objs.size :: fp) { s with heap := g } H) rfl rfl rfl hc i _ s3 _ H3 _ J3 (stat fr3) st3 go) fun r s4 ⟨u, hr, h4⟩ => ?_)
      subst hr
      refine none_err (thn h4 fun _ s5 ⟨v, H5, J5, r5, y5, st5, fr5⟩ => ?_)
      have J5' := J5.pinned (stat fr5) (T.obj _ _ st5)
      refine none_err (thn (hg0 _ _ _ _ _ s5 _ H5 v u _ J5' r5 (step v H5 y5)) fun _ s6 ⟨σ6, H6, J6, e6, q6⟩ => ?_)
      refine none_err (thn (ht _ _ _ _ _ s6 σ6 H6 _ J6 q6) fun b s6' ⟨H6', J6', q6'⟩ => ?_)
      have hl6 : σ6.length = (nons xs ++ frOf fr σ).length := J6.len.trans J3.len.symm
      cases b with
      | false =>
        rw [if_neg Bool.false_ne_true] at q6' ⊢
        obtain ⟨m', hm, w7⟩ := hN ys H6' q6'
        have pinF : ∀ b ∈ fp, ∀ o, s5.heap.get? b = some o → s6'.heap.get? b = some o ∧ H6' b = none := fun b hb o e => by
          obtain ⟨q1, q2, _⟩ := J6'.pin (b, o) (List.mem_append_right _ (List.mem_append_right _ (mem_pinsAt hb e)))
          exact ⟨q1, q2⟩
        refine ⟨m', hm, i + 1, ys, us, H6', J6'.unpinned.weak (σ' := nons xs ++ frOf fr σ) hl6.symm (weakN hl6 e6), hv, T.keep _ _ _ st5 fun b hb o e => (pinF b hb o e).1, fun b hb => ?_, w7⟩
        obtain ⟨o, e, _⟩ := T.obj _ _ st5 b hb
        exact (pinF b hb o e).2
      | true =>
        rw [if_pos rfl] at q6' ⊢
        refine none_err (thn (he _ _ _ _ _ s6' _ H6' _ J6' q6') fun u7 s7 ⟨v7, H7, J7, r7, q7⟩ => ?_)
        obtain ⟨m', hm, w7⟩ := hN _ H7 q7
        obtain ⟨eD, nD, dC, dF, dd⟩ := J7.pin (s.heap.objs.size, LCg.lst us) (List.mem_append_right _ (List.mem_append_left _ (List.mem_append_right _ (by simp))))
        have hvl := hv.length
        refine append_at (hsz := by show us.toArray.size ≤ sizeLine; rw [List.size_toArray, ← hvl]; exact hlen) eD fun h8 hs8 hD8 => ?_
        have pinD : ∀ p ∈ X.pn ++ pins, p.1 ≠ s.heap.objs.size := fun p hp z => by
          have := Heap.lt_size (I.pin p hp).1
          rw [z] at this
          exact Nat.lt_irrefl _ this
        have J7a : Inv (cxG X scope fr xs g.objs.size (s.heap.objs.size :: fp) { s with heap := g } H) (X.pn ++ pins) _ H7 s7 := J7.pins_of fun p hp => J7.pin p (List.mem_append_right _ (List.mem_append_left _ (List.mem_append_left _ hp)))
        have J8 : Inv (cxG X scope fr xs g.objs.size (s.heap.objs.size :: fp) { s with heap := g } H) (X.pn ++ pins) _ H7 { s7 with heap := h8 } := J7a.turned (t' := s7.toks) (fun b o hb e => (hs8.2 b hb).trans e) nD dC (.inl List.mem_cons_self) (fun y c e z => by
          obtain ⟨w', q⟩ := I.cell y c (O.cells I e)
          have := q.lt
          rw [z] at this
          exact Nat.lt_irrefl _ this) (fun p hp => (List.mem_append.mp hp).elim (fun z => by cases z) (pinD p))
        have J9 : Inv (cxG X scope fr xs g.objs.size (s.heap.objs.size :: fp) { s with heap := g } H) (X.pn ++ pins ++ [(s.heap.objs.size, LCg.lst (us ++ [u7]))]) _ H7 { s7 with heap := h8 } := J8.pins_of fun p hp => by
          rcases List.mem_append.mp hp with hp | hp
          · exact J8.pin p (List.mem_append_right _ hp)
          · have ep : p = (s.heap.objs.size, LCg.lst (us ++ [u7])) := by simpa using hp
            subst ep
            exact ⟨hD8.trans (congrArg some (LCg.lst_snoc us u7)), nD, dC, dF, fun v z => by cases z⟩
        have J10 := J9.weak (σ' := nons xs ++ frOf fr σ) hl6.symm (weakN hl6 e6)
        have pinF : ∀ b ∈ fp, ∀ o, s5.heap.get? b = some o → s7.heap.get? b = some o ∧ H7 b = none := fun b hb o e => by
          obtain ⟨q1, q2, _⟩ := J7.pin (b, o) (List.mem_append_right _ (List.mem_append_right _ (mem_pinsAt hb e)))
          exact ⟨q1, q2⟩
        refine ⟨m', hm, i + 1, ys ++ [v7], us ++ [u7], H7, J10, hv.append (.cons r7 .nil), T.keep _ _ _ st5 fun b hb o e => (hs8.2 b (Nat.ne_of_lt (hfs b hb))).trans (pinF b hb o e).1, fun b hb => ?_, w7⟩
        obtain ⟨o, e, _⟩ := T.obj _ _ st5 b hb
        exact (pinF b hb o e).2
  exact codeAny_compStart_list loop (T.self X.A 0 _ _ _ (T.keep 0 s.heap h₁ st fun b _ o e => kp b o e) loop)
/-- [elt for tg in iter if ..] -/
def tCompE (wi : TI) (g : TG) (tt : TT) (te : TE) (n : Nat) (fr : List (Str × Nat)) : TE := fun σ H Q => wi σ H fun J H1 => tCompG g tt te n (frOf fr σ) J H1 fun ys H2 => ∀ D, H2 D = none → Q (.ref D) (upd H2 D (.lst ys))
theorem pe_compG (hc : X.calm = true) (O : CompG X scope fr xs) (hi : PI X tg iter wi) (hg0 : ∀ C ex s H, PG (cxG X scope fr xs C ex s H) tg tgt) (ht : ∀ C ex s H, PTs (cxG X scope fr xs C ex s H) ifs tt) (he : ∀ C ex s H, PE (cxG X scope fr xs C ex s H) elt te) (hs : ∀ x, foldedSetIterable iter X.env x = pure x := by intro _; rfl) :
    PE X (.ListComp elt [⟨tg, iter, ifs, 0⟩] scope pos) (tCompE wi tgt tt te xs.length fr) := by
  intro pins s σ H Q I h
  rw [eval_ListComp]
  refine wpAny_comprehension_free (use := none) rfl hs O.clos O.kind O.names (thn (hi pins s σ H _ I h) fun xv s1 h1 => thn h1 fun itv s2 h2 => ?_)
  obtain ⟨it, fp, tn, J, H2, e, I2, T, st2, f2, q2⟩ := h2
  subst e
  refine comp_coreG (RR := fun acc C => compPost (model X.prog X.w) X.A X.xe none (EP X pins σ Q) acc C) hc O hg0 ht he I2 T st2 f2 q2 ?_
  intro D C H4 ys s4 m I4 nD fC hn q4
  refine ⟨m, hn, fun h' hs' => ?_⟩
  obtain ⟨g0, g1, g2, g3, g4, g5⟩ := fC
  exact ⟨.ref D, _, I4.turned (t' := s4.toks) (fun b o hb e => (hs'.2 b hb).trans e) g0 g1 g3 g4 g5, rfl, q4 D nD⟩
/-- y = [elt for ..], y a plain local name -/
def tAsgCompG (i : Nat) (wi : TI) (g : TG) (tt : TT) (te : TE) (n : Nat) (fr : List (Str × Nat)) : TS := fun D σ H => wi σ H fun J H1 => tCompG g tt te n (frOf fr σ) J H1 fun ys H2 => ∀ a, H2 a = none → D.nx (σ.set i (some (.ref a))) (upd H2 a (.lst ys))
theorem ps_setCompG {i : Nat} {y : Str} {py spos : Pos} (hc : X.calm = true) (hN : X.N.Nodup) (hi' : X.N[i]? = some y) (hy : X.env.scope.names.lookup y = some .local) (O : CompG X scope fr xs) (hi : PI X tg iter wi) (hg0 : ∀ C ex s H, PG (cxG X scope fr xs C ex s H) tg tgt) (ht : ∀ C ex s H, PTs (cxG X scope fr xs C ex s H) ifs tt) (he : ∀ C ex s H, PE (cxG X scope fr xs C ex s H) elt te)
    (hsw : swapsWith (.ListComp elt [⟨tg, iter, ifs, 0⟩] scope pos) (some (.Name y py)) spos.line X.env = pure true := by rfl) (hs : ∀ x, foldedSetIterable iter X.env x = pure x := by intro _; rfl) :
    PS X (.Assign [.Name y py] (.ListComp elt [⟨tg, iter, ifs, 0⟩] scope pos) spos) (tAsgCompG i wi tgt tt te xs.length fr) := by
  intro pins s σ H D I h
  rw [exec_Assign_Name_used _ _ _ _ hsw]
  refine wpAny_bind (wpAny_standAt (wpAny_bind ?_))
  show wpAny _ X.A (do let _ ← comprehension (.ListComp elt [⟨tg, iter, ifs, 0⟩] scope pos) scope X.env _ (newList []) false (eval iter X.env) (some (assign (.Name y py) X.env))) _ _ s
  refine wpAny_bind (thn (wpAny_comprehension_free (use := some (assign (.Name y py) X.env)) (Q := fun _ s' => SP X pins D .next s') rfl hs O.clos O.kind O.names (thn (hi pins s σ H _ I h) fun xv s1 h1 => thn h1 fun itv s2 h2 => ?_)) fun _ s' hq => wpAny_pure (wpAny_pure hq))
  obtain ⟨it, fp, tn, J, H2, e, I2, T, st2, f2, q2⟩ := h2
  subst e
  refine comp_coreG (RR := fun acc C => compPost (model X.prog X.w) X.A X.xe (some (assign (.Name y py) X.env)) (fun _ s' => SP X pins D .next s') acc C) hc O hg0 ht he I2 T st2 f2 q2 ?_
  intro a C H4 ys s4 m I4 nD fC hn q4
  obtain ⟨g0, g1, g2, g3, g4, g5⟩ := fC
  obtain ⟨oC, eC, hoC⟩ := LCg.ns_obj hn
  have I5 : Inv X (pins ++ [(C, oC)]) σ (upd H4 a (.lst ys)) s4 := I4.pins_of fun p hp => by
    rcases List.mem_append.mp hp with hp | hp
    · exact I4.pin p (List.mem_append_right _ hp)
    · have ep : p = (C, oC) := by simpa using hp
      subst ep
      obtain ⟨es, epp, hd, _⟩ := hoC
      exact ⟨eC, g0, g1, g2, fun v z => by rw [hd] at z; cases z⟩
  show wpAny _ X.A (assign (.Name y py) X.env (.ref a)) _ _ _
  refine wpAny_assign_Name (store_ok I5 hN hi' (.inl hy) (v := .ref a) rfl (fun s6 I6 => ?_) (.inr hy))
  obtain ⟨e6, _⟩ := I6.pin (C, oC) (List.mem_append_right _ (List.mem_append_right _ (by simp)))
  refine ⟨m, hoC.ns e6, fun h' hs' => ?_⟩
  exact ⟨_, _, I6.unpinned.turned (t' := s6.toks) (fun b o hb e => (hs'.2 b hb).trans e) g0 g1 g3 g4 g5, q4 a nD⟩
end
/-! ### the forms one uses -/
theorem compG_list {K : PySem.W.Frag} {a : Addr} {xs : List V} {g : TG} {tt : TT} {te : TE} {n : Nat} {fv : St} {H1 : Hp} {QQ : List V → Hp → Prop} (Pv : Nat → List V → Hp → Prop) (hz : xs.length ≤ sizeLine) (h0 : Pv 0 [] H1) (hl : ∀ i ys H, i ≤ xs.length → Pv i ys H → SqL K H a xs)
    (hs : ∀ i x ys H, xs[i]? = some x → Pv i ys H → g x (List.replicate n none ++ fv) H fun σ2 H2 => σ2.drop n = fv ∧ tt σ2 H2 fun b H3 => if b = true then te σ2 H3 (fun y H4 => Pv (i + 1) (ys ++ [y]) H4) else Pv (i + 1) ys H3) (hd : ∀ ys H, Pv xs.length ys H → QQ ys H) (hy : ∀ i ys H, Pv i ys H → ys.length ≤ i)
    : tCompG g tt te n fv (Itl K a) H1 QQ := by
  refine ⟨fun i m ys H => m = xs.length - i ∧ i ≤ xs.length ∧ Pv i ys H, ⟨xs.length, by simp, Nat.zero_le _, h0⟩, ?_⟩
  rintro i m ys H ⟨rfl, hi, p⟩
  have q := hl i ys H hi p
  have hyl := hy i ys H p
  refine ⟨by omega, ?_⟩
  by_cases hlt : i < xs.length
  · refine .inr ⟨⟨xs, xs[i], q, by simp [hlt]⟩, fun zs H2 => Pv (i + 1) zs H2, fun zs H2 p2 => ⟨xs.length - (i + 1), by omega, rfl, hlt, p2⟩, fun x H' y => ?_⟩
    obtain ⟨e, y⟩ := y
    subst e
    exact hs i x ys _ (y xs q) p
  · have e : i = xs.length := by omega
    subst e
    exact .inl ⟨⟨xs, q, Nat.le_refl _⟩, hd ys H p⟩
theorem compG_enum {K : PySem.W.Frag} {a : Addr} {xs : List V} {g : TG} {tt : TT} {te : TE} {n : Nat} {fv : St} {H1 : Hp} {QQ : List V → Hp → Prop} (Pv : Nat → List V → Hp → Prop) (hz : xs.length ≤ sizeLine) (h0 : Pv 0 [] H1) (hl : ∀ i ys H, i ≤ xs.length → Pv i ys H → SqL K H a xs)
    (hs : ∀ i x ys H T, xs[i]? = some x → Pv i ys H → H T = none → g (.ref T) (List.replicate n none ++ fv) (upd H T (.tup [.int (i : Int), x])) fun σ2 H2 => σ2.drop n = fv ∧ tt σ2 H2 fun b H3 => if b = true then te σ2 H3 (fun y H4 => Pv (i + 1) (ys ++ [y]) H4) else Pv (i + 1) ys H3) (hd : ∀ ys H, Pv xs.length ys H → QQ ys H) (hy : ∀ i ys H, Pv i ys H → ys.length ≤ i)
    : tCompG g tt te n fv (Ite K a) H1 QQ := by
  refine ⟨fun i m ys H => m = xs.length - i ∧ i ≤ xs.length ∧ Pv i ys H, ⟨xs.length, by simp, Nat.zero_le _, h0⟩, ?_⟩
  rintro i m ys H ⟨rfl, hi, p⟩
  have q := hl i ys H hi p
  have hyl := hy i ys H p
  refine ⟨by omega, ?_⟩
  by_cases hlt : i < xs.length
  · refine .inr ⟨⟨xs, xs[i], q, by simp [hlt]⟩, fun zs H2 => Pv (i + 1) zs H2, fun zs H2 p2 => ⟨xs.length - (i + 1), by omega, rfl, hlt, p2⟩, fun v H' y => ?_⟩
    obtain ⟨T, x, hT, rfl, rfl, y⟩ := y
    exact hs i x ys _ T (y xs q) p hT
  · have e : i = xs.length := by omega
    subst e
    exact .inl ⟨⟨xs, q, Nat.le_refl _⟩, hd ys H p⟩
end L2
namespace L2
open PySem PySem.Spec PyProof.Rows
/-! ### rules whose reading names the part K itself (for the blocks of comprehensions) -/
section
variable {X : Cx} {K : PySem.W.Frag} {pos : Pos}
theorem ixK_list (h : X.K = K) : IxR X (rIxL K) := h ▸ ix_list
theorem ixK_tup (h : X.K = K) : IxR X (rIxT K) := h ▸ ix_tup
theorem pgK_tup {es : List Expr} {k : Nat} {t : TGs} {n : Nat} (hK : X.K = K) (hc : X.calm = true) (h : PGs X es t) (hn : (assignEach es X.env).length = n := by rfl) (hst : (assignEach es X.env).findIdx? (·.1) = none := by rfl) : PG X (.Tuple es k pos) (gTup K n t) := hK ▸ pg_tup hc h hn hst
theorem callK_len (h : X.K = K) : CallR X (.builtin "len") (fun xs H Q => ∃ p ys, xs = [.ref p] ∧ (SqL K H p ys ∨ SqT K H p ys) ∧ Q (.int ys.length) H) := h ▸ call_len_seq
theorem callK_list (h : X.K = K) : CallR X (.type "list") (fun xs H Q => ∃ p ys, xs = [.ref p] ∧ (SqL K H p ys ∨ SqT K H p ys) ∧ ∀ l, H l = none → Q (.ref l) (upd H l (.lst ys))) := h ▸ call_list_of
end
end L2

namespace L2
open PySem PySem.Spec PyProof.Rows
section
variable {X : Cx}
/-- xs.insert(k, y), k within the list -/
def rInsert : V → List V → Hp → VK → Prop := fun x vs H Q => ∃ l xs k y, x = .ref l ∧ vs = [.int k, y] ∧ H l = some (.lst xs) ∧ 0 ≤ k ∧ k ≤ xs.length ∧ xs.length < sizeLine ∧ Q .non (upd H l (.lst (xs.take k.toNat ++ y :: xs.drop k.toNat)))
theorem mt_insert : MtM X "list.insert" rInsert := by
  intro pins s σ H x vs v us Q I rx rv h
  obtain ⟨l, xs, k, y, rfl, rfl, hH, h0, hk, hz, q⟩ := h
  cases rx
  obtain ⟨u1, u2, rfl, r1, r2⟩ := rv.two
  obtain ⟨t, rfl⟩ := r1
  obtain ⟨z, its, n, r, hl, e⟩ := I.lstM hH
  have hn := line63
  have hfit : ¬ (!Builtin.List.listFitsIndex k) = true := by
    rw [fitsIndex_both (by omega) (by omega)]
    exact Bool.false_ne_true
  refine call_meets F.slot_list_insert ⟨_, e, rfl⟩ F.entry_list_insert (F.args_list_insert_3 _ _ _) (AutoListH.list_insert_list_int_val_1 l its.toArray n k t u2 hfit (by rw [List.size_toArray]; omega)) ⟨e, ?_⟩
  refine ⟨.non, _, I.lset (its' := its.take k.toNat ++ u2 :: its.drop k.toNat) hH e ?_ ((r.take _).append (.cons r2 (r.drop _))) ?_, rfl, q⟩
  · dsimp only
    rw [if_neg (by omega), List.size_toArray, Nat.min_eq_left (by omega)]
    simp
    exact List.take_of_length_le (by rw [List.length_drop]; omega)
  · rw [List.length_append, List.length_cons, List.length_take, List.length_drop]
    omega
/-- sum of a list of ints -/
theorem ints_are : ∀ {ns : List Int} {us : List Value}, Vals (ns.map V.int) us → IntsAre us ns
  | [], _, .nil => .nil
  | n :: ns, _, .cons r rr => by
    obtain ⟨t, rfl⟩ := r
    exact .cons n t (ints_are rr)
theorem call_sum (hc : X.calm = true) : CallR X (.builtin "sum") (fun xs H Q => ∃ (p : Addr) (ns : List Int), xs = [.ref p] ∧ SqL X.K H p (ns.map V.int) ∧ Q (.int ns.sum) H) := by
  intro pins s σ H xs us Q I r h
  obtain ⟨p, ns, rfl, hq, q⟩ := h
  obtain ⟨u, rfl, ru⟩ := vals1 r
  cases ru
  obtain ⟨its, rv, pl, hz⟩ := I.list hq
  have hi := ints_are rv
  obtain ⟨zs, e⟩ := hi.allInts.items
  have hns : (numsOf its) = ns := hi.numsOf
  have hl : s.heap.IsList p (intItems zs) := by rw [← e]; exact pl.isList
  refine sum_intListG (I.ok.hd hc) hl fun h' tk t' hk => ⟨.int ns.sum, H, I.kept (t' := tk) hk, ⟨t', ?_⟩, q⟩
  have h2 : numsOf (intItems zs).toList = ns := by rw [← e]; exact hns
  rw [nums_intItems] at h2
  rw [preSum_eq, List.take_of_length_le (by simp), ← h2]
end
end L2
namespace L2
open PySem PySem.Spec PyProof.Rows
section
variable {X : Cx}
end
end L2

namespace L2
open PySem PySem.Spec PyProof.Rows
section
variable {X : Cx}
end
theorem comp_range3 {lo c : Int} {n : Nat} {te : TE} {fv : St} {H1 : Hp} {QQ : List V → Hp → Prop} (Pv : Nat → List V → Hp → Prop) (hz : n ≤ sizeLine) (h0 : Pv 0 [] H1)
    (hs : ∀ i ys H, i < n → Pv i ys H → te (some (.int (lo + i * c)) :: fv) H fun y H2 => Pv (i + 1) (ys ++ [y]) H2) (hd : ∀ ys H, ys.length = n → Pv n ys H → QQ ys H)
    : tCompR te fv (Itr3 lo c n) H1 QQ := by
  refine ⟨fun i m ys H => m = n - i ∧ i ≤ n ∧ ys.length = i ∧ Pv i ys H, ⟨n, by simp, Nat.zero_le _, rfl, h0⟩, ?_⟩
  rintro i m ys H ⟨rfl, hi, hy, p⟩
  refine ⟨by omega, ?_⟩
  by_cases hlt : i < n
  · refine .inr ⟨hlt, fun y H2 => Pv (i + 1) (ys ++ [y]) H2, fun y H2 p2 => ⟨n - (i + 1), by omega, rfl, hlt, by rw [List.length_append, hy]; rfl, p2⟩, fun x H' y => ?_⟩
    obtain ⟨e, y⟩ := y
    subst e y
    exact hs i ys _ hlt p
  · have e : i = n := by omega
    subst e
    exact .inl ⟨Nat.le_refl _, hd ys H hy p⟩
end L2
namespace L2
open PySem PySem.Spec PyProof.Rows
section
variable {X : Cx} {tg : Expr}
/-- range(a, b, c), a not below nought, c above it -/
def iRngL (ta : TA) : TI := fun σ H R => ta σ H fun vs H1 => ∃ (lo m c : Int) (n : Nat), vs = [.int lo, .int m, .int c] ∧ 0 ≤ lo ∧ lo < 1000 ∧ -1000 < m ∧ m < 2 ^ 61 ∧ (0 < c ∧ c < 1000) ∧ Builtin.Range.rangeSize lo m c = (n : Int) ∧ R (Itr3 lo c n) H1
theorem small_lo {lo m c : Int} (h0 : 0 ≤ lo) (h00 : lo < 1000) (h1 : -1000 < m) (h2 : m < 2 ^ 61) (h3 : 0 < c ∧ c < 1000) : Builtin.Range.small lo m c = true := by
  obtain ⟨h3, h4⟩ := h3
  have hs : 0 ≤ Builtin.Range.rangeSize lo m c ∧ Builtin.Range.rangeSize lo m c ≤ 2 ^ 61 := by
    unfold Builtin.Range.rangeSize
    rw [if_pos h3]
    by_cases h : lo < m
    · rw [if_pos h]
      have q1 : 0 ≤ (m - lo - 1) / c := Int.ediv_nonneg (by omega) (by omega)
      have q2 : (m - lo - 1) / c ≤ (m - lo - 1) := Int.ediv_le_self _ (by omega)
      omega
    · rw [if_neg h]; omega
  unfold Builtin.Range.small Builtin.Range.rangeFitsLong
  simp only [gt_iff_lt, h3, if_true]
  simp
  omega
theorem pi_rangeL {a b c : Expr} {ta : TA} {p pos : Pos} (hg : Gl X "range") (hm : X.mg "range" = none) (ha : PA X [a, b, c] ta) (hs : starEach [a, b, c] X.env = (false, eval a X.env) :: starEach [b, c] X.env := by rfl) (hs2 : (backTo pos (starEach [b, c] X.env)).any (·.1) = false := by rfl) :
    PI X tg (.Call (.Name "range" p) [a, b, c] [] pos) (iRngL ta) := by
  intro pins s σ H R I h
  refine Call_ (ld_blt I hg hm bt_range (PyProof.Rows.callWith_type1 (thn (ha pos pins s σ H _ I h) fun us s1 ⟨vs, H1, I1, r1, q1⟩ => ?_) hs hs2))
  obtain ⟨lo, m, c, n, e, h0, h00, h1, h2, h3, hn, q⟩ := q1
  subst e
  cases r1 with
  | cons r rr =>
    cases rr with
    | cons r' rr =>
      cases rr with
      | cons r'' rr =>
        cases rr
        obtain ⟨t, rfl⟩ := r
        obtain ⟨t', rfl⟩ := r'
        obtain ⟨t'', rfl⟩ := r''
        refine call_range_3 (by have := h3.1; omega) ?_ (Or.inl (PyProof.noPylong_small (by have := h3.1; have := h3.2; omega)))
        refine wpAny_pyIter_range (IsRange.new ..) (small_lo h0 h00 h1 h2 h3) ?_
        have I2 : Inv X pins σ H1 { s1 with heap := s1.heap.push { cls := .type "range", data := .fields #[.int lo t, .int m t', .int c t''] }, toks := s1.toks } := I1.kept fun b o e => Heap.get?_push_of_some _ e
        refine ⟨(s1.heap.push { cls := .type "range", data := .fields #[.int lo t, .int m t', .int c t''] }).objs.size, [(s1.heap.push { cls := .type "range", data := .fields #[.int lo t, .int m t', .int c t''] }).objs.size], _, _, H1, rfl,
          I2.kept (t' := s1.toks) fun b o e => Heap.get?_push_of_some _ e, turn_range3 _ lo c n, ?_, fun b hb => ?_, q⟩
        · have e1 : lo + ((0 : Nat) : Int) * c = lo := by simp
          have e2 : ((n : Nat) : Int) - ((0 : Nat) : Int) = Builtin.Range.rangeSize lo m c := by rw [hn]; simp
          show IsRangeIter _ _ (lo + ((0 : Nat) : Int) * c) ((n : Int) - ((0 : Nat) : Int)) c
          rw [e1, e2]
          exact Heap.get?_push_size _ rfl
        · have e : b = (s1.heap.push { cls := .type "range", data := .fields #[.int lo t, .int m t', .int c t''] }).objs.size := by simpa using hb
          subst e
          exact I2.fpOk (Nat.le_refl _) (I2.hok.fresh (Nat.le_refl _))
end
end L2

namespace L2
open PySem PySem.Spec PyProof.Rows
theorem bt_min : bootBuiltins "min" = some (.builtin "min") := by decide +kernel
theorem bt_max : bootBuiltins "max" = some (.builtin "max") := by decide +kernel
section
variable {X : Cx}
def rCatS (K : PySem.W.Frag) : R2 := fun x y H Q => ∃ l b xs zs, x = .ref l ∧ y = .ref b ∧ SqL K H l xs ∧ SqL K H b zs ∧ xs.length + zs.length ≤ sizeLine ∧ ∀ p, H p = none → Q (.ref p) (upd H p (.lst (xs ++ zs)))
theorem op_catS : OpR X (binaryOp .Add) (rCatS X.K) := by
  intro pins s σ H x y v u Q I rx ry h
  obtain ⟨l, b, xs, zs, rfl, rfl, hH, hB, hz, q⟩ := h
  cases rx
  cases ry
  obtain ⟨its, r, pl, _⟩ := I.list hH
  obtain ⟨its2, r2, pl2, _⟩ := I.list hB
  obtain ⟨⟨cls, dd, data, sl⟩, ho, hc, n, hd⟩ := pl.isList
  obtain ⟨⟨cls2, dd2, data2, sl2⟩, ho2, hc2, n2, hd2⟩ := pl2.isList
  simp only at hc hd hc2 hd2
  subst hc hd hc2 hd2
  have ea : its.toArray ++ its2.toArray = (its ++ its2).toArray := by simp
  have e1 := r.length
  have e2 := r2.length
  refine concat_meets ⟨_, ho, rfl⟩ ⟨_, ho2, rfl⟩ noFill_list_add seq_list_add PySem.F.slot_list_add PySem.F.entry_list_add (PySem.F.args_list_add_2 _ _) (list_addW l b its.toArray its2.toArray n n2 dd dd2 sl sl2 (by rw [List.size_toArray, List.size_toArray]; omega)) ⟨ho, ho2, ?_⟩
  rw [ea]
  exact ⟨.ref _, _, I.lnew (t' := s.toks) (r.append r2) (by rw [List.length_append]; omega), rfl, q _ I.fresh⟩
theorem op_mulB : OpR X (binaryOp .Mult) (rI IntMulOk fun i j => .int (i * j)) := opI fun _ _ _ _ _ _ _ hc q => mul_int q hc
theorem nums_are : ∀ {ns : List Int} {us : List Value}, Vals (ns.map V.int) us → IntsAre us ns
  | [], _, .nil => .nil
  | n :: ns, _, .cons r rr => by
    obtain ⟨t, rfl⟩ := r
    exact .cons n t (nums_are rr)
end
end L2
namespace L2
open PySem PySem.Spec PyProof.Rows
theorem bt_sum : bootBuiltins "sum" = some (.builtin "sum") := by decide +kernel
theorem yesT {σ : St} {H : Hp} {A B : Hp → Prop} (h : A H) : tYes σ H fun b H3 => if b = true then A H3 else B H3 :=
  show (if true = true then A H else B H) from iteT (B := B H) h
theorem bt_zip : bootBuiltins "zip" = some (.type "zip") := by decide +kernel
/-! ### zip(list, list), walked by a pair of names -/
def Itz (K : PySem.W.Frag) (a b : Addr) : It :=
  ⟨fun i H => ∃ xs ys x y, SqL K H a xs ∧ SqL K H b ys ∧ xs[i]? = some x ∧ ys[i]? = some y,
   fun i H v H' => ∃ T x y, H T = none ∧ v = .ref T ∧ H' = upd H T (.tup [x, y]) ∧ (∀ xs, SqL K H a xs → xs[i]? = some x) ∧ ∀ ys, SqL K H b ys → ys[i]? = some y,
   fun i H => ∃ xs ys, SqL K H a xs ∧ SqL K H b ys ∧ (xs.length ≤ i ∨ ys.length ≤ i)⟩
theorem turn_zip {P : Program} {w : World} {K : PySem.W.Frag} {es : List Expr} {k : Nat} {pos : Pos} (a b z TI TO i1 i2 : Addr) (D : ZipApart z TI TO i1 i2 a b) : Turn P w K (.Tuple es k pos) (Itz K a b) [z, TI, TO, i1, i2] z
    (fun i h => IsZip h z TI TO .none ∧ IsPair h TI (.ref i1) (.ref i2) ∧ (∃ u v, IsPair h TO u v) ∧ h.IsListIter i1 a i ∧ h.IsListIter i2 b i) where
  mem := by simp
  obj := fun i h st c hc => by
    obtain ⟨kz, kI, ⟨u, v, kO⟩, ⟨o1, q1, c1, d1⟩, ⟨o2, q2, c2, d2⟩⟩ := st
    simp only [List.mem_cons, List.not_mem_nil, or_false] at hc
    rcases hc with rfl | rfl | rfl | rfl | rfl
    · exact ⟨_, kz, fun v z => by have z' : Data.fields _ = Data.cell v := z; cases z'⟩
    · exact ⟨_, kI, fun v z => by have z' : Data.seq _ _ = Data.cell v := z; cases z'⟩
    · exact ⟨_, kO, fun v z => by have z' : Data.seq _ _ = Data.cell v := z; cases z'⟩
    · exact ⟨o1, q1, fun v z => by rw [d1] at z; cases z⟩
    · exact ⟨o2, q2, fun v z => by rw [d2] at z; cases z⟩
  keep := fun i h h' st kk => by
    obtain ⟨kz, kI, ⟨u, v, kO⟩, k1, k2⟩ := st
    exact ⟨kk _ (by simp) _ kz, kk _ (by simp) _ kI, ⟨u, v, kk _ (by simp) _ kO⟩, k1.at fun o q => kk i1 (by simp) o q, k2.at fun o q => kk i2 (by simp) o q⟩
  item := by
    intro X hP hw hK hc i pins s σ H E I hf st hg
    subst hP hw hK
    obtain ⟨xs, ys, x, y, hq, hr, hx, hy⟩ := hg
    obtain ⟨its, rv, p, hz⟩ := I.list hq
    obtain ⟨its2, rv2, p2, hz2⟩ := I.list hr
    obtain ⟨u, hu, ru⟩ := rv.get hx
    obtain ⟨u2, hu2, ru2⟩ := rv2.get hy
    obtain ⟨kz, kI, ⟨o1, o2, kO⟩, k1, k2⟩ := st
    refine wpAny_pyNext_zip_item D kz kI kO k1 k2 p.isList p2.isList (x := u) (y := u2) (by simpa using hu) (by simpa using hu2) fun h' a1 a2 a3 a4 a5 a6 hk => ?_
    refine ⟨_, rfl, ?_⟩
    refine wpAny_letOwnedTupleGo_zip a1 fun h2 g1 hs2 => ?_
    have hs2' : Heap.SameBut z h' h2 := hs2
    have lz : z < s.heap.objs.size := Heap.lt_size kz
    have lI : TI < s.heap.objs.size := Heap.lt_size kI
    have lO : TO < s.heap.objs.size := Heap.lt_size kO
    have l1 : i1 < s.heap.objs.size := by obtain ⟨_, q, _⟩ := k1; exact Heap.lt_size q
    have l2 : i2 < s.heap.objs.size := by obtain ⟨_, q, _⟩ := k2; exact Heap.lt_size q
    have hfr : H s.heap.objs.size = none := I.hok.fresh (Nat.le_refl _)
    have I0 : Inv X pins σ (upd H s.heap.objs.size (.tup [x, y])) { s with heap := s.heap.push { cls := .type "tuple", data := .seq #[u, u2] }, toks := s.toks } :=
      I.laid (t' := s.toks) (fun b u e => Heap.get?_push_of_some _ e) (Nat.le_refl _) ⟨by show 2 ≤ sizeLine; decide, [u, u2], .cons ru (.cons ru2 .nil), ⟨_, Heap.get?_push_size _ rfl, rfl, _, rfl⟩⟩
    have hfb : ∀ c ∈ [z, TI, TO, i1, i2], c < s.heap.objs.size := fun c hc => by
      simp only [List.mem_cons, List.not_mem_nil, or_false] at hc
      rcases hc with rfl | rfl | rfl | rfl | rfl <;> assumption
    have hn : ∀ c ∈ [z, TI, TO, i1, i2], upd H s.heap.objs.size (.tup [x, y]) c = none := fun c hc => by
      rw [upd_ne (Nat.ne_of_lt (hfb c hc))]
      exact (hf c hc).1
    have I2 : Inv X pins σ (upd H s.heap.objs.size (.tup [x, y])) { s with heap := h2, toks := s.toks } := Inv.turnedL (s := { s with heap := s.heap.push { cls := .type "tuple", data := .seq #[u, u2] }, toks := s.toks }) (h' := h2) I0 (t' := s.toks) (fp := [z, TI, TO, i1, i2]) (fun c o hc q => by
      have n1 : c ≠ z := fun e => hc (by simp [e])
      have n3 : c ≠ TO := fun e => hc (by simp [e])
      have n4 : c ≠ i1 := fun e => hc (by simp [e])
      have n5 : c ≠ i2 := fun e => hc (by simp [e])
      refine (hs2'.2 c n1).trans ?_
      rcases Heap.get?_push_cases q with ⟨z1, z2⟩ | q
      · rw [z1, z2]; exact a5
      · exact hk c o n1 n3 n4 n5 q) fun c hc => ⟨hn c hc, (hf c hc).2⟩
    refine ⟨.ref s.heap.objs.size, _, I2, rfl, ⟨s.heap.objs.size, x, y, hfr, rfl, rfl, fun zs h => by rw [I.list_inj h hq]; exact hx, fun zs h => by rw [I.list_inj h hr]; exact hy⟩, ?_, hn⟩
    refine ⟨g1, (hs2'.2 TI D.TIz).trans (hk _ _ D.TIz D.TITO D.TIi1 D.TIi2 kI), ⟨_, _, (hs2'.2 TO D.TOz).trans a2⟩, a3.at fun o q => (hs2'.2 i1 D.i1z).trans q, a4.at fun o q => (hs2'.2 i2 D.i2z).trans q⟩
  done := by
    intro X hP hw hK hc i pins s σ H E I hf st hg
    subst hP hw hK
    obtain ⟨xs, ys, hq, hr, hx⟩ := hg
    obtain ⟨its, rv, p, hz⟩ := I.list hq
    obtain ⟨its2, rv2, p2, hz2⟩ := I.list hr
    obtain ⟨kz, kI, ⟨o1, o2, kO⟩, k1, k2⟩ := st
    have hl := rv.length
    have hl2 := rv2.length
    refine wpAny_pyNext_zip_end (I.ok.hd hc) D kz kI kO k1 k2 p.isList p2.isList ?_ fun h' eb => ⟨rfl, Inv.turnedL I (t' := s.toks) (fun c o hc e => eb c o (fun e => hc (by simp [e])) (fun e => hc (by simp [e])) (fun e => hc (by simp [e])) (fun e => hc (by simp [e])) e) hf⟩
    rcases hx with hx | hx
    · exact .inl (by simp; omega)
    · exact .inr (by simp; omega)
  self := fun _ _ _ _ _ st h => wpAny_pyIter_zip st.1 h
theorem ne_nat (x y : Nat) (h : ¬ x = y) : @Ne Addr x y := h
theorem zip_apart (n a b : Nat) (ha : a < n) (hb : b < n) : ZipApart (n + 4) (n + 2) (n + 3) n (n + 1) a b :=
  ⟨ne_nat _ _ (by omega), ne_nat _ _ (by omega), ne_nat _ _ (by omega), ne_nat _ _ (by omega), ne_nat _ _ (by omega), ne_nat _ _ (by omega), ne_nat _ _ (by omega), ne_nat _ _ (by omega), ne_nat _ _ (by omega),
   ne_nat _ _ (by omega), ne_nat _ _ (by omega), ne_nat _ _ (by omega), ne_nat _ _ (by omega), ne_nat _ _ (by omega), ne_nat _ _ (by omega), ne_nat _ _ (by omega), ne_nat _ _ (by omega), ne_nat _ _ (by omega)⟩
section
variable {X : Cx}
def iZip (K : PySem.W.Frag) (ta : TA) : TI := fun σ H R => ta σ H fun vs H1 => ∃ a b, vs = [.ref a, .ref b] ∧ (∃ xs, SqL K H1 a xs) ∧ (∃ ys, SqL K H1 b ys) ∧ R (Itz K a b) H1
theorem pi_zip {l1 l2 : Expr} {ta : TA} {es : List Expr} {k : Nat} {tp p pos : Pos} (hg : Gl X "zip") (hm : X.mg "zip" = none) (ha : PA X [l1, l2] ta) (hs : starEach [l1, l2] X.env = (false, eval l1 X.env) :: starEach [l2] X.env := by rfl) (hs2 : (backTo pos (starEach [l2] X.env)).any (·.1) = false := by rfl) :
    PI X (.Tuple es k tp) (.Call (.Name "zip" p) [l1, l2] [] pos) (iZip X.K ta) := by
  intro pins s σ H R I h
  refine Call_ (ld_blt I hg hm bt_zip (PyProof.Rows.callWith_type1 (thn (ha pos pins s σ H _ I h) fun us s1 ⟨vs, H1, I1, r1, q1⟩ => ?_) hs hs2))
  obtain ⟨a, b, e, ⟨xs, hq⟩, ⟨ys, hr⟩, q⟩ := q1
  subst e
  obtain ⟨u, u2, rfl, ru, ru2⟩ := vals2 r1
  cases ru
  cases ru2
  obtain ⟨its, rv, p, hz⟩ := I1.list hq
  obtain ⟨its2, rv2, p2, hz2⟩ := I1.list hr
  have la : a < s1.heap.objs.size := by obtain ⟨_, _, q, _⟩ := p; exact Heap.lt_size q
  have lb : b < s1.heap.objs.size := by obtain ⟨_, _, q, _⟩ := p2; exact Heap.lt_size q
  refine call_zip_2 p.isList p2.isList fun h' kz kI kO k1 k2 hsz hk => ?_
  refine wpAny_pyIter_zip kz ?_
  refine ⟨s1.heap.objs.size + 4, [s1.heap.objs.size + 4, s1.heap.objs.size + 2, s1.heap.objs.size + 3, s1.heap.objs.size, s1.heap.objs.size + 1], _, _, H1, rfl, I1.kept (t' := s1.toks) hk,
    turn_zip a b (s1.heap.objs.size + 4) (s1.heap.objs.size + 2) (s1.heap.objs.size + 3) s1.heap.objs.size (s1.heap.objs.size + 1) (zip_apart _ a b la lb), ⟨kz, kI, ⟨_, _, kO⟩, k1, k2⟩, fun c hc => ?_, q⟩
  have hb' : s1.heap.objs.size ≤ c := by
    simp only [List.mem_cons, List.not_mem_nil, or_false] at hc
    rcases hc with rfl | rfl | rfl | rfl | rfl
    · exact Nat.le_add_right _ _
    · exact Nat.le_add_right _ _
    · exact Nat.le_add_right _ _
    · exact Nat.le_refl _
    · exact Nat.le_add_right _ _
  exact I1.fpOk hb' (I1.hok.fresh hb')
end
theorem compG_zip {K : PySem.W.Frag} {a b : Addr} {xs zs : List V} {g : TG} {tt : TT} {te : TE} {n : Nat} {fv : St} {H1 : Hp} {QQ : List V → Hp → Prop} (Pv : Nat → List V → Hp → Prop) (hz : xs.length ≤ sizeLine) (he : zs.length = xs.length) (h0 : Pv 0 [] H1) (hl : ∀ i ys H, i ≤ xs.length → Pv i ys H → SqL K H a xs ∧ SqL K H b zs)
    (hs : ∀ i x z ys H T, xs[i]? = some x → zs[i]? = some z → Pv i ys H → H T = none → g (.ref T) (List.replicate n none ++ fv) (upd H T (.tup [x, z])) fun σ2 H2 => σ2.drop n = fv ∧ tt σ2 H2 fun b H3 => if b = true then te σ2 H3 (fun y H4 => Pv (i + 1) (ys ++ [y]) H4) else Pv (i + 1) ys H3) (hd : ∀ ys H, Pv xs.length ys H → QQ ys H) (hy : ∀ i ys H, Pv i ys H → ys.length ≤ i)
    : tCompG g tt te n fv (Itz K a b) H1 QQ := by
  refine ⟨fun i m ys H => m = xs.length - i ∧ i ≤ xs.length ∧ Pv i ys H, ⟨xs.length, by simp, Nat.zero_le _, h0⟩, ?_⟩
  rintro i m ys H ⟨rfl, hi, p⟩
  have q := hl i ys H hi p
  have hyl := hy i ys H p
  refine ⟨by omega, ?_⟩
  by_cases hlt : i < xs.length
  · have hlz : i < zs.length := by omega
    refine .inr ⟨⟨xs, zs, xs[i], zs[i], q.1, q.2, by simp [hlt], by simp [hlz]⟩, fun zs H2 => Pv (i + 1) zs H2, fun zs H2 p2 => ⟨xs.length - (i + 1), by omega, rfl, hlt, p2⟩, fun v H' y => ?_⟩
    obtain ⟨T, x, z, hT, rfl, rfl, y1, y2⟩ := y
    exact hs i x z ys _ T (y1 xs q.1) (y2 zs q.2) p hT
  · have e : i = xs.length := by omega
    subst e
    exact .inl ⟨⟨xs, zs, q.1, q.2, .inl (Nat.le_refl _)⟩, hd ys H p⟩
section
variable {X : Cx}
/-- the least of a list of ints that isn't empty -/
def rMinL (K : PySem.W.Frag) : List V → Hp → VK → Prop := fun xs H Q => ∃ (p : Addr) (ns : List Int), xs = [.ref p] ∧ SqL K H p (ns.map V.int) ∧ 0 < ns.length ∧ ∀ m : Int, m ∈ ns → (∀ x ∈ ns, m ≤ x) → Q (.int m) H
theorem call_minL (hc : X.calm = true) : CallR X (.builtin "min") (rMinL X.K) := by
  intro pins s σ H xs us Q I r h
  obtain ⟨p, ns, rfl, hq, hne, q⟩ := h
  obtain ⟨u, rfl, ru⟩ := vals1 r
  cases ru
  obtain ⟨its, rv, pl, hz⟩ := I.list hq
  have hi := nums_are rv
  obtain ⟨zs, e⟩ := hi.allInts.items
  have hl : s.heap.IsList p (intItems zs) := by rw [← e]; exact pl.isList
  have e1 : ns = zs.toList.map (·.1) := by
    rw [← nums_intItems, ← e]
    exact (show numsOf its.toArray.toList = ns from hi.numsOf).symm
  subst e1
  rw [List.length_map, Array.length_toList] at hne
  refine min_intList (I.ok.hd hc) hl hne fun v h' tk hv hk => ?_
  obtain ⟨t, rfl⟩ := intItems_at hv
  obtain ⟨h1, h2⟩ := argBest_lt (numAt zs) (zs.size - 1)
  refine ⟨.int _, H, I.kept (t' := tk) hk, ⟨t, rfl⟩, q _ ?_ fun a ha => ?_⟩
  · rw [numAt_eq]; exact PySem.getD_mem (by rw [List.length_map, Array.length_toList]; omega)
  · obtain ⟨j, hj, rfl⟩ := PySem.mem_getD ha
    rw [List.length_map, Array.length_toList] at hj
    rw [← numAt_eq]; exact h2 j (by omega)
end
end L2
/-! ### lists of things of one kind -/
namespace L2
open PySem PySem.Spec PyProof.Rows
def LsAt {α : Type} (R : Hp → V → α → Prop) (H : Hp) (ys : List V) (xs : List α) : Prop := ys.length = xs.length ∧ ∀ (i : Nat) (x : α), xs[i]? = some x → ∃ y, ys[i]? = some y ∧ R H y x
theorem LsAt.nil {α : Type} {R : Hp → V → α → Prop} {H : Hp} : LsAt R H [] [] := ⟨rfl, fun i x e => by simp at e⟩
theorem LsAt.imp {α : Type} {R R' : Hp → V → α → Prop} {H H' : Hp} {ys : List V} {xs : List α} (h : LsAt R H ys xs) (m : ∀ y x, R H y x → R' H' y x) : LsAt R' H' ys xs := ⟨h.1, fun i x e => by
  obtain ⟨y, a, b⟩ := h.2 i x e
  exact ⟨y, a, m y x b⟩⟩
theorem LsAt.snoc {α : Type} {R : Hp → V → α → Prop} {H : Hp} {ys : List V} {xs : List α} {y : V} {x : α} (h : LsAt R H ys xs) (r : R H y x) : LsAt R H (ys ++ [y]) (xs ++ [x]) := by
  refine ⟨by rw [List.length_append, List.length_append, h.1]; rfl, fun j k e => ?_⟩
  by_cases hj : j < xs.length
  · rw [List.getElem?_append_left hj] at e
    obtain ⟨p, a1, a2⟩ := h.2 j k e
    exact ⟨p, by rw [List.getElem?_append_left (by rw [h.1]; exact hj)]; exact a1, a2⟩
  · rw [List.getElem?_append_right (by omega)] at e
    have hj2 : j = xs.length := by
      have := (List.getElem?_eq_some_iff.mp e).1
      rw [List.length_singleton] at this
      omega
    subst hj2
    rw [Nat.sub_self] at e
    cases e
    exact ⟨y, by rw [← h.1, List.getElem?_append_right (Nat.le_refl _), Nat.sub_self]; rfl, r⟩
theorem LsAt.get {α : Type} {R : Hp → V → α → Prop} {H : Hp} {ys : List V} {xs : List α} {i : Nat} {y : V} (h : LsAt R H ys xs) (e : ys[i]? = some y) : ∃ x, xs[i]? = some x ∧ R H y x := by
  have hi : i < xs.length := by rw [← h.1]; exact (List.getElem?_eq_some_iff.mp e).1
  obtain ⟨z, a, b⟩ := h.2 i _ (List.getElem?_eq_getElem hi)
  rw [e] at a
  cases a
  exact ⟨_, List.getElem?_eq_getElem hi, b⟩
end L2

namespace L2
open PySem PySem.Spec PyProof.Rows
theorem vals_by : ∀ {ys : List V} {us : List Value}, ys.length = us.length → (∀ (i : Nat) (y : V) (u : Value), ys[i]? = some y → us[i]? = some u → RelV y u) → Vals ys us
  | [], [], _, _ => .nil
  | [], _ :: _, e, _ => by cases e
  | _ :: _, [], e, _ => by cases e
  | y :: ys, u :: us, e, h => .cons (h 0 y u rfl rfl) (vals_by (Nat.succ.inj e) fun i y u a b => h (i + 1) y u a b)
section
variable {X : Cx}
/-- list(range(e)) -/
theorem pe_listrange {e : Expr} {te : TE} {p p2 pos pos2 : Pos} (hc : X.calm = true) (hg : Gl X "list") (hm : X.mg "list" = none) (hg2 : Gl X "range") (hm2 : X.mg "range" = none) (he : PE X e te)
    (h1 : starEach [.Call (.Name "range" p2) [e] [] pos2] X.env = [(false, eval (.Call (.Name "range" p2) [e] [] pos2) X.env)] := by rfl) (h2 : starEach [e] X.env = (false, eval e X.env) :: starEach [] X.env := by rfl) :
    PE X (.Call (.Name "list" p) [.Call (.Name "range" p2) [e] [] pos2] [] pos) (fun σ H Q => te σ H fun x H1 => ∃ n : Nat, x = .int (n : Int) ∧ n ≤ 1000 ∧ ∀ q, H1 q = none → Q (.ref q) (upd H1 q (.lst ((List.range n).map fun (i : Nat) => V.int ((i : Nat) : Int))))) := by
  intro pins s σ H Q I h
  refine wpAny_Call_Name_kw (ld_blt I hg hm bt_list ?_)
  refine PyProof.Rows.callWith_type1 ?_ h1 rfl
  rw [h1]
  refine Calls.spliced_cons ?_
  refine wpAny_Call_Name_kw (ld_blt I hg2 hm2 boot_range ?_)
  refine PyProof.Rows.callWith_type1 ?_ h2 rfl
  rw [h2]
  refine Calls.spliced_cons (thn (he pins s σ H _ I h) fun u s1 ⟨x, H1, I1, r1, q1⟩ => ?_)
  obtain ⟨n, rfl, hn, q⟩ := q1
  obtain ⟨t, rfl⟩ := r1
  refine Calls.spliced_nil ?_
  refine call_range_1 ?_
  refine Calls.spliced_nil ?_
  have I2 : Inv X pins σ H1 { s1 with heap := s1.heap.push { cls := .type "range", data := .fields #[.int 0 s1.toks, .int (n : Int) t, .int 1 (s1.toks + 1)] }, toks := s1.toks + 1 + 1 } := I1.kept fun b o e => Heap.get?_push_of_some _ e
  refine call_list_range (n := n) (I.ok.hd hc) (IsRange.new ..) (small_one (by omega) (by omega) (by omega) (by omega)) (by rw [rangeSize_one]; split <;> omega) (by omega) fun h' tk acc' c' hk hS hacc => ?_
  have I3 : Inv X pins σ H1 { s1 with heap := h', toks := tk } := I2.kept (t' := tk) fun b o e => hk b o e
  have fS := I2.fpOk (H' := H1) (Nat.le_refl _) (I2.hok.fresh (Nat.le_refl _))
  have hz : ((List.range n).map fun (i : Nat) => V.int ((i : Nat) : Int)).length ≤ sizeLine := by
    rw [List.length_map, List.length_range]
    exact Nat.le_trans hn (by decide)
  have hv : Vals ((List.range n).map fun (i : Nat) => V.int ((i : Nat) : Int)) acc'.toList := by
    refine vals_by (by rw [List.length_map, List.length_range, Array.length_toList, hacc.1]) fun i y u a b => ?_
    rw [Array.getElem?_toList] at b
    obtain ⟨tk', e⟩ := hacc.2 i u b
    rw [List.getElem?_map] at a
    obtain ⟨j, a1, a2⟩ := Option.map_eq_some_iff.mp a
    have hi : i < n := by
      have := (List.getElem?_eq_some_iff.mp a1).1
      rwa [List.length_range] at this
    rw [List.getElem?_range hi] at a1
    cases a1
    subst a2
    subst e
    exact ⟨tk', by rw [Int.zero_add, Int.mul_one]⟩
  have I4 := I3.track (o := .lst ((List.range n).map fun (i : Nat) => V.int ((i : Nat) : Int))) fS ⟨hz, acc'.toList, c', hv, by rw [Array.toArray_toList]; exact hS⟩
  exact ⟨.ref _, _, I4, rfl, q _ fS.1⟩
end
/-! ### a for whose iterable may raise, and whose body does not -/
section
variable {X : Cx} {tg : Expr}
end
/-! ### a def with defaults -/
section
variable {P : Program} {w : World} {K : PySem.W.Frag} {mg : Str → Option Value} {base : Heap}
end
end L2


namespace KS
open PySem L2
local macro_rules | `(tactic| walk_at "cc") => `(tactic| first | exact ⟨by decide, by decide⟩ | (show (0 : Int) < _; decide) | (show (0 : Int) < _; omega) | (show (0 : Int) ≤ _; omega) | exact ⟨by decide, by decide, by decide⟩ | exact ⟨by omega, by omega, by decide⟩ | exact Or.inl ⟨by decide, by decide⟩ | exact Or.inl ⟨by omega, by omega⟩)
local macro_rules | `(tactic| walk_at "rd") => `(tactic| repeat (first | refine ⟨_, rfl, ?_⟩ | refine ⟨_, _, rfl, rfl, ?_⟩ | refine ⟨rfl, ?_⟩ | (refine ⟨?cc, ?_⟩; (case cc => walk_at "cc"))))

def top (i : Nat) : Stmt := PySem.Challenge.pw_spinfloor_k50_no_strips.main.body.getD i (.Pass ⟨0, 0, 0, 0⟩)
abbrev s_counted_together : Stmt := top 4
abbrev s_joined_row : Stmt := top 6
abbrev s_tables_joined : Stmt := top 7
abbrev s_row_by_modulus : Stmt := top 8
abbrev s_table_power : Stmt := top 9
abbrev s_paid_alike : Stmt := top 11
abbrev s_paid_unlike : Stmt := top 12
abbrev s_refuse_pattern : Stmt := top 16
abbrev s_refuse_columns : Stmt := top 17
abbrev s_refuse_modulus : Stmt := top 18
abbrev s_rows_of : Stmt := top 19
abbrev s_price_between : Stmt := top 20
abbrev s_price_of_all : Stmt := top 21
abbrev s_price_across : Stmt := top 22
abbrev s_price_along : Stmt := top 23
abbrev s_column_table : Stmt := top 24
abbrev s_step_table : Stmt := top 25
abbrev s_strip_least : Stmt := top 26
abbrev s_lows_of : Stmt := top 28
abbrev s_long_run_of : Stmt := top 36
abbrev s_long_run : Stmt := top 37
abbrev s_law_cell : Stmt := top 39
abbrev s_law_strength : Stmt := top 40
abbrev s_law_pattern : Stmt := top 41
abbrev s_law_copy : Stmt := top 42
abbrev s_law_ask : Stmt := top 43
abbrev s_law_refused : Stmt := top 44
abbrev s_law_spoiled : Stmt := top 45
abbrev s_law : Stmt := top 46
theorem same_new {H : Hp} {p : Addr} (h : H p = none) (o : HO) : Same H (upd H p o) := fun b u q => by rw [upd_ne (ne_of_none q h)]; exact q
theorem same_upd {H H2 : Hp} {l : Addr} (h : Same H H2) (hl : H l = none) (o : HO) : Same H (upd H2 l o) := fun b u q => by rw [upd_ne (ne_of_none q hl)]; exact h b u q
/-! the mathematics -/
def lowL : List Int → Int
  | [] => 0
  | [x] => x
  | x :: y :: r => if x ≤ lowL (y :: r) then x else lowL (y :: r)
theorem lowL_spec : ∀ ns : List Int, ns ≠ [] → lowL ns ∈ ns ∧ ∀ x ∈ ns, lowL ns ≤ x
  | [], h => absurd rfl h
  | [x], _ => ⟨by simp [lowL], fun y hy => by rw [List.mem_singleton.mp hy]; exact Int.le_refl _⟩
  | x :: y :: r, _ => by
    obtain ⟨a, b⟩ := lowL_spec (y :: r) (by simp)
    rw [lowL]
    by_cases c : x ≤ lowL (y :: r)
    · rw [if_pos c]
      refine ⟨List.mem_cons_self .., fun z hz => ?_⟩
      rcases List.mem_cons.mp hz with rfl | hz
      · exact Int.le_refl _
      · exact Int.le_trans c (b z hz)
    · rw [if_neg c]
      refine ⟨List.mem_cons_of_mem _ a, fun z hz => ?_⟩
      rcases List.mem_cons.mp hz with rfl | hz
      · omega
      · exact b z hz
theorem lowL_is {ns : List Int} {m : Int} (hm : m ∈ ns) (hl : ∀ x ∈ ns, m ≤ x) : m = lowL ns := by
  obtain ⟨a, b⟩ := lowL_spec ns (fun e => by rw [e] at hm; cases hm)
  have h1 := hl _ a
  have h2 := b _ hm
  omega
abbrev Pr := Int × Int
abbrev Tb := List (List Pr)
def tot (es : List Pr) (m : Int) : Int := ((es.filter fun e => decide (e.1 = m)).map (·.2)).sum
def bestOf (es : List Pr) : Pr := (lowL (es.map (·.1)), tot es (lowL (es.map (·.1))))
def g2 (r : List Pr) (j : Nat) : Pr := r.getD j (0, 0)
def wayI (row : List Pr) (tb : Tb) (j : Nat) (i : Nat) : Pr := ((g2 row i).1 + (g2 (tb.getD i []) j).1, (g2 row i).2 * (g2 (tb.getD i []) j).2)
def ways (row : List Pr) (tb : Tb) (n j : Nat) : List Pr := (List.range n).map (wayI row tb j)
def jEnt (row : List Pr) (tb : Tb) (n : Nat) (md : Int) (j : Nat) : Pr := ((bestOf (ways row tb n j)).1, (bestOf (ways row tb n j)).2 % md)
def jRow (row : List Pr) (tb : Tb) (n : Nat) (md : Int) : List Pr := (List.range n).map (jEnt row tb n md)
def jTab (one tb : Tb) (n : Nat) (md : Int) : Tb := one.map fun row => jRow row tb n md
theorem g2_at {r : List Pr} {j : Nat} {p : Pr} (h : r[j]? = some p) : g2 r j = p := by unfold g2; rw [List.getD_eq_getElem?_getD, h]; rfl
theorem wayI_at {row : List Pr} {tb : Tb} {i j : Nat} {e : Pr} {on : List Pr} {o : Pr} (h1 : row[i]? = some e) (h2 : tb[i]? = some on) (h3 : on[j]? = some o) : wayI row tb j i = (e.1 + o.1, e.2 * o.2) := by
  unfold wayI
  rw [g2_at h1, List.getD_eq_getElem?_getD, h2, Option.getD_some, g2_at h3]
theorem rng_succ {α : Type} (f : Nat → α) (i : Nat) : (List.range (i + 1)).map f = (List.range i).map f ++ [f i] := by
  rw [List.range_succ, List.map_append]; rfl
/-- a square table of that size, its manys bounded -/
structure Sqr (n : Nat) (tb : Tb) : Prop where
  len : tb.length = n
  row : ∀ r ∈ tb, r.length = n
  bd : ∀ r ∈ tb, ∀ p ∈ r, (p.2).natAbs < 2 ^ 200
/-! as they lie -/
def PrAt (H : Hp) (v : V) (p : Pr) : Prop := ∃ t, v = .ref t ∧ H t = some (.tup [.int p.1, .int p.2])
def RwAt (H : Hp) (v : V) (r : List Pr) : Prop := ∃ a ys, v = .ref a ∧ H a = some (.lst ys) ∧ LsAt PrAt H ys r
def TbAt (H : Hp) (v : V) (tb : Tb) : Prop := ∃ a ys, v = .ref a ∧ H a = some (.lst ys) ∧ LsAt RwAt H ys tb
theorem PrAt.mono {H H' : Hp} {v : V} {p : Pr} (h : PrAt H v p) (s : Same H H') : PrAt H' v p := by
  obtain ⟨t, e, z⟩ := h
  exact ⟨t, e, s _ _ z⟩
theorem RwAt.mono {H H' : Hp} {v : V} {r : List Pr} (h : RwAt H v r) (s : Same H H') : RwAt H' v r := by
  obtain ⟨a, ys, e, z, l⟩ := h
  exact ⟨a, ys, e, s _ _ z, l.imp fun _ _ q => q.mono s⟩
theorem TbAt.mono {H H' : Hp} {v : V} {tb : Tb} (h : TbAt H v tb) (s : Same H H') : TbAt H' v tb := by
  obtain ⟨a, ys, e, z, l⟩ := h
  exact ⟨a, ys, e, s _ _ z, l.imp fun _ _ q => q.mono s⟩
theorem PrAt.put {H : Hp} {v : V} {p : Pr} {q : Addr} {us zs : List V} (h : PrAt H v p) (hq : H q = some (.lst us)) : PrAt (upd H q (.lst zs)) v p := by
  obtain ⟨t, e, z⟩ := h
  exact ⟨t, e, by rw [upd_ne (fun y => by rw [y, hq] at z; cases z)]; exact z⟩
/-- a row that lies apart from q -/
def RwX (q : Addr) (H : Hp) (v : V) (r : List Pr) : Prop := ∃ a ys, v = .ref a ∧ a ≠ q ∧ H a = some (.lst ys) ∧ LsAt PrAt H ys r
theorem RwX.off {q : Addr} {H : Hp} {v : V} {r : List Pr} (h : RwX q H v r) : RwAt H v r := by
  obtain ⟨a, ys, e, _, z, l⟩ := h
  exact ⟨a, ys, e, z, l⟩
theorem RwX.mono {q : Addr} {H H' : Hp} {v : V} {r : List Pr} (h : RwX q H v r) (s : Same H H') : RwX q H' v r := by
  obtain ⟨a, ys, e, n, z, l⟩ := h
  exact ⟨a, ys, e, n, s _ _ z, l.imp fun _ _ q => q.mono s⟩
theorem RwX.put {q : Addr} {H : Hp} {v : V} {r : List Pr} {us zs : List V} (h : RwX q H v r) (hq : H q = some (.lst us)) : RwX q (upd H q (.lst zs)) v r := by
  obtain ⟨a, ys, e, n, z, l⟩ := h
  exact ⟨a, ys, e, n, by rw [upd_ne n]; exact z, l.imp fun _ _ y => y.put hq⟩
def cellD (ns : List Int) (k : Nat) : Int := ns.getD k 0
def spCT (K : PySem.W.Frag) : Sp := fun vs H Q _ => ∃ (v : V) (es : List Pr), vs = [v] ∧ RwAt H v es ∧ es ≠ [] ∧ es.length ≤ 900 ∧ ∀ u H', Same H H' → PrAt H' u (bestOf es) → Q u H'
def spJR (K : PySem.W.Frag) : Sp := fun vs H Q _ => ∃ (v tv : V) (md : Int) (row : List Pr) (tb : Tb) (n : Nat), vs = [v, tv, .int md] ∧ RwAt H v row ∧ TbAt H tv tb ∧ 0 < md ∧ 0 < n ∧ n ≤ 8 ∧ row.length = n ∧ (∀ p ∈ row, (p.2).natAbs < 2 ^ 200) ∧ Sqr n tb ∧
  ∀ u H', Same H H' → RwAt H' u (jRow row tb n md) → Q u H'
def spJT (K : PySem.W.Frag) : Sp := fun vs H Q _ => ∃ (v tv : V) (md : Int) (one tb : Tb) (n : Nat), vs = [v, tv, .int md] ∧ TbAt H v one ∧ TbAt H tv tb ∧ 0 < md ∧ 0 < n ∧ n ≤ 8 ∧ Sqr n one ∧ Sqr n tb ∧
  ∀ u H', Same H H' → TbAt H' u (jTab one tb n md) → Q u H'
def spCell (K : PySem.W.Frag) : Sp := fun vs H Q _ => ∃ (a : Addr) (k : Nat) (ns : List Int), vs = [.ref a, .int (k : Int)] ∧ SqL K H a (ns.map V.int) ∧ Q (.int (cellD ns k)) H
def spLaw (K : PySem.W.Frag) : Sp := fun vs H Q _ => ∃ (a : Addr) (ns : List Int), vs = [.ref a] ∧ SqL K H a (ns.map V.int) ∧ ns.length ≤ 63 ∧ ∀ H', Q (.bl true) H'
structure Txt (mg : Str → Option Value) : Prop where
  n_len : mg "len" = none
  n_int : mg "int" = none
  n_bool : mg "bool" = none
  n_list : mg "list" = none
  n_tuple : mg "tuple" = none
  n_range : mg "range" = none
  n_min : mg "min" = none
  n_max : mg "max" = none
  n_sum : mg "sum" = none
  n_zip : mg "zip" = none
  n_any : mg "any" = none
  n_enumerate : mg "enumerate" = none
  n_abs : mg "abs" = none
  g_most : ∃ t, mg "MOST_IN_PATTERN" = some (.int 6 t)
  g_rows : ∃ t, mg "MOST_ROWS" = some (.int 3 t)
  n_isinstance : mg "isinstance" = none
theorem at0 {x y : V} : atI [x, y] 0 = some x := rfl
theorem at1 {x y : V} : atI [x, y] 1 = some y := rfl
section
variable {P : Program} {w : World} {K : PySem.W.Frag} {mg : Str → Option Value} {base : Heap}
theorem sc_counted_together : FnScope ["entries", "low"] ["entries"] (defScope s_counted_together) := ⟨rfl, rfl, rfl, by decide +kernel, rfl, by decide +kernel, by decide +kernel⟩
theorem ok_ct {f : Addr} {fd : FuncData} (F : Fun K "counted_together" "counted_together" s_counted_together f fd) (T : Txt mg) : FnOk P w K mg base CX0 1 f fd ["entries"] (spCT K) := by
  refine F.ok sc_counted_together (fun vs H Q E h => ?_) (fun cdv A outer s H vs Q E hr h => ?_)
  · obtain ⟨v, es, rfl, _⟩ := h
    rfl
  obtain ⟨v, es, rfl, ⟨a, xs, rfl, hA, hL⟩, hne, hlen, kk⟩ := h
  refine ⟨_, (pss_cons (ps_set (i := 1) sc_counted_together.nd rfl (Or.inr rfl) (pe_callB (call_minL rfl) (by rfl) T.n_min bt_min (pa_cons (pe_comp rfl (fr := []) (by exact CompOk.plain (by rfl) (by decide +kernel) (by rfl) (by decide +kernel) (by rfl) (by decide +kernel)) (pi_list (pv 0)) (fun C ex s H => (pe_ix (ixK_tup (K := K) rfl) (pv 0) pe_int (fun _ _ => rfl)))) pa_nil)))
      (pss_one (ps_ret (pe_tup (pa_cons (pv 1) (pa_cons (pe_callB (call_sum rfl) (by rfl) T.n_sum bt_sum (pa_cons (pe_compG rfl (fr := [("low", 1)]) (xs := ["entry"]) (CompG.of (by rfl) (by decide +kernel) (by rfl) (by decide +kernel) (by intro p hp; simp only [List.mem_cons, List.not_mem_nil, or_false] at hp; rcases hp with rfl <;> exact ⟨rfl, rfl⟩) (by decide +kernel) (by intro p hp; simp only [List.mem_cons, List.not_mem_nil, or_false] at hp; rcases hp with rfl <;> rfl)) (pi_list (pv 0)) (fun C ex s H => (pg_name (i := 0) (show (["entry", "low"] : List Str).Nodup from by decide +kernel) rfl (Or.inl rfl))) (fun C ex s H => (pts_one (pt_cmpR op_eq (pe_ix (ixK_tup (K := K) rfl) (pv 0) pe_int (fun _ _ => rfl)) (pv 1) (nomark _)))) (fun C ex s H => (pe_ix (ixK_tup (K := K) rfl) (pv 0) pe_int (fun _ _ => rfl)))) pa_nil)) pa_nil)))))), ?_⟩
  have hxl : xs.length = es.length := hL.1
  have hS : SqL K H a xs := SqL.of hA
  refine ⟨_, rfl, a, rfl, ⟨_, hS⟩, comp_list (K := K) (xs := xs) (fun i zs H2 => Same H H2 ∧ zs = ((es.take i).map (·.1)).map V.int) (Nat.le_of_lt (small1000 (by omega))) ⟨fun _ _ e => e, rfl⟩ (fun i zs H2 _ z => z.1.seq hS) ?_ ?_⟩
  · rintro i x zs H2 hx ⟨s2, rfl⟩
    obtain ⟨p, hp, t, rfl, ht⟩ := hL.get hx
    refine ⟨_, rfl, t, _, 0, _, rfl, rfl, SqT.of (s2 _ _ ht), at0, s2, ?_⟩
    rw [List.take_add_one, hp, List.map_append, List.map_append]
    rfl
  rintro zs H2 _ ⟨s2, rfl⟩ D hD
  rw [hxl, List.take_length]
  have s3 := s2.trans (same_new hD (.lst ((es.map (·.1)).map V.int)))
  refine ⟨D, es.map (·.1), rfl, SqL.of upd_same, ?_, fun m hm hl => ?_⟩
  · rw [List.length_map]; exact List.length_pos_iff.mpr hne
  have em := lowL_is hm hl
  subst em
  have hS3 := s3.seq hS
  have hL3 : LsAt PrAt (upd H2 D (.lst ((es.map (·.1)).map V.int))) xs es := hL.imp fun _ _ q => q.mono s3
  generalize upd H2 D (.lst ((es.map (·.1)).map V.int)) = H3 at s3 hS3 hL3
  generalize hlo : lowL (es.map (·.1)) = lo
  refine ⟨_, rfl, _, rfl, a, rfl, ⟨_, hS3⟩, compG_list (K := K) (xs := xs) (fun i zs H4 => Same H3 H4 ∧ zs = (((es.take i).filter fun e => decide (e.1 = lo)).map (·.2)).map V.int) (Nat.le_of_lt (small1000 (by omega))) ⟨fun _ _ e => e, rfl⟩ (fun i zs H4 _ z => z.1.seq hS3) ?_ ?_ ?_⟩
  · rintro i x zs H4 hx ⟨s4, rfl⟩
    obtain ⟨p, hp, t, rfl, ht⟩ := hL3.get hx
    have et : es.take (i + 1) = es.take i ++ [p] := by rw [List.take_add_one, hp]; rfl
    refine ⟨rfl, _, rfl, t, _, 0, _, rfl, rfl, SqT.of (s4 _ _ ht), at0, _, rfl, rfl, _, rfl, ?_⟩
    refine ite2 (fun c => ?_) (fun c => ?_)
    · have c' : p.1 = lo := V.int.inj (of_decide_eq_true c)
      refine ⟨_, rfl, t, _, 1, _, rfl, rfl, SqT.of (s4 _ _ ht), at1, s4, ?_⟩
      rw [et, List.filter_append, List.filter_cons_of_pos (by exact decide_eq_true c'), List.map_append, List.map_append]
      rfl
    · have c' : ¬ p.1 = lo := fun z => c (decide_eq_true (congrArg V.int z))
      refine ⟨s4, ?_⟩
      rw [et, List.filter_append, List.filter_cons_of_neg (by simpa using c'), List.filter_nil, List.append_nil]
  · rintro zs H4 ⟨s4, rfl⟩ D2 hD2
    rw [hxl, List.take_length]
    refine ⟨D2, _, rfl, SqL.of upd_same, (by show 2 ≤ sizeLine; decide), fun t ht => ?_⟩
    refine kk _ _ (s3.trans (s4.trans ((same_new hD2 _).trans (same_new ht _)))) ⟨t, rfl, ?_⟩
    unfold bestOf tot
    rw [hlo]
    exact upd_same
  · rintro i zs H4 ⟨_, rfl⟩
    rw [List.length_map, List.length_map]
    exact Nat.le_trans (List.length_filter_le _ _) (by rw [List.length_take]; omega)
theorem mul_ok {x y : Int} (h1 : x.natAbs < 2 ^ 200) (h2 : y.natAbs < 2 ^ 200) : IntMulOk x y := PyProof.Rows.mulOk_of_bits (m := 200) (n := 200) (PySem.intBits_le_iff.mpr h1) (PySem.intBits_le_iff.mpr h2) (by decide)
theorem sc_joined_row : FnScope ["row", "table", "modulus", "found", "then", "ways", "best"] ["row", "table", "modulus"] (defScope s_joined_row) := ⟨rfl, rfl, rfl, by decide +kernel, rfl, by decide +kernel, by decide +kernel⟩
theorem ok_jr {f fc : Addr} {fd fdc : FuncData} (F : Fun K "joined_row" "joined_row" s_joined_row f fd) (T : Txt mg) (G_counted_together : Cal P w K mg base 1 "counted_together" ["entries"] (spCT K) fc fdc) : FnOk P w K mg base CX0 2 f fd ["row", "table", "modulus"] (spJR K) := by
  refine F.ok sc_joined_row (fun vs H Q E h => ?_) (fun cdv A outer s H vs Q E hr h => ?_)
  · obtain ⟨v, tv, md, row, tb, n, rfl, _⟩ := h
    rfl
  obtain ⟨v, tv, md, row, tb, n, rfl, ⟨a, xs, rfl, hA, hL⟩, ⟨b, zs, rfl, hB, hM⟩, hmd, h0, h8, hrl, hbd, hsq, kk⟩ := h
  have hxl : xs.length = n := by rw [hL.1, hrl]
  have hzl : zs.length = n := by rw [hM.1, hsq.len]
  refine ⟨_, (pss_cons (ps_set (i := 3) sc_joined_row.nd rfl (Or.inl rfl) (pe_lst pa_nil))
      (pss_cons (ps_for PassesOwn.never rfl (pi_range1 rfl T.n_range (pa_cons (pe_callB call_len_seq (by rfl) T.n_len bt_len (pa_cons (pv 1) pa_nil)) pa_nil)) (pg_name (i := 4) sc_joined_row.nd rfl (Or.inr rfl)) (pss_cons (ps_setCompG (i := 5) rfl sc_joined_row.nd rfl rfl (fr := [("then", 4)]) (xs := ["entry", "on"]) (CompG.of (by rfl) (by decide +kernel) (by rfl) (by decide +kernel) (by intro p hp; simp only [List.mem_cons, List.not_mem_nil, or_false] at hp; rcases hp with rfl <;> exact ⟨rfl, rfl⟩) (by decide +kernel) (by intro p hp; simp only [List.mem_cons, List.not_mem_nil, or_false] at hp; rcases hp with rfl <;> rfl)) (pi_zip rfl T.n_zip (pa_cons (pv 0) (pa_cons (pv 1) pa_nil))) (fun C ex s H => (pgK_tup (n := 2) (K := K) rfl rfl (pgs_cons (pg_name (i := 0) (show (["entry", "on", "then"] : List Str).Nodup from by decide +kernel) rfl (Or.inl rfl)) (pgs_cons (pg_name (i := 1) (show (["entry", "on", "then"] : List Str).Nodup from by decide +kernel) rfl (Or.inl rfl)) pgs_nil)))) (fun C ex s H => pts_nil) (fun C ex s H => (pe_tup (pa_cons (pe_op op_add (pe_ix (ixK_tup (K := K) rfl) (pv 0) pe_int (fun _ _ => rfl)) (pe_ix (ixK_tup (K := K) rfl) (pe_ix (ixK_list (K := K) rfl) (pv 1) (pv 2) (fun _ _ => rfl)) pe_int (fun _ _ => rfl))) (pa_cons (pe_op op_mulB (pe_ix (ixK_tup (K := K) rfl) (pv 0) pe_int (fun _ _ => rfl)) (pe_ix (ixK_tup (K := K) rfl) (pe_ix (ixK_list (K := K) rfl) (pv 1) (pv 2) (fun _ _ => rfl)) pe_int (fun _ _ => rfl))) pa_nil)))))
      (pss_cons (ps_set (i := 6) sc_joined_row.nd rfl (Or.inl rfl) (pe_call G_counted_together.ok (hr.mono (by decide)) rfl G_counted_together.mg G_counted_together.kp G_counted_together.bn .nil pass0 (pa_cons (pv 5) pa_nil)))
      (pss_one (ps_expr (pe_bm PySem.F.plainAttrs_list PySem.F.slot_list_append PySem.F.type_list_append mt_append (pv 3) (pa_cons (pe_tup (pa_cons (pe_ix ix_tup (pv 6) pe_int (fun _ _ => rfl)) (pa_cons (pe_op op_mod (pe_ix ix_tup (pv 6) pe_int (fun _ _ => rfl)) (pv 2)) pa_nil))) pa_nil)))))))
      (pss_one (ps_ret (pv 3))))), ?_⟩
  refine ⟨(by show 0 ≤ sizeLine; decide), fun q hq => ?_⟩
  have s1 := same_new hq (.lst [])
  refine ⟨_, rfl, b, _, rfl, .inl (SqL.of (s1 _ _ hB)), _, rfl, by omega, by omega, for_range (n := zs.length) (fun j σ H2 => ∃ v4 v5 v6 us, σ = [some (.ref a), some (.ref b), some (.int md), some (.ref q), v4, v5, v6] ∧ Same H H2 ∧ H2 q = some (.lst us) ∧ LsAt PrAt H2 us ((List.range j).map (jEnt row tb n md))) ⟨_, _, _, _, rfl, s1, upd_same, LsAt.nil⟩ ?_ ?_⟩
  · rintro j σ H2 hj ⟨v4, v5, v6, us, rfl, s2, hq2, hU⟩
    have e0 : (0 : Int) + (j : Int) = (j : Int) := Int.zero_add _
    rw [e0]
    rw [hzl] at hj
    have hul : us.length = j := by rw [hU.1, List.length_map, List.length_range]
    have hA2 := s2 _ _ hA
    have hB2 := s2 _ _ hB
    refine ⟨_, rfl, _, rfl, a, b, rfl, ⟨_, SqL.of hA2⟩, ⟨_, SqL.of hB2⟩, compG_zip (K := K) (xs := xs) (zs := zs) (fun i ys H4 => Same H2 H4 ∧ LsAt PrAt H4 ys ((List.range i).map (wayI row tb j))) (Nat.le_of_lt (small1000 (by omega))) (by omega) ⟨fun _ _ e => e, LsAt.nil⟩ (fun i ys H4 _ z => ⟨SqL.of (z.1 _ _ hA2), SqL.of (z.1 _ _ hB2)⟩) ?_ ?_ ?_⟩
    · rintro i x z ys H4 T2 hx hz ⟨s4, hY⟩ hT2
      have s5 := (s2.trans s4).trans (same_new hT2 (.tup [x, z]))
      have s45 := same_new hT2 (.tup [x, z])
      obtain ⟨e, he, t, rfl, ht⟩ := hL.get hx
      obtain ⟨on, hon, c, os, rfl, hc, hO⟩ := hM.get hz
      have hlj : j < on.length := by rw [hsq.row on (List.mem_of_getElem? hon)]; exact hj
      obtain ⟨o, ho⟩ : ∃ o, on[j]? = some o := ⟨_, List.getElem?_eq_getElem hlj⟩
      obtain ⟨y, hy, t3, rfl, ht3⟩ := hO.2 j o ho
      have bm := mul_ok (hbd e (List.mem_of_getElem? he)) (hsq.bd on (List.mem_of_getElem? hon) o (List.mem_of_getElem? ho))
      refine ⟨T2, _, rfl, SqT.of upd_same, rfl, _, _, rfl, _, _, rfl, rfl, rfl, yesT ?_⟩
      refine ⟨_, rfl, t, _, 0, _, rfl, rfl, SqT.of (s5 _ _ ht), at0, _, rfl, _, rfl, c, os, _, _, rfl, rfl, SqL.of (s5 _ _ hc), atI_nat hy, t3, _, 0, _, rfl, rfl, SqT.of (s5 _ _ ht3), at0, _, _, rfl, rfl, ?_⟩
      refine ⟨_, rfl, t, _, 1, _, rfl, rfl, SqT.of (s5 _ _ ht), at1, _, rfl, _, rfl, c, os, _, _, rfl, rfl, SqL.of (s5 _ _ hc), atI_nat hy, t3, _, 1, _, rfl, rfl, SqT.of (s5 _ _ ht3), at1, _, _, rfl, rfl, bm, (by show 2 ≤ sizeLine; decide), fun t4 ht4 => ?_⟩
      have s6 := s45.trans (same_new ht4 (.tup [.int (e.1 + o.1), .int (e.2 * o.2)]))
      refine ⟨s4.trans s6, ?_⟩
      rw [rng_succ, wayI_at he hon ho]
      exact (hY.imp fun _ _ q => q.mono s6).snoc ⟨t4, rfl, upd_same⟩
    · rintro ys H4 ⟨s4, hY⟩ D hD
      rw [hxl] at hY
      have s5 := same_new hD (.lst ys)
      have s25 := s4.trans s5
      refine ⟨_, rfl, _, ways row tb n j, rfl, ⟨D, ys, rfl, upd_same, hY.imp fun _ _ q => q.mono s5⟩, ?_, ?_, fun u H6 s6 hP => ?_⟩
      · intro e
        have := congrArg List.length e
        unfold ways at this
        rw [List.length_map, List.length_range] at this
        exact absurd this (by show ¬ n = 0; omega)
      · unfold ways; rw [List.length_map, List.length_range]; omega
      obtain ⟨t, rfl, ht⟩ := hP
      have s26 := s25.trans s6
      have hq6 := s26 _ _ hq2
      refine ⟨_, rfl, .inl ⟨rfl, _, SqL.of hq6⟩, _, rfl, t, _, 0, _, rfl, rfl, SqT.of ht, at0, _, rfl, t, _, 1, _, rfl, rfl, SqT.of ht, at1, _, rfl, _, _, rfl, rfl, hmd, (by show 2 ≤ sizeLine; decide), fun t7 ht7 => ?_⟩
      have s7 := same_new ht7 (.tup [.int (bestOf (ways row tb n j)).1, .int ((bestOf (ways row tb n j)).2 % md)])
      have s27 := s26.trans s7
      refine ⟨q, us, _, rfl, rfl, s7 _ _ hq6, small1000 (by omega), ?_⟩
      refine ⟨_, _, _, _, rfl, same_upd (s2.trans s27) hq _, upd_same, ?_⟩
      rw [rng_succ]
      have hq7 := s7 _ _ hq6
      exact ((hU.imp fun _ _ y => y.mono s27).snoc (x := jEnt row tb n md j) ⟨t7, rfl, upd_same⟩).imp fun _ _ y => y.put hq7
    · rintro i ys H4 ⟨_, hY⟩
      rw [hY.1, List.length_map, List.length_range]
      exact Nat.le_refl _
  · rintro σ H2 ⟨v4, v5, v6, us, rfl, s2, hq2, hU⟩
    rw [hzl] at hU
    exact ⟨_, rfl, kk _ _ s2 ⟨q, us, rfl, hq2, hU⟩⟩
theorem sc_tables_joined : FnScope ["one", "two", "modulus"] ["one", "two", "modulus"] (defScope s_tables_joined) := ⟨rfl, rfl, rfl, by decide +kernel, rfl, by decide +kernel, by decide +kernel⟩
theorem ok_jt {f fc : Addr} {fd fdc : FuncData} (F : Fun K "tables_joined" "tables_joined" s_tables_joined f fd) (T : Txt mg) (G_joined_row : Cal P w K mg base 2 "joined_row" ["row", "table", "modulus"] (spJR K) fc fdc) : FnOk P w K mg base CX0 3 f fd ["one", "two", "modulus"] (spJT K) := by
  refine F.ok sc_tables_joined (fun vs H Q E h => ?_) (fun cdv A outer s H vs Q E hr h => ?_)
  · obtain ⟨v, tv, md, one, tb, n, rfl, _⟩ := h
    rfl
  obtain ⟨v, tv, md, one, tb, n, rfl, ⟨a, xs, rfl, hA, hL⟩, hT, hmd, h0, h8, hs1, hs2, kk⟩ := h
  have hxl : xs.length = n := by rw [hL.1, hs1.len]
  obtain ⟨b, zs, rfl, hB, hM⟩ := hT
  refine ⟨_, (pss_one (ps_ret (pe_compG rfl (fr := [("two", 1), ("modulus", 2)]) (xs := ["row"]) (CompG.of (by rfl) (by decide +kernel) (by rfl) (by decide +kernel) (by intro p hp; simp only [List.mem_cons, List.not_mem_nil, or_false] at hp; rcases hp with rfl | rfl <;> exact ⟨rfl, rfl⟩) (by decide +kernel) (by intro p hp; simp only [List.mem_cons, List.not_mem_nil, or_false] at hp; rcases hp with rfl | rfl <;> rfl)) (pi_list (pv 0)) (fun C ex s H => (pg_name (i := 0) (show (["row", "two", "modulus"] : List Str).Nodup from by decide +kernel) rfl (Or.inl rfl))) (fun C ex s H => pts_nil) (fun C ex s H => (pe_call G_joined_row.ok (hr.mono (by decide)) rfl G_joined_row.mg G_joined_row.kp G_joined_row.bn .nil pass0 (pa_cons (pv 0) (pa_cons (pv 1) (pa_cons (pv 2) pa_nil)))))))), ?_⟩
  refine ⟨_, rfl, a, rfl, ⟨_, SqL.of hA⟩, compG_list (K := K) (xs := xs) (fun i ys H2 => Same H H2 ∧ LsAt RwAt H2 ys ((one.take i).map fun row => jRow row tb n md)) (Nat.le_of_lt (small1000 (by omega))) ⟨fun _ _ e => e, LsAt.nil⟩ (fun i ys H2 _ z => SqL.of (z.1 _ _ hA)) ?_ ?_ ?_⟩
  · rintro i x ys H2 hx ⟨s2, hY⟩
    obtain ⟨row, hrow, hR⟩ := hL.get hx
    have hm := List.mem_of_getElem? hrow
    refine ⟨rfl, yesT ⟨_, rfl, _, rfl, _, rfl, x, .ref b, md, row, tb, n, rfl, hR.mono s2, ⟨b, zs, rfl, s2 _ _ hB, hM.imp fun _ _ q => q.mono s2⟩, hmd, h0, h8, hs1.row row hm, hs1.bd row hm, hs2, fun u H3 s3 hu => ⟨s2.trans s3, ?_⟩⟩⟩
    rw [List.take_add_one, hrow, List.map_append]
    exact (hY.imp fun _ _ q => q.mono s3).snoc hu
  · rintro ys H2 ⟨s2, hY⟩ D hD
    rw [hL.1, List.take_length] at hY
    exact kk _ _ (s2.trans (same_new hD _)) ⟨D, ys, rfl, upd_same, hY.imp fun _ _ q => q.mono (same_new hD _)⟩
  · rintro i ys H2 ⟨_, hY⟩
    rw [hY.1, List.length_map, List.length_take]
    omega
theorem sc_law_cell : FnScope ["script", "k"] ["script", "k"] (defScope s_law_cell) := ⟨rfl, rfl, rfl, by decide +kernel, rfl, by decide +kernel, by decide +kernel⟩
theorem ok_cell {f : Addr} {fd : FuncData} (F : Fun K "_law_cell" "_law_cell" s_law_cell f fd) (T : Txt mg) : FnOk P w K mg base CX0 1 f fd ["script", "k"] (spCell K) := by
  refine F.ok sc_law_cell (fun vs H Q E h => ?_) (fun cdv A outer s H vs Q E hr h => ?_)
  · obtain ⟨a, k, ns, rfl, _⟩ := h
    rfl
  obtain ⟨a, k, ns, rfl, hS, q⟩ := h
  refine ⟨_, (pss_cons (ps_if (pt_cmpR op_lt (pv 1) (pe_callB call_len_seq (by rfl) T.n_len bt_len (pa_cons (pv 0) pa_nil)) (nomark _)) (pss_one (ps_ret (pe_ix ix_list (pv 0) (pv 1) (fun _ _ => rfl)))) pss_nil)
      (pss_one (ps_ret pe_int))), ?_⟩
  refine ⟨_, rfl, _, rfl, a, _, rfl, .inl hS, _, _, rfl, rfl, _, rfl, ?_⟩
  refine ite2 (fun c => ?_) (fun c => ?_)
  · have c' : (k : Int) < ((ns.map V.int).length : Int) := of_decide_eq_true c
    rw [List.length_map] at c'
    have hk : k < ns.length := by omega
    have hat : atI (ns.map V.int) (k : Int) = some (.int (cellD ns k)) := atI_nat (by rw [List.getElem?_map, List.getElem?_eq_getElem hk]; unfold cellD; rw [List.getD_eq_getElem?_getD, List.getElem?_eq_getElem hk]; rfl)
    exact ⟨_, rfl, _, rfl, a, _, _, _, rfl, rfl, hS, hat, q⟩
  · have c' : ¬ (k : Int) < ((ns.map V.int).length : Int) := fun z => c (decide_eq_true z)
    rw [List.length_map] at c'
    have e : cellD ns k = 0 := by unfold cellD; rw [List.getD_eq_getElem?_getD, List.getElem?_eq_none (by omega)]; rfl
    rw [e] at q
    exact q
end
/-! powers of tables: the mathematics -/
def sumL {α : Type} (l : List α) (f : α → Int) : Int := (l.map f).sum
theorem sumL_nil {α : Type} (f : α → Int) : sumL [] f = 0 := rfl
theorem sumL_cons {α : Type} (x : α) (l : List α) (f : α → Int) : sumL (x :: l) f = f x + sumL l f := by unfold sumL; rw [List.map_cons, List.sum_cons]
theorem sumL_add {α : Type} (l : List α) (f g : α → Int) : sumL l (fun x => f x + g x) = sumL l f + sumL l g := by
  induction l with
  | nil => rfl
  | cons x l ih => rw [sumL_cons, sumL_cons, sumL_cons, ih]; omega
theorem sumL_zero {α : Type} (l : List α) : sumL l (fun _ => 0) = 0 := by
  induction l with
  | nil => rfl
  | cons x l ih => rw [sumL_cons, ih]; rfl
theorem sumL_congr {α : Type} {l : List α} {f g : α → Int} (h : ∀ x ∈ l, f x = g x) : sumL l f = sumL l g := by
  induction l with
  | nil => rfl
  | cons x l ih => rw [sumL_cons, sumL_cons, h x (by simp), ih fun y hy => h y (by simp [hy])]
theorem sumL_swap {α β : Type} (l : List α) (r : List β) (f : α → β → Int) : sumL l (fun x => sumL r (f x)) = sumL r (fun y => sumL l (fun x => f x y)) := by
  induction l with
  | nil => rw [sumL_nil]; exact (sumL_zero r).symm
  | cons x l ih =>
    rw [sumL_cons, ih, ← sumL_add]
    exact sumL_congr fun y _ => (sumL_cons x l fun x => f x y).symm
theorem sumL_mulr {α : Type} (l : List α) (f : α → Int) (c : Int) : sumL l f * c = sumL l (fun x => f x * c) := by
  induction l with
  | nil => rw [sumL_nil, sumL_nil, Int.zero_mul]
  | cons x l ih => rw [sumL_cons, sumL_cons, Int.add_mul, ih]
theorem sumL_mull {α : Type} (l : List α) (f : α → Int) (c : Int) : c * sumL l f = sumL l (fun x => c * f x) := by
  rw [Int.mul_comm, sumL_mulr]
  exact sumL_congr fun x _ => Int.mul_comm _ _
theorem sumL_mod {α : Type} {l : List α} {f g : α → Int} {m : Int} (h : ∀ x ∈ l, f x % m = g x % m) : sumL l f % m = sumL l g % m := by
  induction l with
  | nil => rfl
  | cons x l ih => rw [sumL_cons, sumL_cons, Int.add_emod, h x (by simp), ih fun y hy => h y (by simp [hy]), ← Int.add_emod]
theorem tot_sum (es : List Pr) (lo : Int) : tot es lo = sumL es (fun e => if e.1 = lo then e.2 else 0) := by
  induction es with
  | nil => rfl
  | cons x l ih =>
    rw [sumL_cons, ← ih]
    unfold tot
    by_cases c : x.1 = lo
    · rw [List.filter_cons_of_pos (by exact decide_eq_true c), if_pos c, List.map_cons, List.sum_cons]
    · rw [List.filter_cons_of_neg (by simpa using c), if_neg c]; omega
/-- the low and the sum of a row of ways, by what is at each number -/
def lowR (n : Nat) (f : Nat → Int) : Int := lowL ((List.range n).map f)
theorem lowR_spec {n : Nat} (h : 0 < n) (f : Nat → Int) : (∃ i, i < n ∧ f i = lowR n f) ∧ ∀ i, i < n → lowR n f ≤ f i := by
  have ne : (List.range n).map f ≠ [] := fun e => by
    have := congrArg List.length e
    rw [List.length_map, List.length_range] at this
    exact absurd this (by show ¬ n = 0; omega)
  obtain ⟨a, b⟩ := lowL_spec _ ne
  obtain ⟨i, hi, e⟩ := List.mem_map.mp a
  exact ⟨⟨i, List.mem_range.mp hi, e⟩, fun i hi => b _ (List.mem_map.mpr ⟨i, List.mem_range.mpr hi, rfl⟩)⟩
theorem lowR_congr {n : Nat} {f g : Nat → Int} (h : ∀ i, i < n → f i = g i) : lowR n f = lowR n g := by
  unfold lowR
  rw [List.map_congr_left fun i hi => h i (List.mem_range.mp hi)]
abbrev Mt := Nat → Nat → Pr
/-- two tables joined, as functions -/
def jn (n : Nat) (m : Int) (A B : Mt) : Mt := fun s t => (lowR n fun u => (A s u).1 + (B u t).1, (sumL (List.range n) fun u => if (A s u).1 + (B u t).1 = lowR n (fun u => (A s u).1 + (B u t).1) then (A s u).2 * (B u t).2 else 0) % m)
theorem mod_mul {a b c m : Int} (h : a % m = b % m) : (a * c) % m = (b * c) % m := by rw [Int.mul_emod, h, ← Int.mul_emod]
theorem mod_mull {a b c m : Int} (h : a % m = b % m) : (c * a) % m = (c * b) % m := by rw [Int.mul_comm c a, Int.mul_comm c b]; exact mod_mul h
/-- like as far as one looks, by the modulus -/
def Lk (n : Nat) (m : Int) (A B : Mt) : Prop := ∀ s t, s < n → t < n → (A s t).1 = (B s t).1 ∧ (A s t).2 % m = (B s t).2 % m
theorem Lk.refl {n : Nat} {m : Int} (A : Mt) : Lk n m A A := fun _ _ _ _ => ⟨rfl, rfl⟩
theorem Lk.trans {n : Nat} {m : Int} {A B C : Mt} (h : Lk n m A B) (k : Lk n m B C) : Lk n m A C := fun s t hs ht => ⟨(h s t hs ht).1.trans (k s t hs ht).1, (h s t hs ht).2.trans (k s t hs ht).2⟩
theorem Lk.symm {n : Nat} {m : Int} {A B : Mt} (h : Lk n m A B) : Lk n m B A := fun s t hs ht => ⟨(h s t hs ht).1.symm, (h s t hs ht).2.symm⟩
theorem jn_mod (n : Nat) (m : Int) (A B : Mt) (s t : Nat) : (jn n m A B s t).2 % m = (jn n m A B s t).2 := by unfold jn; exact Int.emod_emod_of_dvd _ (Int.dvd_refl m)
theorem jn_lk {n : Nat} {m : Int} {A B C D : Mt} (h : Lk n m A C) (k : Lk n m B D) : Lk n m (jn n m A B) (jn n m C D) := fun s t hs ht => by
  have e1 : ∀ u, u < n → (A s u).1 + (B u t).1 = (C s u).1 + (D u t).1 := fun u hu => by rw [(h s u hs hu).1, (k u t hu ht).1]
  have e2 := lowR_congr e1
  refine ⟨e2, ?_⟩
  rw [jn_mod, jn_mod]
  unfold jn
  refine sumL_mod fun u hu => ?_
  have hu' := List.mem_range.mp hu
  rw [e2, e1 u hu']
  by_cases c : (C s u).1 + (D u t).1 = lowR n fun u => (C s u).1 + (D u t).1
  · rw [if_pos c, if_pos c, Int.mul_emod, (h s u hs hu').2, (k u t hu' ht).2, ← Int.mul_emod]
  · rw [if_neg c, if_neg c]
theorem jn_assoc {n : Nat} {m : Int} (hn : 0 < n) (A B C : Mt) : Lk n m (jn n m (jn n m A B) C) (jn n m A (jn n m B C)) := fun s t hs ht => by
  -- the lows
  have L1 := lowR_spec hn fun v => (jn n m A B s v).1 + (C v t).1
  have L2 := lowR_spec hn fun u => (A s u).1 + (jn n m B C u t).1
  have ab : ∀ v, (∃ u, u < n ∧ (A s u).1 + (B u v).1 = (jn n m A B s v).1) ∧ ∀ u, u < n → (jn n m A B s v).1 ≤ (A s u).1 + (B u v).1 := fun v => lowR_spec hn fun u => (A s u).1 + (B u v).1
  have bc : ∀ u, (∃ v, v < n ∧ (B u v).1 + (C v t).1 = (jn n m B C u t).1) ∧ ∀ v, v < n → (jn n m B C u t).1 ≤ (B u v).1 + (C v t).1 := fun u => lowR_spec hn fun v => (B u v).1 + (C v t).1
  have el : (jn n m (jn n m A B) C s t).1 = (jn n m A (jn n m B C) s t).1 := by
    show lowR n (fun v => (jn n m A B s v).1 + (C v t).1) = lowR n (fun u => (A s u).1 + (jn n m B C u t).1)
    generalize lowR n (fun v => (jn n m A B s v).1 + (C v t).1) = x at L1
    generalize lowR n (fun u => (A s u).1 + (jn n m B C u t).1) = y at L2
    obtain ⟨⟨v, hv, ev⟩, lv⟩ := L1
    obtain ⟨⟨u, hu, eu⟩, lu⟩ := L2
    obtain ⟨⟨u', hu', eu'⟩, _⟩ := ab v
    obtain ⟨⟨v', hv', ev'⟩, _⟩ := bc u
    have a1 := lu u' hu'
    have a2 := (bc u').2 v hv
    have a3 := lv v' hv'
    have a4 := (ab v').2 u hu
    omega
  refine ⟨el, ?_⟩
  rw [jn_mod, jn_mod]
  have el' : lowR n (fun v => (jn n m A B s v).1 + (C v t).1) = lowR n (fun u => (A s u).1 + (jn n m B C u t).1) := el
  generalize hlo : lowR n (fun v => (jn n m A B s v).1 + (C v t).1) = lo at L1 el'
  have low : ∀ u v, u < n → v < n → lo ≤ (A s u).1 + (B u v).1 + (C v t).1 := fun u v hu hv => by
    have a1 := L1.2 v hv
    have a2 := (ab v).2 u hu
    omega
  -- both are the sum over all pairs
  have s1 : (jn n m (jn n m A B) C s t).2 = (sumL (List.range n) fun v => sumL (List.range n) fun u => if (A s u).1 + (B u v).1 + (C v t).1 = lo then (A s u).2 * (B u v).2 * (C v t).2 else 0) % m := by
    show (sumL (List.range n) fun v => if (jn n m A B s v).1 + (C v t).1 = lowR n (fun v => (jn n m A B s v).1 + (C v t).1) then (jn n m A B s v).2 * (C v t).2 else 0) % m = _
    rw [hlo]
    refine sumL_mod fun v hv => ?_
    have hv' := List.mem_range.mp hv
    by_cases c : (jn n m A B s v).1 + (C v t).1 = lo
    · rw [if_pos c]
      have e : (jn n m A B s v).2 % m = (sumL (List.range n) fun u => if (A s u).1 + (B u v).1 = (jn n m A B s v).1 then (A s u).2 * (B u v).2 else 0) % m := by
        rw [jn_mod]; rfl
      rw [mod_mul e, sumL_mulr]
      refine congrArg (· % m) (sumL_congr fun u hu => ?_)
      by_cases d : (A s u).1 + (B u v).1 = (jn n m A B s v).1
      · rw [if_pos d, if_pos (by omega)]
      · rw [if_neg d, if_neg (by omega), Int.zero_mul]
    · rw [if_neg c]
      have z : (sumL (List.range n) fun u => if (A s u).1 + (B u v).1 + (C v t).1 = lo then (A s u).2 * (B u v).2 * (C v t).2 else 0) = 0 := by
        refine Eq.trans (sumL_congr (g := fun _ => 0) fun u hu => ?_) (sumL_zero _)
        have a1 := L1.2 v hv'
        have a2 := (ab v).2 u (List.mem_range.mp hu)
        rw [if_neg (by omega)]
      rw [z]
  have s2 : (jn n m A (jn n m B C) s t).2 = (sumL (List.range n) fun u => sumL (List.range n) fun v => if (A s u).1 + (B u v).1 + (C v t).1 = lo then (A s u).2 * (B u v).2 * (C v t).2 else 0) % m := by
    show (sumL (List.range n) fun u => if (A s u).1 + (jn n m B C u t).1 = lowR n (fun u => (A s u).1 + (jn n m B C u t).1) then (A s u).2 * (jn n m B C u t).2 else 0) % m = _
    rw [← el'] at L2 ⊢
    refine sumL_mod fun u hu => ?_
    have hu' := List.mem_range.mp hu
    by_cases c : (A s u).1 + (jn n m B C u t).1 = lo
    · rw [if_pos c]
      have e : (jn n m B C u t).2 % m = (sumL (List.range n) fun v => if (B u v).1 + (C v t).1 = (jn n m B C u t).1 then (B u v).2 * (C v t).2 else 0) % m := by
        rw [jn_mod]; rfl
      rw [mod_mull e, sumL_mull]
      refine congrArg (· % m) (sumL_congr fun v hv => ?_)
      by_cases d : (B u v).1 + (C v t).1 = (jn n m B C u t).1
      · rw [if_pos d, if_pos (by omega), Int.mul_assoc]
      · rw [if_neg d, if_neg (by omega), Int.mul_zero]
    · rw [if_neg c]
      have z : (sumL (List.range n) fun v => if (A s u).1 + (B u v).1 + (C v t).1 = lo then (A s u).2 * (B u v).2 * (C v t).2 else 0) = 0 := by
        refine Eq.trans (sumL_congr (g := fun _ => 0) fun v hv => ?_) (sumL_zero _)
        have a1 := L2.2 u hu'
        have a2 := (bc u).2 v (List.mem_range.mp hv)
        rw [if_neg (by omega)]
      rw [z]
  rw [s1, s2, sumL_swap]
/-- the powers -/
def pwr (n : Nat) (m : Int) (A : Mt) : Nat → Mt
  | 0 => A
  | k + 1 => jn n m (pwr n m A k) A
theorem pwr_add {n : Nat} {m : Int} (hn : 0 < n) (A : Mt) (a b : Nat) : Lk n m (jn n m (pwr n m A a) (pwr n m A b)) (pwr n m A (a + b + 1)) := by
  induction b with
  | zero => exact Lk.refl _
  | succ b ih => exact ((jn_assoc hn _ _ _).symm).trans (jn_lk ih (Lk.refl A))

/-! tables as functions -/
def tabOf (n : Nat) (A : Mt) : Tb := (List.range n).map fun s => (List.range n).map fun t => A s t
def mtOf (tb : Tb) : Mt := fun s t => g2 (tb.getD s []) t
theorem list_rng {α : Type} (l : List α) (d : α) : (List.range l.length).map (fun i => l.getD i d) = l := by
  apply List.ext_getElem?
  intro i
  rw [List.getElem?_map]
  by_cases h : i < l.length
  · rw [List.getElem?_range h, Option.map_some, List.getD_eq_getElem?_getD, List.getElem?_eq_getElem h]; rfl
  · rw [List.getElem?_eq_none (by rw [List.length_range]; omega), List.getElem?_eq_none (by omega)]; rfl
theorem tab_mt {n : Nat} {tb : Tb} (h1 : tb.length = n) (h2 : ∀ r ∈ tb, r.length = n) : tabOf n (mtOf tb) = tb := by
  unfold tabOf mtOf
  subst h1
  have e : (List.range tb.length).map (fun s => (List.range tb.length).map fun t => g2 (tb.getD s []) t) = (List.range tb.length).map (fun s => tb.getD s []) := by
    refine List.map_congr_left fun s hs => ?_
    have hs' := List.mem_range.mp hs
    have hm : tb.getD s [] ∈ tb := by rw [List.getD_eq_getElem?_getD, List.getElem?_eq_getElem hs']; exact List.getElem_mem hs'
    have hl := h2 _ hm
    generalize tb.getD s [] = r at hl
    rw [← hl]
    exact list_rng r (0, 0)
  rw [e]
  exact list_rng tb []
theorem get_rng {α : Type} {n i : Nat} {f : Nat → α} {d : α} (h : i < n) : ((List.range n).map f).getD i d = f i := by
  rw [List.getD_eq_getElem?_getD, List.getElem?_map, List.getElem?_range h]; rfl
theorem mt_tab {n s t : Nat} {A : Mt} (hs : s < n) (ht : t < n) : mtOf (tabOf n A) s t = A s t := by
  unfold mtOf tabOf g2
  rw [get_rng hs, get_rng ht]
theorem tab_congr {n : Nat} {A B : Mt} (h : ∀ s t, s < n → t < n → A s t = B s t) : tabOf n A = tabOf n B := by
  unfold tabOf
  refine List.map_congr_left fun s hs => List.map_congr_left fun t ht => h s t (List.mem_range.mp hs) (List.mem_range.mp ht)
theorem jEnt_jn {one tb : Tb} {n : Nat} {md : Int} (s t : Nat) : jEnt (one.getD s []) tb n md t = jn n md (mtOf one) (mtOf tb) s t := by
  unfold jEnt bestOf
  have e1 : (ways (one.getD s []) tb n t).map (·.1) = (List.range n).map fun u => (mtOf one s u).1 + (mtOf tb u t).1 := by unfold ways; rw [List.map_map]; rfl
  rw [e1, tot_sum]
  have e2 : ∀ f : Pr → Int, sumL (ways (one.getD s []) tb n t) f = sumL (List.range n) fun u => f (wayI (one.getD s []) tb t u) := fun f => by unfold sumL ways; rw [List.map_map]; rfl
  rw [e2]
  rfl
theorem jTab_jn {one tb : Tb} {n : Nat} {md : Int} (h : one.length = n) : jTab one tb n md = tabOf n (jn n md (mtOf one) (mtOf tb)) := by
  unfold jTab tabOf
  have e : one.map (fun row => jRow row tb n md) = ((List.range one.length).map (fun i => one.getD i [])).map (fun row => jRow row tb n md) := by rw [list_rng]
  rw [e, List.map_map, h]
  refine List.map_congr_left fun s _ => ?_
  show jRow (one.getD s []) tb n md = _
  unfold jRow
  exact List.map_congr_left fun t _ => jEnt_jn s t
theorem jn_congr {n : Nat} {md : Int} {A B C D : Mt} (h : ∀ s t, s < n → t < n → A s t = C s t) (k : ∀ s t, s < n → t < n → B s t = D s t) {s t : Nat} (hs : s < n) (ht : t < n) : jn n md A B s t = jn n md C D s t := by
  have e : ∀ u, u < n → (A s u).1 + (B u t).1 = (C s u).1 + (D u t).1 := fun u hu => by rw [h s u hs hu, k u t hu ht]
  unfold jn
  rw [lowR_congr e]
  refine congrArg (fun z => (_, z % md)) (sumL_congr fun u hu => ?_)
  have hu' := List.mem_range.mp hu
  rw [h s u hs hu', k u t hu' ht]
theorem jTab_tab {n : Nat} {md : Int} (A B : Mt) : jTab (tabOf n A) (tabOf n B) n md = tabOf n (jn n md A B) := by
  rw [jTab_jn (by unfold tabOf; rw [List.length_map, List.length_range])]
  exact tab_congr fun s t hs ht => jn_congr (fun s t hs ht => mt_tab hs ht) (fun s t hs ht => mt_tab hs ht) hs ht
def rdc (m : Int) (A : Mt) : Mt := fun s t => ((A s t).1, (A s t).2 % m)
def Red (m : Int) (A : Mt) : Prop := ∀ s t, (A s t).2 % m = (A s t).2
theorem red_rdc (m : Int) (A : Mt) : Red m (rdc m A) := fun _ _ => Int.emod_emod_of_dvd _ (Int.dvd_refl m)
theorem red_jn (n : Nat) (m : Int) (A B : Mt) : Red m (jn n m A B) := fun s t => jn_mod n m A B s t
theorem red_pwr {n : Nat} {m : Int} {A : Mt} (h : Red m A) : ∀ k, Red m (pwr n m A k)
  | 0 => h
  | _ + 1 => red_jn n m _ _
theorem lk_eq {n : Nat} {m : Int} {A B : Mt} (h : Lk n m A B) (a : Red m A) (b : Red m B) : tabOf n A = tabOf n B := tab_congr fun s t hs ht => by
  obtain ⟨h1, h2⟩ := h s t hs ht
  rw [a s t, b s t] at h2
  exact Prod.ext h1 h2
theorem lk_rdc (n : Nat) (m : Int) (A : Mt) : Lk n m (rdc m A) A := fun s t _ _ => ⟨rfl, red_rdc m A s t⟩
def PW (n : Nat) (m : Int) (tb : Tb) (k : Nat) : Tb := tabOf n (pwr n m (rdc m (mtOf tb)) (k - 1))
theorem PW_add {n : Nat} {m : Int} {tb : Tb} {a b : Nat} (hn : 0 < n) (ha : 0 < a) (hb : 0 < b) : jTab (PW n m tb a) (PW n m tb b) n m = PW n m tb (a + b) := by
  unfold PW
  rw [jTab_tab]
  have e : a + b - 1 = (a - 1) + (b - 1) + 1 := by omega
  rw [e]
  exact lk_eq (pwr_add hn _ _ _) (red_jn n m _ _) (red_pwr (red_rdc m _) _)
theorem PW_one {n : Nat} {m : Int} {tb : Tb} (h1 : tb.length = n) (h2 : ∀ r ∈ tb, r.length = n) : PW n m tb 1 = tb.map fun r => r.map fun p => (p.1, p.2 % m) := by
  have e : tb.map (fun r => r.map fun p => (p.1, p.2 % m)) = (tabOf n (mtOf tb)).map (fun r => r.map fun p => (p.1, p.2 % m)) := by rw [tab_mt h1 h2]
  rw [e]
  unfold PW tabOf
  rw [List.map_map]
  refine List.map_congr_left fun s _ => ?_
  show _ = List.map _ (List.map _ _)
  rw [List.map_map]
  rfl
theorem PW_sqr {n : Nat} {m : Int} {tb : Tb} (hm : 0 < m) (hm2 : m ≤ 2 ^ 100) (k : Nat) : Sqr n (PW n m tb k) := by
  have hr : Red m (pwr n m (rdc m (mtOf tb)) (k - 1)) := red_pwr (red_rdc m _) _
  unfold PW
  generalize pwr n m (rdc m (mtOf tb)) (k - 1) = A at hr
  refine ⟨by unfold tabOf; rw [List.length_map, List.length_range], fun r h => ?_, fun r h p hp => ?_⟩
  · obtain ⟨s, _, rfl⟩ := List.mem_map.mp h
    rw [List.length_map, List.length_range]
  · obtain ⟨s, _, rfl⟩ := List.mem_map.mp h
    obtain ⟨t, _, rfl⟩ := List.mem_map.mp hp
    have h1 := hr s t
    have h2 := Int.emod_nonneg (A s t).2 (show m ≠ 0 by omega)
    have h3 := Int.emod_lt_of_pos (A s t).2 hm
    rw [h1] at h2 h3
    have h4 : (2 : Int) ^ 100 ≤ 2 ^ 200 := by decide
    omega

def spRbm : Sp := fun vs H Q _ => ∃ (v : V) (md : Int) (row : List Pr), vs = [v, .int md] ∧ RwAt H v row ∧ 0 < md ∧ row.length ≤ 900 ∧ ∀ u H', Same H H' → RwAt H' u (row.map fun p => (p.1, p.2 % md)) → Q u H'
def spTP : Sp := fun vs H Q _ => ∃ (v : V) (times md : Int) (tb : Tb) (n : Nat), vs = [v, .int times, .int md] ∧ TbAt H v tb ∧ Sqr n tb ∧ 0 < n ∧ n ≤ 8 ∧ 0 < md ∧ md ≤ 2 ^ 100 ∧ 0 < times ∧ ∀ u H', Same H H' → TbAt H' u (PW n md tb times.toNat) → Q u H'
def PwOk (n : Nat) (md : Int) (tb : Tb) (H : Hp) (pw : V) (r : Nat) : Prop := (pw = .non ∧ r = 0) ∨ (pw ≠ .non ∧ 0 < r ∧ TbAt H pw (PW n md tb r))
theorem PwOk.mono {n : Nat} {md : Int} {tb : Tb} {H H' : Hp} {pw : V} {r : Nat} (h : PwOk n md tb H pw r) (s : Same H H') : PwOk n md tb H' pw r := by
  rcases h with h | ⟨a, b, c⟩
  · exact .inl h
  · exact .inr ⟨a, b, c.mono s⟩
theorem TbAt.ne {H : Hp} {v : V} {tb : Tb} (h : TbAt H v tb) : v ≠ .non := by
  obtain ⟨a, ys, rfl, _⟩ := h
  intro e
  cases e
def InvP (n : Nat) (md : Int) (tb : Tb) (v : V) (times : Int) (H0 : Hp) : St → Hp → Prop := fun σ H => ∃ (vd pw : V) (left i r : Nat), σ = [some v, some (.int times), some (.int md), some vd, some pw, some (.int (left : Int))] ∧ Same H0 H ∧ (0 < left → TbAt H vd (PW n md tb (2 ^ i))) ∧ PwOk n md tb H pw r ∧ times.toNat = r + left * 2 ^ i
def restP (n : Nat) (md : Int) (tb : Tb) (v : V) (times : Int) (H0 : Hp) : TS := fun D σ H => ∃ (vd pw : V) (left i r : Nat), σ = [some v, some (.int times), some (.int md), some vd, some pw, some (.int (left : Int))] ∧ Same H0 H ∧ 0 < left ∧ TbAt H vd (PW n md tb (2 ^ i)) ∧ PwOk n md tb H pw r ∧ times.toNat = r + left / 2 * 2 ^ (i + 1) ∧
  ∀ vd' pw' H', InvP n md tb v times H0 [some v, some (.int times), some (.int md), some vd', some pw', some (.int ((left / 2 : Nat) : Int))] H' → D.nx [some v, some (.int times), some (.int md), some vd', some pw', some (.int ((left / 2 : Nat) : Int))] H'
theorem half1 {l i : Nat} (h : l % 2 = 1) : l * 2 ^ i = 2 ^ i + l / 2 * 2 ^ (i + 1) := by
  have e : l = l / 2 * 2 + 1 := by omega
  generalize l / 2 = q at e
  subst e
  rw [Nat.pow_succ, Nat.add_mul, Nat.one_mul, Nat.mul_assoc, Nat.mul_comm 2 (2 ^ i)]
  omega
theorem half0 {l i : Nat} (h : ¬ l % 2 = 1) : l * 2 ^ i = l / 2 * 2 ^ (i + 1) := by
  have e : l = l / 2 * 2 := by omega
  generalize l / 2 = q at e
  subst e
  rw [Nat.pow_succ, Nat.mul_assoc, Nat.mul_comm 2 (2 ^ i)]
theorem two_pos (i : Nat) : 0 < 2 ^ i := Nat.pow_pos (by decide)
section
variable {P : Program} {w : World} {K : PySem.W.Frag} {mg : Str → Option Value} {base : Heap}
theorem sc_row_by_modulus : FnScope ["row", "modulus"] ["row", "modulus"] (defScope s_row_by_modulus) := ⟨rfl, rfl, rfl, by decide +kernel, rfl, by decide +kernel, by decide +kernel⟩
theorem ok_rbm {f : Addr} {fd : FuncData} (F : Fun K "row_by_modulus" "row_by_modulus" s_row_by_modulus f fd) (T : Txt mg) : FnOk P w K mg base CX0 1 f fd ["row", "modulus"] spRbm := by
  refine F.ok sc_row_by_modulus (fun vs H Q E h => ?_) (fun cdv A outer s H vs Q E hr h => ?_)
  · obtain ⟨v, md, row, rfl, _⟩ := h
    rfl
  obtain ⟨v, md, row, rfl, ⟨a, xs, rfl, hA, hL⟩, hmd, hlen, kk⟩ := h
  have hxl := hL.1
  refine ⟨_, (pss_one (ps_ret (pe_compG rfl (fr := [("modulus", 1)]) (xs := ["low", "many"]) (CompG.of (by rfl) (by decide +kernel) (by rfl) (by decide +kernel) (by intro p hp; simp only [List.mem_cons, List.not_mem_nil, or_false] at hp; rcases hp with rfl <;> exact ⟨rfl, rfl⟩) (by decide +kernel) (by intro p hp; simp only [List.mem_cons, List.not_mem_nil, or_false] at hp; rcases hp with rfl <;> rfl)) (pi_list (pv 0)) (fun C ex s H => (pgK_tup (n := 2) (K := K) rfl rfl (pgs_cons (pg_name (i := 0) (show (["low", "many", "modulus"] : List Str).Nodup from by decide +kernel) rfl (Or.inl rfl)) (pgs_cons (pg_name (i := 1) (show (["low", "many", "modulus"] : List Str).Nodup from by decide +kernel) rfl (Or.inl rfl)) pgs_nil)))) (fun C ex s H => pts_nil) (fun C ex s H => (pe_tup (pa_cons (pv 0) (pa_cons (pe_op op_mod (pv 1) (pv 2)) pa_nil))))))), ?_⟩
  refine ⟨_, rfl, a, rfl, ⟨_, SqL.of hA⟩, compG_list (K := K) (xs := xs) (fun i ys H2 => Same H H2 ∧ LsAt PrAt H2 ys ((row.take i).map fun p => (p.1, p.2 % md))) (Nat.le_of_lt (small1000 (by omega))) ⟨fun _ _ e => e, LsAt.nil⟩ (fun i ys H2 _ z => SqL.of (z.1 _ _ hA)) ?_ ?_ ?_⟩
  · rintro i x ys H2 hx ⟨s2, hY⟩
    obtain ⟨p, hp, t, rfl, ht⟩ := hL.get hx
    refine ⟨t, _, rfl, SqT.of (s2 _ _ ht), rfl, _, _, rfl, _, _, rfl, rfl, rfl, yesT ⟨_, rfl, _, rfl, _, rfl, _, _, rfl, rfl, hmd, (by show 2 ≤ sizeLine; decide), fun t4 ht4 => ?_⟩⟩
    have s4 := same_new ht4 (.tup [.int p.1, .int (p.2 % md)])
    refine ⟨s2.trans s4, ?_⟩
    rw [List.take_add_one, hp, List.map_append]
    exact (hY.imp fun _ _ q => q.mono s4).snoc ⟨t4, rfl, upd_same⟩
  · rintro ys H2 ⟨s2, hY⟩ D hD
    rw [hL.1, List.take_length] at hY
    exact kk _ _ (s2.trans (same_new hD _)) ⟨D, ys, rfl, upd_same, hY.imp fun _ _ q => q.mono (same_new hD _)⟩
  · rintro i ys H2 ⟨_, hY⟩
    rw [hY.1, List.length_map, List.length_take]
    omega
theorem sc_table_power : FnScope ["table", "times", "modulus", "doubled", "power", "left"] ["table", "times", "modulus"] (defScope s_table_power) := ⟨rfl, rfl, rfl, by decide +kernel, rfl, by decide +kernel, by decide +kernel⟩
theorem ok_tp {f fj fb : Addr} {fd fdj fdb : FuncData} (F : Fun K "table_power" "table_power" s_table_power f fd) (T : Txt mg) (G_tables_joined : Cal P w K mg base 3 "tables_joined" ["one", "two", "modulus"] (spJT K) fj fdj) (G_row_by_modulus : Cal P w K mg base 1 "row_by_modulus" ["row", "modulus"] spRbm fb fdb) : FnOk P w K mg base CX0 4 f fd ["table", "times", "modulus"] spTP := by
  refine F.ok sc_table_power (fun vs H Q E h => ?_) (fun cdv A outer s H vs Q E hr h => ?_)
  · obtain ⟨v, times, md, tb, n, rfl, _⟩ := h
    rfl
  obtain ⟨v, times, md, tb, n, rfl, ⟨a, xs, rfl, hA, hL⟩, hsq, hn, h8, hmd, hmd2, htm, kk⟩ := h
  have hxl : xs.length = n := by rw [hL.1, hsq.len]
  refine ⟨_, (pss_cons (ps_setComp (i := 3) rfl sc_table_power.nd rfl rfl (fr := [("modulus", 2)]) (by exact CompOk.one (by rfl) (by decide +kernel) (by rfl) (by decide +kernel) (by rfl) (by decide +kernel) (by rfl) (by rfl) (by decide +kernel) (by rfl)) (pi_list (pv 0)) (fun C ex s H => (pe_call G_row_by_modulus.ok (hr.mono (by decide)) rfl G_row_by_modulus.mg G_row_by_modulus.kp G_row_by_modulus.bn .nil pass0 (pa_cons (pv 0) (pa_cons (pv 1) pa_nil)))))
      (pss_cons (ps_set (i := 4) sc_table_power.nd rfl (Or.inl rfl) pe_non)
      (pss_cons (ps_set (i := 5) sc_table_power.nd rfl (Or.inl rfl) (pv 1))
      (pss_cons (ps_while PassesOwn.never (pt_cmpR op_gt (pv 5) pe_int (nomark _)) (pss_cons (ps_if (pt_cmpR op_eq (pe_op op_mod (pv 5) pe_int) pe_int (nomark _)) (pss_one (ps_set (i := 4) sc_table_power.nd rfl (Or.inl rfl) (pe_ifExp (pt_cmpR op_isN (pv 4) pe_non (nomark _)) (pv 3) (pe_call G_tables_joined.ok (hr.mono (by decide)) rfl G_tables_joined.mg G_tables_joined.kp G_tables_joined.bn .nil pass0 (pa_cons (pv 4) (pa_cons (pv 3) (pa_cons (pv 2) pa_nil))))))) pss_nil)
      (pss_imp (t2 := restP n md tb (.ref a) times H) (pss_cons (ps_set (i := 5) sc_table_power.nd rfl (Or.inl rfl) (pe_op op_fdiv (pv 5) pe_int))
      (pss_one (ps_if (pt_cmpR op_gt (pv 5) pe_int (nomark _)) (pss_one (ps_set (i := 3) sc_table_power.nd rfl (Or.inl rfl) (pe_call G_tables_joined.ok (hr.mono (by decide)) rfl G_tables_joined.mg G_tables_joined.kp G_tables_joined.bn .nil pass0 (pa_cons (pv 3) (pa_cons (pv 3) (pa_cons (pv 2) pa_nil)))))) pss_nil))) (fun D0 S0 H0 h0 => ?restp))))
      (pss_one (ps_ret (pv 4))))))), ?_⟩
  case restp =>
    obtain ⟨vd, pw, left, i, r, rfl, s0, hl, hD, hP, hT, kn⟩ := h0
    have el : (left : Int) / 2 = ((left / 2 : Nat) : Int) := by omega
    simp only [← el] at kn
    refine ⟨_, rfl, _, _, rfl, rfl, ⟨by decide, by decide⟩, ?_⟩
    refine ⟨_, rfl, _, _, rfl, rfl, _, rfl, ?_⟩
    refine ite2 (fun c => ?_) (fun c => ?_)
    · have c' : 0 < left / 2 := by
        have z : (0 : Int) < (left : Int) / 2 := of_decide_eq_true c
        omega
      refine ⟨_, rfl, _, rfl, _, rfl, vd, vd, md, _, _, n, rfl, hD, hD, hmd, hn, h8, PW_sqr hmd hmd2 _, PW_sqr hmd hmd2 _, fun u H3 s3 hu => ?_⟩
      rw [PW_add hn (two_pos i) (two_pos i)] at hu
      refine kn u pw H3 ⟨u, pw, left / 2, i + 1, r, by rw [el], s0.trans s3, fun _ => ?_, hP.mono s3, hT⟩
      rw [Nat.pow_succ, Nat.mul_two]
      exact hu
    · have c' : ¬ 0 < left / 2 := fun z => c (decide_eq_true (show (0 : Int) < (left : Int) / 2 by omega))
      exact kn vd pw _ ⟨vd, pw, left / 2, i + 1, r, by rw [el], s0, fun z => absurd z c', hP, hT⟩
  refine ⟨_, rfl, a, rfl, ⟨_, SqL.of hA⟩, comp_list (K := K) (xs := xs) (fun i ys H2 => Same H H2 ∧ LsAt RwAt H2 ys ((tb.take i).map fun r => r.map fun p => (p.1, p.2 % md))) (Nat.le_of_lt (small1000 (by omega))) ⟨fun _ _ e => e, LsAt.nil⟩ (fun i ys H2 _ z => SqL.of (z.1 _ _ hA)) ?_ ?_⟩
  · rintro i x ys H2 hx ⟨s2, hY⟩
    obtain ⟨row, hrow, hR⟩ := hL.get hx
    refine ⟨_, rfl, _, rfl, x, md, row, rfl, hR.mono s2, hmd, by rw [hsq.row row (List.mem_of_getElem? hrow)]; omega, fun u H3 s3 hu => ⟨s2.trans s3, ?_⟩⟩
    rw [List.take_add_one, hrow, List.map_append]
    exact (hY.imp fun _ _ q => q.mono s3).snoc hu
  rintro ys H2 _ ⟨s2, hY⟩ D hD
  rw [hL.1, List.take_length, ← PW_one hsq.len hsq.row] at hY
  have sD := same_new hD (.lst ys)
  have hP1 : TbAt (upd H2 D (.lst ys)) (.ref D) (PW n md tb (2 ^ 0)) := ⟨D, ys, rfl, upd_same, hY.imp fun _ _ q => q.mono sD⟩
  have s2D := s2.trans sD
  generalize upd H2 D (.lst ys) = H3 at hP1 s2D
  refine ⟨_, rfl, while_by (InvP n md tb (.ref a) times H) (fun σ _ => match σ with | [_, _, _, _, _, some (.int k)] => k.toNat | _ => 0) ⟨.ref D, .non, times.toNat, 0, 0, ?_, s2D, fun _ => hP1, .inl ⟨rfl, rfl⟩, by simp⟩ ?_ ?_⟩
  · rw [Int.toNat_of_nonneg (by omega)]
    rfl
  · rintro σ H4 ⟨vd, pw, left, i, r, rfl, s4, hD4, hP, hT⟩
    refine ⟨_, rfl, _, _, rfl, rfl, _, rfl, ?_⟩
    refine ite2 (fun c => ?_) (fun c => ?_)
    · have c' : 0 < left := by have := of_decide_eq_true c; omega
      have hD' := hD4 c'
      have fin : ∀ (vd' pw' : V) (H' : Hp), InvP n md tb (.ref a) times H [some (.ref a), some (.int times), some (.int md), some vd', some pw', some (.int ((left / 2 : Nat) : Int))] H' → InvP n md tb (.ref a) times H [some (.ref a), some (.int times), some (.int md), some vd', some pw', some (.int ((left / 2 : Nat) : Int))] H' ∧ ((left / 2 : Nat) : Int).toNat < ((left : Nat) : Int).toNat := fun _ _ _ z => ⟨z, by omega⟩
      refine ⟨_, rfl, _, _, rfl, rfl, (by show (0 : Int) < 2; decide), rfl, _, rfl, ?_⟩
      refine ite2 (fun d => ?_) (fun d => ?_)
      · have d' : left % 2 = 1 := by have := V.int.inj (of_decide_eq_true d); omega
        rcases hP with ⟨rfl, rfl⟩ | ⟨hne, hr0, hB⟩
        · refine ⟨_, rfl, rfl, _, rfl, iteT ⟨_, rfl, ?_⟩⟩
          exact ⟨vd, vd, left, i, 2 ^ i, rfl, s4, c', hD', .inr ⟨hD'.ne, two_pos i, hD'⟩, by rw [hT, Nat.zero_add]; exact half1 d', fin⟩
        · refine ⟨_, rfl, rfl, _, rfl, ite2 (fun z => absurd (of_decide_eq_true z) hne) (fun _ => ?_)⟩
          refine ⟨_, rfl, _, rfl, _, rfl, pw, vd, md, _, _, n, rfl, hB, hD', hmd, hn, h8, PW_sqr hmd hmd2 _, PW_sqr hmd hmd2 _, fun u H5 s5 hu => ?_⟩
          rw [PW_add hn hr0 (two_pos i)] at hu
          exact ⟨vd, u, left, i, r + 2 ^ i, rfl, s4.trans s5, c', hD'.mono s5, .inr ⟨hu.ne, Nat.add_pos_left hr0 _, hu⟩, by rw [hT, half1 d']; omega, fin⟩
      · have d' : ¬ left % 2 = 1 := fun z => d (decide_eq_true (congrArg V.int (by omega)))
        exact ⟨vd, pw, left, i, r, rfl, s4, c', hD', hP, by rw [hT, half0 d'], fin⟩
    · have c' : left = 0 := by
        have : ¬ (0 : Int) < (left : Int) := fun z => c (decide_eq_true z)
        omega
      subst c'
      rw [Nat.zero_mul, Nat.add_zero] at hT
      rcases hP with ⟨_, h⟩ | ⟨_, _, hB⟩
      · omega
      · rw [← hT] at hB
        exact ⟨_, rfl, kk _ _ s4 hB⟩
  · rintro σ H4 Q1 Q2 hi ⟨v1, e1, i', j', e2, e3, b, e4, q'⟩
    exact ⟨v1, e1, i', j', e2, e3, b, e4, hi _ _ q'⟩
end
end KS

namespace KS
open PySem L2
/-! strips: the mathematics -/
abbrev Col := List Int × List Int
def paidA (s : Int) : Int := if -s > 0 then -s else 0
def paidU (s : Int) : Int := if s > 0 then s else 0
def priceB (s : Int) (d : Nat) : Int := if d % 2 = 1 then paidU s else paidA s
def priceAt (ss : List Int) (d i : Nat) : Int := priceB (ss.getD i 0) (d / 2 ^ i)
def priceAll (ss : List Int) (d : Nat) : Int := ((List.range ss.length).map (priceAt ss d)).sum
def aC (c : Col) (s : Nat) : Int := priceAll c.1 (s ^^^ (s / 2))
def lC (c : Col) (s t : Nat) : Int := priceAll c.2 (s ^^^ t)
def colM (c : Col) : Mt := fun s t => (aC c s + lC c s t, 1)
structure Good (r : Nat) (pat : List Col) : Prop where
  p0 : 0 < pat.length
  p6 : pat.length ≤ 6
  r1 : 1 ≤ r
  r3 : r ≤ 3
  al : ∀ c ∈ pat, c.2.length = r ∧ c.1.length + 1 = r
theorem Good.n8 {r : Nat} {pat : List Col} (g : Good r pat) : 0 < 2 ^ r ∧ 2 ^ r ≤ 8 := by
  have h1 := g.r1
  have h3 := g.r3
  match r, h1, h3 with
  | 1, _, _ => decide
  | 2, _, _ => decide
  | 3, _, _ => decide
/-- joined without a modulus -/
def jx (n : Nat) (A B : Mt) : Mt := fun s t => (lowR n fun u => (A s u).1 + (B u t).1, sumL (List.range n) fun u => if (A s u).1 + (B u t).1 = lowR n (fun u => (A s u).1 + (B u t).1) then (A s u).2 * (B u t).2 else 0)
theorem jn_jx (n : Nat) (m : Int) (A B : Mt) (s t : Nat) : jn n m A B s t = ((jx n A B s t).1, (jx n A B s t).2 % m) := rfl
theorem jx_lk (n : Nat) (m : Int) (A B : Mt) : Lk n m (jx n A B) (jn n m A B) := fun s t _ _ => ⟨rfl, by rw [jn_jx]; exact (Int.emod_emod_of_dvd _ (Int.dvd_refl m)).symm⟩
theorem jx_lk2 {n : Nat} {m : Int} {A B C D : Mt} (h : Lk n m A C) (k : Lk n m B D) : Lk n m (jx n A B) (jx n C D) := ((jx_lk n m A B).trans (jn_lk h k)).trans (jx_lk n m C D).symm
theorem jx_assoc {n : Nat} {m : Int} (hn : 0 < n) (A B C : Mt) : Lk n m (jx n A (jx n B C)) (jx n (jx n A B) C) := by
  refine (jx_lk n m _ _).trans ?_
  refine Lk.trans ?_ (jx_lk n m _ _).symm
  refine (jn_lk (Lk.refl A) (jx_lk n m B C)).trans ?_
  refine Lk.trans ?_ (jn_lk (jx_lk n m A B).symm (Lk.refl C))
  exact (jn_assoc hn A B C).symm
/-- bounds of the manys -/
def Cnt (n : Nat) (A : Mt) (b : Nat) : Prop := ∀ s t, s < n → t < n → 0 ≤ (A s t).2 ∧ (A s t).2 ≤ (b : Int)
theorem sumL_bd {n : Nat} {f : Nat → Int} {b : Int} (h : ∀ u, u < n → 0 ≤ f u ∧ f u ≤ b) : 0 ≤ sumL (List.range n) f ∧ sumL (List.range n) f ≤ n * b := by
  induction n with
  | zero => exact ⟨Int.le_refl _, by rw [show List.range 0 = [] from rfl, sumL_nil]; simp⟩
  | succ n ih =>
    obtain ⟨i1, i2⟩ := ih fun u hu => h u (by omega)
    obtain ⟨j1, j2⟩ := h n (by omega)
    have e : sumL (List.range (n + 1)) f = sumL (List.range n) f + f n := by
      unfold sumL
      rw [List.range_succ, List.map_append, List.sum_append, List.map_cons, List.map_nil, List.sum_cons, List.sum_nil]
      omega
    have e2 : ((n + 1 : Nat) : Int) * b = n * b + b := by push_cast; rw [Int.add_mul, Int.one_mul]
    rw [e, e2]
    omega
theorem colM_cnt (n : Nat) (c : Col) : Cnt n (colM c) 1 := fun _ _ _ _ => ⟨by show (0 : Int) ≤ 1; decide, by show (1 : Int) ≤ ((1 : Nat) : Int); decide⟩
theorem jx_cnt {n b : Nat} {A : Mt} {c : Col} (h : Cnt n A b) : Cnt n (jx n A (colM c)) (n * b) := fun s t hs ht => by
  have := sumL_bd (n := n) (f := fun u => if (A s u).1 + (colM c u t).1 = lowR n (fun u => (A s u).1 + (colM c u t).1) then (A s u).2 * (colM c u t).2 else 0) (b := (b : Int)) fun u hu => by
    obtain ⟨h1, h2⟩ := h s u hs hu
    have e : (A s u).2 * (colM c u t).2 = (A s u).2 := Int.mul_one _
    by_cases z : (A s u).1 + (colM c u t).1 = lowR n (fun u => (A s u).1 + (colM c u t).1)
    · rw [if_pos z, e]; exact ⟨h1, h2⟩
    · rw [if_neg z]; exact ⟨Int.le_refl _, by omega⟩
  push_cast
  exact this
def stepF (n : Nat) (A : Mt) (r : List Col) : Mt := r.foldl (fun A c => jx n A (colM c)) A
def stepM (n : Nat) : List Col → Mt
  | [] => fun _ _ => (0, 0)
  | c :: r => stepF n (colM c) r
theorem stepF_snoc (n : Nat) (A : Mt) (r : List Col) (c : Col) : stepF n A (r ++ [c]) = jx n (stepF n A r) (colM c) := by unfold stepF; rw [List.foldl_append]; rfl
theorem stepF_cnt {n b : Nat} (A : Mt) (h : Cnt n A b) (r : List Col) : Cnt n (stepF n A r) (n ^ r.length * b) := by
  induction r generalizing A b with
  | nil => rw [List.length_nil, Nat.pow_zero, Nat.one_mul]; exact h
  | cons c r ih =>
    have := ih (jx n A (colM c)) (jx_cnt h)
    rw [List.length_cons, Nat.pow_succ, Nat.mul_assoc]
    exact this
theorem stepF_lk {n : Nat} {m : Int} {A B : Mt} (r : List Col) (h : Lk n m A B) : Lk n m (stepF n A r) (stepF n B r) := by
  induction r generalizing A B with
  | nil => exact h
  | cons c r ih => exact ih (jx_lk2 h (Lk.refl _))
theorem stepF_assoc {n : Nat} {m : Int} (hn : 0 < n) (V A : Mt) (r : List Col) : Lk n m (jx n V (stepF n A r)) (stepF n (jx n V A) r) := by
  induction r generalizing A with
  | nil => exact Lk.refl _
  | cons c r ih => exact (ih (jx n A (colM c))).trans (stepF_lk r (jx_assoc hn V A (colM c)))
/-! rows -/
abbrev Vc := Nat → Pr
def cst (v : Vc) : Mt := fun _ => v
def jv (n : Nat) (v : Vc) (B : Mt) : Vc := fun t => jx n (cst v) B 0 t
theorem jv_cst (n : Nat) (v : Vc) (B : Mt) : jx n (cst v) B = cst (jv n v B) := rfl
def colAt (pat : List Col) (k : Nat) : Col := pat.getD (k % pat.length) ([], [])
def vec (n : Nat) (pat : List Col) : Nat → Vc
  | 0 => fun _ => (0, 1)
  | k + 1 => jv n (vec n pat k) (colM (colAt pat k))
theorem stepF_cst (n : Nat) (v : Vc) (r : List Col) : stepF n (cst v) r = cst (r.foldl (fun v c => jv n v (colM c)) v) := by
  induction r generalizing v with
  | nil => rfl
  | cons c r ih => exact ih (jv n v (colM c))
theorem vec_fold (n : Nat) (pat : List Col) (q : Nat) : ∀ i, i ≤ pat.length → (pat.take i).foldl (fun v c => jv n v (colM c)) (vec n pat (q * pat.length)) = vec n pat (q * pat.length + i)
  | 0, _ => by rw [List.take_zero]; rfl
  | i + 1, h => by
    obtain ⟨c, hc⟩ : ∃ c, pat[i]? = some c := ⟨_, List.getElem?_eq_getElem (by omega)⟩
    rw [List.take_add_one, hc, List.foldl_append, vec_fold n pat q i (by omega)]
    show jv n _ (colM c) = jv n _ (colM (colAt pat (q * pat.length + i)))
    have e : colAt pat (q * pat.length + i) = c := by
      unfold colAt
      rw [Nat.mul_comm, Nat.mul_add_mod, Nat.mod_eq_of_lt (by omega), List.getD_eq_getElem?_getD, hc]
      rfl
    rw [e]
    rfl
theorem step_vec {n : Nat} {m : Int} (hn : 0 < n) {pat : List Col} (h0 : 0 < pat.length) (q : Nat) : Lk n m (jx n (cst (vec n pat (q * pat.length))) (stepM n pat)) (cst (vec n pat ((q + 1) * pat.length))) := by
  have e := vec_fold n pat q pat.length (Nat.le_refl _)
  rw [List.take_length] at e
  rw [Nat.add_mul, Nat.one_mul, ← e]
  match pat, h0 with
  | c :: r, _ =>
    generalize vec n (c :: r) (q * (c :: r).length) = v
    have := stepF_assoc (m := m) hn (cst v) (colM c) r
    rw [jv_cst n v (colM c), stepF_cst] at this
    exact this
theorem pow_vec {n : Nat} {m : Int} (hn : 0 < n) {pat : List Col} (h0 : 0 < pat.length) {V : Mt} (hV : Lk n m V (cst (vec n pat 0))) {S : Mt} (hS : Lk n m S (stepM n pat)) : ∀ k, Lk n m (jn n m V (pwr n m S k)) (cst (vec n pat ((k + 1) * pat.length)))
  | 0 => by
    have := step_vec (m := m) hn h0 0
    rw [Nat.zero_mul] at this
    exact (jn_lk hV hS).trans ((jx_lk n m _ _).symm.trans this)
  | k + 1 => by
    have ih := pow_vec hn h0 hV hS k
    refine ((jn_assoc hn V (pwr n m S k) S).symm).trans ?_
    exact (jn_lk ih hS).trans ((jx_lk n m _ _).symm.trans (step_vec hn h0 (k + 1)))
/-- what a row says in the end -/
def fin (n : Nat) (v : Vc) (c : Col) : Pr := (lowR n fun s => (v s).1 + aC c s, sumL (List.range n) fun s => if (v s).1 + aC c s = lowR n (fun s => (v s).1 + aC c s) then (v s).2 else 0)
def SL (n : Nat) (pat : List Col) (k : Nat) : Pr := fin n (vec n pat k) (colAt pat k)
theorem fin_lk {n : Nat} {m : Int} {v w : Vc} (c : Col) (h : ∀ t, t < n → (v t).1 = (w t).1 ∧ (v t).2 % m = (w t).2 % m) : (fin n v c).1 = (fin n w c).1 ∧ (fin n v c).2 % m = (fin n w c).2 % m := by
  have e : lowR n (fun s => (v s).1 + aC c s) = lowR n fun s => (w s).1 + aC c s := lowR_congr fun s hs => by rw [(h s hs).1]
  refine ⟨e, ?_⟩
  unfold fin
  refine sumL_mod fun s hs => ?_
  obtain ⟨h1, h2⟩ := h s (List.mem_range.mp hs)
  rw [e, h1]
  by_cases z : (w s).1 + aC c s = lowR n (fun s => (w s).1 + aC c s)
  · rw [if_pos z, if_pos z]; exact h2
  · rw [if_neg z, if_neg z]
def rowOf (n : Nat) (v : Vc) : List Pr := (List.range n).map v
theorem rowOf_len (n : Nat) (v : Vc) : (rowOf n v).length = n := by unfold rowOf; rw [List.length_map, List.length_range]
theorem rowOf_at {n : Nat} {v : Vc} {i : Nat} (h : i < n) : (rowOf n v)[i]? = some (v i) := by unfold rowOf; rw [List.getElem?_map, List.getElem?_range h]; rfl
theorem jRow_of {n : Nat} {m : Int} (v : Vc) (B : Mt) : jRow (rowOf n v) (tabOf n B) n m = rowOf n (fun t => jn n m (cst v) B 0 t) := by
  unfold jRow
  refine List.map_congr_left fun t ht => ?_
  have ht' := List.mem_range.mp ht
  have e := jEnt_jn (one := [rowOf n v]) (tb := tabOf n B) (n := n) (md := m) 0 t
  refine e.trans ?_
  have e1 : ∀ u, u < n → mtOf [rowOf n v] 0 u = v u := fun u hu => g2_at (rowOf_at hu)
  have e2 : ∀ u, u < n → mtOf (tabOf n B) u t = B u t := fun u hu => mt_tab hu ht'
  unfold jn
  rw [lowR_congr (g := fun u => (cst v 0 u).1 + (B u t).1) fun u hu => by rw [e1 u hu, e2 u hu]; rfl]
  refine congrArg (fun z => (_, z % m)) (sumL_congr fun u hu => ?_)
  have hu' := List.mem_range.mp hu
  rw [e1 u hu', e2 u hu']
  rfl
theorem bestOf_fin {n : Nat} (v : Vc) (c : Col) : bestOf (rowOf n fun s => ((v s).1 + aC c s, (v s).2)) = fin n v c := by
  unfold bestOf
  have e1 : (rowOf n fun s => ((v s).1 + aC c s, (v s).2)).map (·.1) = (List.range n).map fun s => (v s).1 + aC c s := by unfold rowOf; rw [List.map_map]; rfl
  rw [e1, tot_sum]
  have e2 : ∀ f : Pr → Int, sumL (rowOf n fun s => ((v s).1 + aC c s, (v s).2)) f = sumL (List.range n) fun s => f ((v s).1 + aC c s, (v s).2) := fun f => by unfold sumL rowOf; rw [List.map_map]; rfl
  rw [e2]
  rfl
end KS


namespace KS
open PySem L2
local macro_rules | `(tactic| walk_at "cc") => `(tactic| first | exact ⟨by decide, by decide⟩ | (show (0 : Int) < _; decide) | (show (0 : Int) < _; omega) | (show (0 : Int) ≤ _; omega) | exact ⟨by decide, by decide, by decide⟩ | exact ⟨by omega, by omega, by decide⟩ | exact Or.inl ⟨by decide, by decide⟩ | exact Or.inl ⟨by omega, by omega⟩)
local macro_rules | `(tactic| walk_at "rd") => `(tactic| repeat (first | refine ⟨_, rfl, ?_⟩ | refine ⟨_, _, rfl, rfl, ?_⟩ | refine ⟨rfl, ?_⟩ | (refine ⟨?cc, ?_⟩; (case cc => walk_at "cc"))))

theorem pe_globI {X : Cx} {x : Str} {n : Int} {pos : Pos} (hg : Gl X x) (hm : ∃ t, X.mg x = some (.int n t)) (hd : (x == ("__debug__" : Str)) = false := by decide) : PE X (.Name x pos) (tC (.int n)) := by
  obtain ⟨t, h⟩ := hm
  exact pe_glob hg h ⟨t, rfl⟩ hd
/-! as they lie -/
def ColAt (H : Hp) (v : V) (c : Col) : Prop := ∃ t a b, v = .ref t ∧ H t = some (.tup [.ref a, .ref b]) ∧ H a = some (.lst (c.1.map V.int)) ∧ H b = some (.lst (c.2.map V.int))
def PatAt (H : Hp) (v : V) (pat : List Col) : Prop := ∃ a ys, v = .ref a ∧ H a = some (.lst ys) ∧ LsAt ColAt H ys pat
theorem ColAt.mono {H H' : Hp} {v : V} {c : Col} (h : ColAt H v c) (s : Same H H') : ColAt H' v c := by
  obtain ⟨t, a, b, e, h1, h2, h3⟩ := h
  exact ⟨t, a, b, e, s _ _ h1, s _ _ h2, s _ _ h3⟩
theorem PatAt.mono {H H' : Hp} {v : V} {pat : List Col} (h : PatAt H v pat) (s : Same H H') : PatAt H' v pat := by
  obtain ⟨a, ys, e, z, l⟩ := h
  exact ⟨a, ys, e, s _ _ z, l.imp fun _ _ q => q.mono s⟩
theorem xa (m n : Nat) : (m ^^^ n) + 2 * (m &&& n) = m + n := by
  have h := PyProof.Rows.nat_or_add_and m n
  have h2 : (m ||| n) = (m ^^^ n) + (m &&& n) := by
    have e : (m ^^^ n) + (m &&& n) = (m ^^^ n) ||| (m &&& n) := by
      have q := PyProof.Rows.nat_or_add_and (m ^^^ n) (m &&& n)
      have z : (m ^^^ n) &&& (m &&& n) = 0 := by
        apply Nat.eq_of_testBit_eq
        intro i
        simp only [Nat.testBit_and, Nat.testBit_xor, Nat.zero_testBit]
        cases m.testBit i <;> cases n.testBit i <;> rfl
      omega
    rw [e]
    apply Nat.eq_of_testBit_eq
    intro i
    simp only [Nat.testBit_and, Nat.testBit_xor, Nat.testBit_or]
    cases m.testBit i <;> cases n.testBit i <;> rfl
  omega
theorem bx_nat (a b : Nat) : Builtin.bitXor (a : Int) (b : Int) = ((a ^^^ b : Nat) : Int) := by
  rw [PyProof.Rows.bitXor_and, PyProof.Rows.bitAnd_pp (Int.natCast_nonneg _) (Int.natCast_nonneg _), Int.toNat_natCast, Int.toNat_natCast]
  have q := xa a b
  omega
theorem shr_nat (a i : Nat) : (a : Int) / 2 ^ ((i : Int)).toNat = ((a / 2 ^ i : Nat) : Int) := by
  rw [Int.toNat_natCast]; push_cast; rfl
theorem small8 {n : Nat} (h : n ≤ 8) : n ≤ sizeLine := Nat.le_of_lt (small1000 (by omega))
def spPA : Sp := fun vs H Q _ => ∃ x : Int, vs = [.int x] ∧ Q (.int (paidA x)) H
def spPU : Sp := fun vs H Q _ => ∃ x : Int, vs = [.int x] ∧ Q (.int (paidU x)) H
def spPB : Sp := fun vs H Q _ => ∃ (x : Int) (d : Nat), vs = [.int x, .int (d : Int)] ∧ Q (.int (priceB x d)) H
def spPall (K : PySem.W.Frag) : Sp := fun vs H Q _ => ∃ (a : Addr) (ss : List Int) (d : Nat), vs = [.ref a, .int (d : Int)] ∧ SqL K H a (ss.map V.int) ∧ ss.length ≤ 900 ∧ ∀ H', Same H H' → Q (.int (priceAll ss d)) H'
def spPac : Sp := fun vs H Q _ => ∃ (v : V) (c : Col) (s : Nat), vs = [v, .int (s : Int)] ∧ ColAt H v c ∧ c.1.length ≤ 900 ∧ ∀ H', Same H H' → Q (.int (aC c s)) H'
def spPal : Sp := fun vs H Q _ => ∃ (v : V) (c : Col) (s t : Nat), vs = [v, .int (s : Int), .int (t : Int)] ∧ ColAt H v c ∧ c.2.length ≤ 900 ∧ ∀ H', Same H H' → Q (.int (lC c s t)) H'
def spCol : Sp := fun vs H Q _ => ∃ (v : V) (c : Col) (r : Nat), vs = [v] ∧ ColAt H v c ∧ c.2.length = r ∧ 1 ≤ r ∧ r ≤ 3 ∧ c.1.length ≤ 900 ∧ ∀ u H', Same H H' → TbAt H' u (tabOf (2 ^ r) (colM c)) → Q u H'
def spRows : Sp := fun vs H Q _ => ∃ (v : V) (c : Col) (pat : List Col), vs = [v] ∧ PatAt H v (c :: pat) ∧ Q (.int (c.2.length : Int)) H
section
variable {P : Program} {w : World} {K : PySem.W.Frag} {mg : Str → Option Value} {base : Heap}
theorem sc_paid_alike : FnScope ["pull"] ["pull"] (defScope s_paid_alike) := ⟨rfl, rfl, rfl, by decide +kernel, rfl, by decide +kernel, by decide +kernel⟩
theorem ok_pa {f : Addr} {fd : FuncData} (F : Fun K "paid_alike" "paid_alike" s_paid_alike f fd) (T : Txt mg) : FnOk P w K mg base CX0 1 f fd ["pull"] spPA := by
  refine F.ok sc_paid_alike (fun vs H Q E h => ?_) (fun cdv A outer s H vs Q E hr h => ?_)
  · obtain ⟨x, rfl, _⟩ := h
    rfl
  obtain ⟨x, rfl, kk⟩ := h
  refine ⟨_, (pss_one (ps_ret (pe_callB (call_max2 rfl) (by rfl) T.n_max bt_max (pa_cons pe_int (pa_cons (pe_un un_neg (pv 0)) pa_nil))))), ?_⟩
  exact ⟨_, rfl, _, rfl, _, _, rfl, kk⟩
theorem sc_paid_unlike : FnScope ["pull"] ["pull"] (defScope s_paid_unlike) := ⟨rfl, rfl, rfl, by decide +kernel, rfl, by decide +kernel, by decide +kernel⟩
theorem ok_pu {f : Addr} {fd : FuncData} (F : Fun K "paid_unlike" "paid_unlike" s_paid_unlike f fd) (T : Txt mg) : FnOk P w K mg base CX0 1 f fd ["pull"] spPU := by
  refine F.ok sc_paid_unlike (fun vs H Q E h => ?_) (fun cdv A outer s H vs Q E hr h => ?_)
  · obtain ⟨x, rfl, _⟩ := h
    rfl
  obtain ⟨x, rfl, kk⟩ := h
  refine ⟨_, (pss_one (ps_ret (pe_callB (call_max2 rfl) (by rfl) T.n_max bt_max (pa_cons pe_int (pa_cons (pv 0) pa_nil))))), ?_⟩
  exact ⟨_, rfl, _, _, rfl, kk⟩
theorem sc_price_between : FnScope ["signed", "differ"] ["signed", "differ"] (defScope s_price_between) := ⟨rfl, rfl, rfl, by decide +kernel, rfl, by decide +kernel, by decide +kernel⟩
theorem ok_pb {f f1 f2 : Addr} {fd fd1 fd2 : FuncData} (F : Fun K "price_between" "price_between" s_price_between f fd) (T : Txt mg) (G_paid_alike : Cal P w K mg base 1 "paid_alike" ["pull"] spPA f1 fd1) (G_paid_unlike : Cal P w K mg base 1 "paid_unlike" ["pull"] spPU f2 fd2) : FnOk P w K mg base CX0 2 f fd ["signed", "differ"] spPB := by
  refine F.ok sc_price_between (fun vs H Q E h => ?_) (fun cdv A outer s H vs Q E hr h => ?_)
  · obtain ⟨x, d, rfl, _⟩ := h
    rfl
  obtain ⟨x, d, rfl, kk⟩ := h
  refine ⟨_, (pss_one (ps_ret (pe_ifExp (pt_cmpR op_eq (pe_op op_mod (pv 1) pe_int) pe_int (nomark _)) (pe_call G_paid_unlike.ok (hr.mono (by decide)) rfl G_paid_unlike.mg G_paid_unlike.kp G_paid_unlike.bn .nil pass0 (pa_cons (pv 0) pa_nil)) (pe_call G_paid_alike.ok (hr.mono (by decide)) rfl G_paid_alike.mg G_paid_alike.kp G_paid_alike.bn .nil pass0 (pa_cons (pv 0) pa_nil))))), ?_⟩
  unfold priceB at kk
  refine ⟨_, rfl, _, _, rfl, rfl, (by show (0 : Int) < 2; decide), rfl, _, rfl, ?_⟩
  refine ite2 (fun z => ?_) (fun z => ?_)
  · have z' : d % 2 = 1 := by have := V.int.inj (of_decide_eq_true z); omega
    rw [if_pos z'] at kk
    exact ⟨_, rfl, x, rfl, kk⟩
  · have z' : ¬ d % 2 = 1 := fun y => z (decide_eq_true (congrArg V.int (by omega)))
    rw [if_neg z'] at kk
    exact ⟨_, rfl, x, rfl, kk⟩
theorem sc_price_of_all : FnScope ["strengths", "differ"] ["strengths", "differ"] (defScope s_price_of_all) := ⟨rfl, rfl, rfl, by decide +kernel, rfl, by decide +kernel, by decide +kernel⟩
theorem ok_pall {f f1 : Addr} {fd fd1 : FuncData} (F : Fun K "price_of_all" "price_of_all" s_price_of_all f fd) (T : Txt mg) (G_price_between : Cal P w K mg base 2 "price_between" ["signed", "differ"] spPB f1 fd1) : FnOk P w K mg base CX0 3 f fd ["strengths", "differ"] (spPall K) := by
  refine F.ok sc_price_of_all (fun vs H Q E h => ?_) (fun cdv A outer s H vs Q E hr h => ?_)
  · obtain ⟨a, ss, d, rfl, _⟩ := h
    rfl
  obtain ⟨a, ss, d, rfl, hS, hl, kk⟩ := h
  refine ⟨_, (pss_one (ps_ret (pe_callB (call_sum rfl) (by rfl) T.n_sum bt_sum (pa_cons (pe_compG rfl (fr := [("differ", 1)]) (xs := ["row", "signed"]) (CompG.of (by rfl) (by decide +kernel) (by rfl) (by decide +kernel) (by intro p hp; simp only [List.mem_cons, List.not_mem_nil, or_false] at hp; rcases hp with rfl <;> exact ⟨rfl, rfl⟩) (by decide +kernel) (by intro p hp; simp only [List.mem_cons, List.not_mem_nil, or_false] at hp; rcases hp with rfl <;> rfl)) (pi_enum rfl T.n_enumerate (pa_cons (pv 0) pa_nil)) (fun C ex s H => (pgK_tup (n := 2) (K := K) rfl rfl (pgs_cons (pg_name (i := 0) (show (["row", "signed", "differ"] : List Str).Nodup from by decide +kernel) rfl (Or.inl rfl)) (pgs_cons (pg_name (i := 1) (show (["row", "signed", "differ"] : List Str).Nodup from by decide +kernel) rfl (Or.inl rfl)) pgs_nil)))) (fun C ex s H => pts_nil) (fun C ex s H => (pe_call G_price_between.ok (hr.mono (by decide)) rfl G_price_between.mg G_price_between.kp G_price_between.bn .nil pass0 (pa_cons (pv 1) (pa_cons (pe_op op_shr (pv 2) (pv 0)) pa_nil))))) pa_nil)))), ?_⟩
  have hml : (ss.map V.int).length = ss.length := List.length_map ..
  refine ⟨_, rfl, a, rfl, ⟨_, hS⟩, compG_enum (K := K) (xs := ss.map V.int) (fun i ys H2 => Same H H2 ∧ ys = ((List.range i).map (priceAt ss d)).map V.int) (Nat.le_of_lt (small1000 (by omega))) ⟨fun _ _ e => e, rfl⟩ (fun i ys H2 _ z => z.1.seq hS) ?_ ?_ ?_⟩
  · rintro i x ys H2 T2 hx ⟨s2, rfl⟩ hT2
    rw [List.getElem?_map] at hx
    cases hi : ss[i]? with
    | none => rw [hi] at hx; cases hx
    | some z =>
      rw [hi] at hx
      cases hx
      have s3 := s2.trans (same_new hT2 (.tup [.int (i : Int), .int z]))
      refine ⟨T2, _, rfl, SqT.of upd_same, rfl, _, _, rfl, _, _, rfl, rfl, rfl, yesT ?_⟩
      refine ⟨_, rfl, _, rfl, _, rfl, _, _, rfl, rfl, Int.natCast_nonneg _, z, d / 2 ^ i, congrArg (fun q => [V.int z, V.int q]) (shr_nat d i), s3, ?_⟩
      · rw [rng_succ, List.map_append]
        unfold priceAt
        rw [List.getD_eq_getElem?_getD, hi]
        rfl
  · rintro ys H2 ⟨s2, rfl⟩ D hD
    rw [hml]
    exact ⟨D, _, rfl, SqL.of upd_same, kk _ (s2.trans (same_new hD _))⟩
  · rintro i ys H2 ⟨_, rfl⟩
    rw [List.length_map, List.length_map, List.length_range]
    exact Nat.le_refl _
theorem sc_price_across : FnScope ["column", "signs"] ["column", "signs"] (defScope s_price_across) := ⟨rfl, rfl, rfl, by decide +kernel, rfl, by decide +kernel, by decide +kernel⟩
theorem ok_pac {f f1 : Addr} {fd fd1 : FuncData} (F : Fun K "price_across" "price_across" s_price_across f fd) (T : Txt mg) (G_price_of_all : Cal P w K mg base 3 "price_of_all" ["strengths", "differ"] (spPall K) f1 fd1) : FnOk P w K mg base CX0 4 f fd ["column", "signs"] spPac := by
  refine F.ok sc_price_across (fun vs H Q E h => ?_) (fun cdv A outer s H vs Q E hr h => ?_)
  · obtain ⟨v, c, s, rfl, _⟩ := h
    rfl
  obtain ⟨v, c, sg, rfl, ⟨t, a, b, rfl, ht, ha, hb⟩, hl, kk⟩ := h
  refine ⟨_, (pss_one (ps_ret (pe_call G_price_of_all.ok (hr.mono (by decide)) rfl G_price_of_all.mg G_price_of_all.kp G_price_of_all.bn .nil pass0 (pa_cons (pe_ix ix_tup (pv 0) pe_int (fun _ _ => rfl)) (pa_cons (pe_op op_xor (pv 1) (pe_op op_shr (pv 1) pe_int)) pa_nil))))), ?_⟩
  refine ⟨_, rfl, t, _, 0, _, rfl, rfl, SqT.of ht, at0, _, rfl, _, rfl, _, _, rfl, rfl, (by show (0 : Int) ≤ 1; decide), _, _, rfl, rfl, ?_⟩
  refine ⟨a, c.1, sg ^^^ (sg / 2), ?_, SqL.of ha, hl, kk⟩
  have e : (sg : Int) / 2 ^ (1 : Int).toNat = ((sg / 2 : Nat) : Int) := by
    show (sg : Int) / 2 = _
    omega
  show [V.ref a, V.int (Builtin.bitXor (sg : Int) ((sg : Int) / 2 ^ (1 : Int).toNat))] = _
  rw [e, bx_nat]
theorem sc_price_along : FnScope ["column", "signs", "then"] ["column", "signs", "then"] (defScope s_price_along) := ⟨rfl, rfl, rfl, by decide +kernel, rfl, by decide +kernel, by decide +kernel⟩
theorem ok_pal {f f1 : Addr} {fd fd1 : FuncData} (F : Fun K "price_along" "price_along" s_price_along f fd) (T : Txt mg) (G_price_of_all : Cal P w K mg base 3 "price_of_all" ["strengths", "differ"] (spPall K) f1 fd1) : FnOk P w K mg base CX0 4 f fd ["column", "signs", "then"] spPal := by
  refine F.ok sc_price_along (fun vs H Q E h => ?_) (fun cdv A outer s H vs Q E hr h => ?_)
  · obtain ⟨v, c, s, t, rfl, _⟩ := h
    rfl
  obtain ⟨v, c, sg, th, rfl, ⟨t, a, b, rfl, ht, ha, hb⟩, hl, kk⟩ := h
  refine ⟨_, (pss_one (ps_ret (pe_call G_price_of_all.ok (hr.mono (by decide)) rfl G_price_of_all.mg G_price_of_all.kp G_price_of_all.bn .nil pass0 (pa_cons (pe_ix ix_tup (pv 0) pe_int (fun _ _ => rfl)) (pa_cons (pe_op op_xor (pv 1) (pv 2)) pa_nil))))), ?_⟩
  refine ⟨_, rfl, t, _, 1, _, rfl, rfl, SqT.of ht, at1, _, rfl, _, rfl, _, _, rfl, rfl, ?_⟩
  exact ⟨b, c.2, sg ^^^ th, congrArg (fun q => [V.ref b, V.int q]) (bx_nat sg th), SqL.of hb, hl, kk⟩
theorem sc_column_table : FnScope ["column", "every", "table", "signs", "across"] ["column"] (defScope s_column_table) := ⟨rfl, rfl, rfl, by decide +kernel, rfl, by decide +kernel, by decide +kernel⟩
theorem ok_col {f f1 f2 : Addr} {fd fd1 fd2 : FuncData} (F : Fun K "column_table" "column_table" s_column_table f fd) (T : Txt mg) (G_price_across : Cal P w K mg base 4 "price_across" ["column", "signs"] spPac f1 fd1) (G_price_along : Cal P w K mg base 4 "price_along" ["column", "signs", "then"] spPal f2 fd2) : FnOk P w K mg base CX0 5 f fd ["column"] spCol := by
  refine F.ok sc_column_table (fun vs H Q E h => ?_) (fun cdv A outer s H vs Q E hr h => ?_)
  · obtain ⟨v, c, r, rfl, _⟩ := h
    rfl
  obtain ⟨v, c, r, rfl, hC, hr2, h1, h3, hl, kk⟩ := h
  obtain ⟨t, a, b, rfl, ht, ha, hb⟩ := id hC
  have n8 : 0 < 2 ^ r ∧ 2 ^ r ≤ 8 := by
    match r, h1, h3 with
    | 1, _, _ => decide
    | 2, _, _ => decide
    | 3, _, _ => decide
  refine ⟨_, (pss_cons (ps_set (i := 1) sc_column_table.nd rfl (Or.inl rfl) (pe_listrange rfl rfl T.n_list rfl T.n_range (pe_op op_shl pe_int (pe_callB call_len_seq (by rfl) T.n_len bt_len (pa_cons (pe_ix ix_tup (pv 0) pe_int (fun _ _ => rfl)) pa_nil)))))
      (pss_cons (ps_set (i := 2) sc_column_table.nd rfl (Or.inl rfl) (pe_lst pa_nil))
      (pss_cons (ps_for PassesOwn.never rfl (pi_list (pv 1)) (pg_name (i := 3) sc_column_table.nd rfl (Or.inr rfl)) (pss_cons (ps_set (i := 4) sc_column_table.nd rfl (Or.inr rfl) (pe_call G_price_across.ok (hr.mono (by decide)) rfl G_price_across.mg G_price_across.kp G_price_across.bn .nil pass0 (pa_cons (pv 0) (pa_cons (pv 3) pa_nil))))
      (pss_one (ps_expr (pe_bm PySem.F.plainAttrs_list PySem.F.slot_list_append PySem.F.type_list_append mt_append (pv 2) (pa_cons (pe_compG rfl (fr := [("signs", 3), ("column", 0), ("across", 4)]) (xs := ["then"]) (CompG.of (by rfl) (by decide +kernel) (by rfl) (by decide +kernel) (by intro p hp; simp only [List.mem_cons, List.not_mem_nil, or_false] at hp; rcases hp with rfl | rfl | rfl <;> exact ⟨rfl, rfl⟩) (by decide +kernel) (by intro p hp; simp only [List.mem_cons, List.not_mem_nil, or_false] at hp; rcases hp with rfl | rfl | rfl <;> rfl)) (pi_list (pv 1)) (fun C ex s H => (pg_name (i := 0) (show (["then", "signs", "column", "across"] : List Str).Nodup from by decide +kernel) rfl (Or.inl rfl))) (fun C ex s H => pts_nil) (fun C ex s H => (pe_tup (pa_cons (pe_op op_add (pv 3) (pe_call G_price_along.ok (hr.mono (by decide)) rfl G_price_along.mg G_price_along.kp G_price_along.bn .nil pass0 (pa_cons (pv 2) (pa_cons (pv 1) (pa_cons (pv 0) pa_nil))))) (pa_cons pe_int pa_nil))))) pa_nil))))))
      (pss_one (ps_ret (pv 2)))))), ?_⟩
  refine ⟨_, rfl, t, _, 1, _, rfl, rfl, SqT.of ht, at1, b, _, rfl, .inl (SqL.of hb), _, _, rfl, rfl, ⟨Int.natCast_nonneg _, by rw [List.length_map, hr2]; omega, by decide⟩, 2 ^ r, ?_, by omega, fun q hq => ?_⟩
  · show V.int (1 * 2 ^ (((c.2.map V.int).length : Nat) : Int).toNat) = _
    rw [List.length_map, hr2, Int.toNat_natCast, Int.one_mul]
    push_cast
    rfl
  have s1 := same_new hq (.lst ((List.range (2 ^ r)).map fun (i : Nat) => V.int ((i : Nat) : Int)))
  have hq1 : (upd H q (.lst ((List.range (2 ^ r)).map fun (i : Nat) => V.int ((i : Nat) : Int)))) q = _ := upd_same
  generalize upd H q (.lst ((List.range (2 ^ r)).map fun (i : Nat) => V.int ((i : Nat) : Int))) = H1 at s1 hq1
  have xl : ((List.range (2 ^ r)).map fun (i : Nat) => V.int ((i : Nat) : Int)).length = 2 ^ r := by rw [List.length_map, List.length_range]
  have xat : ∀ {i : Nat} {x : V}, ((List.range (2 ^ r)).map fun (i : Nat) => V.int ((i : Nat) : Int))[i]? = some x → i < 2 ^ r ∧ x = .int (i : Int) := fun {i x} e => by
    have hi : i < 2 ^ r := by rw [← xl]; exact (List.getElem?_eq_some_iff.mp e).1
    rw [List.getElem?_map, List.getElem?_range hi] at e
    cases e
    exact ⟨hi, rfl⟩
  generalize ((List.range (2 ^ r)).map fun (i : Nat) => V.int ((i : Nat) : Int)) = xs at hq1 xl xat
  refine ⟨(by show 0 ≤ sizeLine; decide), fun p hp => ?_⟩
  have s2 := s1.trans (same_new hp (.lst []))
  have npq : q ≠ p := ne_of_none hq1 hp
  refine ⟨_, rfl, q, rfl, ⟨_, SqL.of ((same_new hp (.lst [])) _ _ hq1)⟩, for_list (K := K) (xs := xs) (fun i σ H2 => ∃ v3 v4 us, σ = [some (.ref t), some (.ref q), some (.ref p), v3, v4] ∧ Same H1 H2 ∧ H2 p = some (.lst us) ∧ LsAt (RwX p) H2 us ((List.range i).map fun s => (List.range (2 ^ r)).map fun t => colM c s t)) ⟨_, _, _, rfl, same_new hp _, upd_same, LsAt.nil⟩ (fun i σ H2 _ z => ?_) ?_ ?_⟩
  · obtain ⟨_, _, _, _, s3, _⟩ := z
    exact SqL.of (s3 _ _ hq1)
  · rintro i x σ H2 hx ⟨v3, v4, us, rfl, s3, hp3, hU⟩
    obtain ⟨hi, rfl⟩ := xat hx
    have s13 := s1.trans s3
    have hul : us.length = i := by rw [hU.1, List.length_map, List.length_range]
    refine ⟨_, rfl, _, rfl, .ref t, c, i, rfl, hC.mono s13, by omega, fun H3 s4 => ?_⟩
    have s14 := s13.trans s4
    have hp4 := s4 _ _ hp3
    refine ⟨_, rfl, .inl ⟨rfl, _, SqL.of hp4⟩, _, rfl, q, rfl, ⟨_, SqL.of (s4 _ _ (s3 _ _ hq1))⟩, compG_list (K := K) (xs := xs) (fun j ys H4 => Same H3 H4 ∧ LsAt PrAt H4 ys ((List.range j).map fun t => colM c i t)) (by rw [xl]; exact small8 n8.2) ⟨fun _ _ e => e, LsAt.nil⟩ (fun j ys H4 _ z => SqL.of (z.1 _ _ (s4 _ _ (s3 _ _ hq1)))) ?_ ?_ ?_⟩
    · rintro j x ys H4 hx ⟨s5, hY⟩
      obtain ⟨hj, rfl⟩ := xat hx
      refine ⟨rfl, yesT ?_⟩
      refine ⟨_, rfl, _, rfl, _, rfl, _, rfl, .ref t, c, i, j, rfl, hC.mono (s14.trans s5), by omega, fun H6 s6 => ?_⟩
      refine ⟨_, _, rfl, rfl, (by show 2 ≤ sizeLine; decide), fun t7 ht7 => ?_⟩
      have s7 := s6.trans (same_new ht7 (.tup [.int (aC c i + lC c i j), .int 1]))
      refine ⟨s5.trans s7, ?_⟩
      rw [rng_succ]
      exact (hY.imp fun _ _ y => y.mono s7).snoc ⟨t7, rfl, upd_same⟩
    · rintro ys H4 ⟨s5, hY⟩ D hD
      have s7 := same_new hD (.lst ys)
      have hp7 := s7 _ _ (s5 _ _ hp4)
      have nDp : D ≠ p := (ne_of_none (s5 _ _ hp4) hD).symm
      refine ⟨p, us, _, rfl, rfl, hp7, small1000 (by omega), ?_⟩
      refine ⟨_, _, _, rfl, same_upd (s3.trans (s4.trans (s5.trans s7))) hp _, upd_same, ?_⟩
      · rw [rng_succ]
        rw [xl] at hY
        refine ((hU.imp fun _ _ y => (y.mono (s4.trans (s5.trans s7)))).snoc (x := (List.range (2 ^ r)).map fun t => colM c i t) ⟨D, ys, rfl, nDp, upd_same, hY.imp fun _ _ y => y.mono s7⟩).imp fun _ _ y => y.put hp7
    · rintro j ys H4 ⟨_, hY⟩
      rw [hY.1, List.length_map, List.length_range]
      exact Nat.le_refl _
  · rintro σ H2 ⟨v3, v4, us, rfl, s3, hp3, hU⟩
    rw [xl] at hU
    exact ⟨_, rfl, kk _ _ (s1.trans s3) ⟨p, us, rfl, hp3, hU.imp fun _ _ y => y.off⟩⟩
theorem sc_rows_of : FnScope ["pattern"] ["pattern"] (defScope s_rows_of) := ⟨rfl, rfl, rfl, by decide +kernel, rfl, by decide +kernel, by decide +kernel⟩
theorem ok_rows {f : Addr} {fd : FuncData} (F : Fun K "rows_of" "rows_of" s_rows_of f fd) (T : Txt mg) : FnOk P w K mg base CX0 1 f fd ["pattern"] spRows := by
  refine F.ok sc_rows_of (fun vs H Q E h => ?_) (fun cdv A outer s H vs Q E hr h => ?_)
  · obtain ⟨v, c, pat, rfl, _⟩ := h
    rfl
  obtain ⟨v, c, pat, rfl, ⟨a, ys, rfl, hA, hL⟩, kk⟩ := h
  obtain ⟨y, hy, t, a1, b1, rfl, ht, ha, hb⟩ := hL.2 0 c rfl
  refine ⟨_, (pss_one (ps_ret (pe_callB call_len_seq (by rfl) T.n_len bt_len (pa_cons (pe_ix ix_tup (pe_ix ix_list (pv 0) pe_int (fun _ _ => rfl)) pe_int (fun _ _ => rfl)) pa_nil)))), ?_⟩
  refine ⟨_, rfl, a, _, _, _, rfl, rfl, SqL.of hA, atI_nat (j := 0) hy, t, _, 1, _, rfl, rfl, SqT.of ht, at1, b1, _, rfl, .inl (SqL.of hb), ?_⟩
  rw [List.length_map]
  exact kk
theorem sc_refuse_columns : FnScope ["columns"] ["columns"] (defScope s_refuse_columns) := ⟨rfl, rfl, rfl, by decide +kernel, rfl, by decide +kernel, by decide +kernel⟩
theorem sc_refuse_modulus : FnScope ["modulus"] ["modulus"] (defScope s_refuse_modulus) := ⟨rfl, rfl, rfl, by decide +kernel, rfl, by decide +kernel, by decide +kernel⟩
theorem sc_refuse_pattern : FnScope ["pattern", "rows", "across", "along"] ["pattern"] (defScope s_refuse_pattern) := ⟨rfl, rfl, rfl, by decide +kernel, rfl, by decide +kernel, by decide +kernel⟩
theorem cut_hi {xs : List V} {c : Nat} (h : c ≤ xs.length) : cutV xs (some (c : Int)) none = xs.drop c := by
  unfold cutV
  rw [HT.sIx_nat, Nat.min_eq_left h]
  show (xs.drop c).take (xs.length - c) = _
  exact List.take_of_length_le (by rw [List.length_drop]; exact Nat.le_refl _)
theorem cut_lo {xs : List V} {c : Nat} (h : c ≤ xs.length) : cutV xs none (some (c : Int)) = xs.take c := by
  unfold cutV
  rw [HT.sIx_nat, Nat.min_eq_left h]
  show (xs.drop 0).take (c - 0) = _
  rw [List.drop_zero, Nat.sub_zero]
theorem LsAt.drop {α : Type} {R : Hp → V → α → Prop} {H : Hp} {ys : List V} {xs : List α} (h : LsAt R H ys xs) (n : Nat) : LsAt R H (ys.drop n) (xs.drop n) :=
  ⟨by rw [List.length_drop, List.length_drop, h.1], fun i x e => by
    rw [List.getElem?_drop] at e ⊢
    exact h.2 _ _ e⟩
theorem LsAt.take {α : Type} {R : Hp → V → α → Prop} {H : Hp} {ys : List V} {xs : List α} (h : LsAt R H ys xs) (n : Nat) : LsAt R H (ys.take n) (xs.take n) :=
  ⟨by rw [List.length_take, List.length_take, h.1], fun i x e => by
    rw [List.getElem?_take] at e ⊢
    split at e
    · rename_i z; rw [if_pos z]; exact h.2 _ _ e
    · cases e⟩
theorem sqr_tab {n b : Nat} {A : Mt} (h : Cnt n A b) (hb : b < 2 ^ 200) : Sqr n (tabOf n A) := by
  refine ⟨by unfold tabOf; rw [List.length_map, List.length_range], fun r hr => ?_, fun r hr p hp => ?_⟩
  · obtain ⟨s, _, rfl⟩ := List.mem_map.mp hr
    rw [List.length_map, List.length_range]
  · obtain ⟨s, hs, rfl⟩ := List.mem_map.mp hr
    obtain ⟨t, ht, rfl⟩ := List.mem_map.mp hp
    have := h s t (List.mem_range.mp hs) (List.mem_range.mp ht)
    omega
theorem pow_le8 {n k : Nat} (hn : n ≤ 8) (hk : k ≤ 5) : n ^ k * 1 ≤ 32768 := by
  rw [Nat.mul_one]
  have h1 : n ^ k ≤ 8 ^ k := Nat.pow_le_pow_left hn k
  have h2 : 8 ^ k ≤ 8 ^ 5 := Nat.pow_le_pow_right (by decide) hk
  have h3 : 8 ^ 5 = 32768 := by decide
  omega
theorem sc_step_table : FnScope ["pattern", "table", "column"] ["pattern"] (defScope s_step_table) := ⟨rfl, rfl, rfl, by decide +kernel, rfl, by decide +kernel, by decide +kernel⟩
end
/-- a row that is like a vector, by the modulus -/
structure RLk (n : Nat) (md : Int) (w v : Vc) : Prop where
  lk : ∀ t, t < n → (w t).1 = (v t).1 ∧ (w t).2 % md = (v t).2 % md
  bd : ∀ t, t < n → 0 ≤ (w t).2 ∧ (w t).2 < 2 ^ 100
theorem RLk.jn {n : Nat} {md : Int} {w v : Vc} {B C : Mt} (h : RLk n md w v) (k : Lk n md B C) (h1 : 0 < md) (h2 : md ≤ 2 ^ 100) : RLk n md (fun t => jn n md (cst w) B 0 t) (jv n v C) := by
  have z : Lk n md (KS.jn n md (cst w) B) (jx n (cst v) C) := (jn_lk (fun s t hs ht => h.lk t ht) k).trans (jx_lk n md _ _).symm
  refine ⟨fun t ht => ⟨(z 0 t (by omega) ht).1, (z 0 t (by omega) ht).2⟩, fun t ht => ?_⟩
  rw [jn_jx]
  exact ⟨Int.emod_nonneg _ (by omega), Int.lt_of_lt_of_le (Int.emod_lt_of_pos _ h1) h2⟩
theorem row_bd {n : Nat} {md : Int} {w v : Vc} (h : RLk n md w v) : ∀ p ∈ rowOf n w, (p.2).natAbs < 2 ^ 200 := fun p hp => by
  obtain ⟨t, ht, rfl⟩ := List.mem_map.mp hp
  obtain ⟨a, b⟩ := h.bd t (List.mem_range.mp ht)
  have : (2 : Int) ^ 100 ≤ 2 ^ 200 := by decide
  omega
def restS (a : Addr) (r : Nat) (pat : List Col) (k : Nat) (md : Int) (H0 : Hp) : TS := fun D σ H => ∃ (vr : V) (w : Vc), σ = [some (.ref a), some (.int ((k : Int) + 1)), some (.int md), some (.int ((k / pat.length : Nat) : Int)), some (.int ((k % pat.length : Nat) : Int)), some vr, none, none, none] ∧ Same H0 H ∧ RwAt H vr (rowOf (2 ^ r) w) ∧ RLk (2 ^ r) md w (vec (2 ^ r) pat (k / pat.length * pat.length)) ∧ ∀ u H', Same H0 H' → PrAt H' u ((SL (2 ^ r) pat k).1, (SL (2 ^ r) pat k).2 % md) → D.rt u H'
section
variable {P : Program} {w : World} {K : PySem.W.Frag} {mg : Str → Option Value} {base : Heap}
theorem sc_strip_least : FnScope ["pattern", "columns", "modulus", "repeats", "last", "row", "column", "ends", "found"] ["pattern", "columns", "modulus"] (defScope s_strip_least) := ⟨rfl, rfl, rfl, by decide +kernel, rfl, by decide +kernel, by decide +kernel⟩
end
end KS


namespace KS
open PySem L2
local macro_rules | `(tactic| walk_at "cc") => `(tactic| first | exact ⟨by decide, by decide⟩ | (show (0 : Int) < _; decide) | (show (0 : Int) < _; omega) | (show (0 : Int) ≤ _; omega) | exact ⟨by decide, by decide, by decide⟩ | exact ⟨by omega, by omega, by decide⟩ | exact Or.inl ⟨by decide, by decide⟩ | exact Or.inl ⟨by omega, by omega⟩)
local macro_rules | `(tactic| walk_at "rd") => `(tactic| repeat (first | refine ⟨_, rfl, ?_⟩ | refine ⟨_, _, rfl, rfl, ?_⟩ | refine ⟨rfl, ?_⟩ | (refine ⟨?cc, ?_⟩; (case cc => walk_at "cc"))))

/-! the law's helpers -/
theorem rsz {lo m c : Int} {j : Nat} (hc : 0 < c) (h : j < (Builtin.Range.rangeSize lo m c).toNat) : lo + (j : Int) * c < m := by
  unfold Builtin.Range.rangeSize at h
  rw [if_pos hc] at h
  split at h
  · have h2 : (j : Int) ≤ (m - lo - 1) / c := by omega
    have h3 := Int.mul_le_of_le_ediv hc h2
    omega
  · exact absurd h (Nat.not_lt_zero _)
theorem rsz2 {r p : Nat} (h1 : 1 ≤ r) (h3 : r ≤ 3) : Builtin.Range.rangeSize 0 ((p * (2 * r - 1) : Nat) : Int) (2 * (r : Int) - 1) = (p : Int) := by
  unfold Builtin.Range.rangeSize
  have : r = 1 ∨ r = 2 ∨ r = 3 := by omega
  rcases this with rfl | rfl | rfl
  · rw [if_pos (by decide)]
    split <;> omega
  · rw [if_pos (by decide)]
    split <;> omega
  · rw [if_pos (by decide)]
    split <;> omega
theorem cut_mid {xs : List V} {x y : Nat} (h : x ≤ y) (h2 : y ≤ xs.length) : cutV xs (some (x : Int)) (some (y : Int)) = (xs.drop x).take (y - x) := by
  unfold cutV
  rw [HT.sIx_nat, HT.sIx_nat, Nat.min_eq_left h2, Nat.min_eq_left (Nat.le_trans h h2)]
def ColX (q : Addr) (H : Hp) (v : V) (c : Col) : Prop := ∃ t a b, v = .ref t ∧ a ≠ q ∧ b ≠ q ∧ H t = some (.tup [.ref a, .ref b]) ∧ H a = some (.lst (c.1.map V.int)) ∧ H b = some (.lst (c.2.map V.int))
theorem ColX.off {q : Addr} {H : Hp} {v : V} {c : Col} (h : ColX q H v c) : ColAt H v c := by
  obtain ⟨t, a, b, e, _, _, h1, h2, h3⟩ := h
  exact ⟨t, a, b, e, h1, h2, h3⟩
theorem ColX.mono {q : Addr} {H H' : Hp} {v : V} {c : Col} (h : ColX q H v c) (s : Same H H') : ColX q H' v c := by
  obtain ⟨t, a, b, e, n1, n2, h1, h2, h3⟩ := h
  exact ⟨t, a, b, e, n1, n2, s _ _ h1, s _ _ h2, s _ _ h3⟩
theorem ColX.put {q : Addr} {H : Hp} {v : V} {c : Col} {us zs : List V} (h : ColX q H v c) (hq : H q = some (.lst us)) : ColX q (upd H q (.lst zs)) v c := by
  obtain ⟨t, a, b, e, n1, n2, h1, h2, h3⟩ := h
  exact ⟨t, a, b, e, n1, n2, by rw [upd_ne (fun y => by rw [y, hq] at h1; cases h1)]; exact h1, by rw [upd_ne n1]; exact h2, by rw [upd_ne n2]; exact h3⟩
def spStr : Sp := fun vs H Q _ => ∃ (c m : Int), vs = [.int c, .int m] ∧ 0 ≤ m ∧ m ≤ 2 ∧ ∀ z : Int, Q (.int z) H
def spPat (K : PySem.W.Frag) : Sp := fun vs H Q _ => ∃ (a : Addr) (ns : List Int) (r p : Nat) (m : Int), vs = [.ref a, .int (r : Int), .int (p : Int), .int m] ∧ SqL K H a (ns.map V.int) ∧ ns.length ≤ 63 ∧ 1 ≤ r ∧ r ≤ 3 ∧ 1 ≤ p ∧ p ≤ 6 ∧ 0 ≤ m ∧ m ≤ 2 ∧ ∀ u H' pat, Same H H' → PatAt H' u pat → pat.length = p → Good r pat → Q u H'
def spCopy : Sp := fun vs H Q _ => ∃ (v : V) (pat : List Col), vs = [v] ∧ PatAt H v pat ∧ pat.length ≤ 900 ∧ ∀ u H', Same H H' → PatAt H' u pat → Q u H'
section
variable {P : Program} {w : World} {K : PySem.W.Frag} {mg : Str → Option Value} {base : Heap}
theorem sc_law_strength : FnScope ["cell", "mode"] ["cell", "mode"] (defScope s_law_strength) := ⟨rfl, rfl, rfl, by decide +kernel, rfl, by decide +kernel, by decide +kernel⟩
theorem ok_str {f : Addr} {fd : FuncData} (F : Fun K "_law_strength" "_law_strength" s_law_strength f fd) : FnOk P w K mg base CX0 1 f fd ["cell", "mode"] spStr := by
  refine F.ok sc_law_strength (fun vs H Q E h => ?_) (fun cdv A outer s H vs Q E hr h => ?_)
  · obtain ⟨c, m, rfl, _⟩ := h
    rfl
  obtain ⟨c, m, rfl, h0, h2, kk⟩ := h
  refine ⟨_, (pss_cons (ps_if (pt_cmpR op_eq (pv 1) pe_int (nomark _)) (pss_one (ps_ret (pe_op op_sub (pe_op op_mod (pv 0) (pe_op op_add (pe_op op_mul pe_int (pe_op op_pow pe_int pe_int)) pe_int)) (pe_op op_pow pe_int pe_int)))) pss_nil)
      (pss_one (ps_ret (pe_op op_sub (pe_op op_mod (pv 0) (pe_op op_add (pe_op op_mul pe_int (pv 1)) pe_int)) (pv 1))))), ?_⟩
  refine ⟨_, rfl, rfl, _, rfl, ?_⟩
  refine ite2 (fun z => ?_) (fun z => ?_)
  · refine ⟨_, rfl, _, _, rfl, rfl, ⟨by decide, by decide, by decide⟩, _, _, rfl, rfl, .inl ⟨by decide, by decide⟩, _, _, rfl, rfl, _, _, rfl, rfl, (by show (0 : Int) < 2 * 10 ^ (30 : Int).toNat + 1; decide), _, _, rfl, rfl, ⟨by decide, by decide, by decide⟩, _, _, rfl, rfl, kk _⟩
  · refine ⟨_, rfl, _, rfl, _, _, rfl, rfl, .inl ⟨by decide, by decide⟩, _, _, rfl, rfl, _, _, rfl, rfl, (by show (0 : Int) < 2 * m + 1; omega), _, rfl, _, _, rfl, rfl, kk _⟩
theorem sc_law_copy : FnScope ["pattern"] ["pattern"] (defScope s_law_copy) := ⟨rfl, rfl, rfl, by decide +kernel, rfl, by decide +kernel, by decide +kernel⟩
theorem ok_copy {f : Addr} {fd : FuncData} (F : Fun K "_law_copy" "_law_copy" s_law_copy f fd) (T : Txt mg) : FnOk P w K mg base CX0 1 f fd ["pattern"] spCopy := by
  refine F.ok sc_law_copy (fun vs H Q E h => ?_) (fun cdv A outer s H vs Q E hr h => ?_)
  · obtain ⟨v, pat, rfl, _⟩ := h
    rfl
  obtain ⟨v, pat, rfl, ⟨a, ys, rfl, hA, hL⟩, hl, kk⟩ := h
  have yl := hL.1
  refine ⟨_, (pss_one (ps_ret (pe_comp rfl (fr := []) (by exact CompOk.plain (by rfl) (by decide +kernel) (by rfl) (by decide +kernel) (by rfl) (by decide +kernel)) (pi_list (pv 0)) (fun C ex s H => (pe_tup (pa_cons (pe_callTy (callK_list (K := K) rfl) (by rfl) T.n_list bt_list (pa_cons (pe_ix (ixK_tup (K := K) rfl) (pv 0) pe_int (fun _ _ => rfl)) pa_nil)) (pa_cons (pe_callTy (callK_list (K := K) rfl) (by rfl) T.n_list bt_list (pa_cons (pe_ix (ixK_tup (K := K) rfl) (pv 0) pe_int (fun _ _ => rfl)) pa_nil)) pa_nil))))))), ?_⟩
  refine ⟨_, rfl, a, rfl, ⟨_, SqL.of hA⟩, comp_list (K := K) (xs := ys) (fun i zs H2 => Same H H2 ∧ LsAt ColAt H2 zs (pat.take i)) (Nat.le_of_lt (small1000 (by omega))) ⟨fun _ _ e => e, LsAt.nil⟩ (fun i zs H2 _ z => SqL.of (z.1 _ _ hA)) ?_ ?_⟩
  · rintro i x zs H2 hx ⟨s2, hZ⟩
    obtain ⟨c, hc, t, a1, b1, rfl, ht, ha, hb⟩ := hL.get hx
    refine ⟨_, rfl, t, _, 0, _, rfl, rfl, SqT.of (s2 _ _ ht), at0, a1, _, rfl, .inl (SqL.of (s2 _ _ ha)), fun p hp => ?_⟩
    have s3 := same_new hp (.lst (c.1.map V.int))
    have s23 := s2.trans s3
    refine ⟨_, rfl, t, _, 1, _, rfl, rfl, SqT.of (s23 _ _ ht), at1, b1, _, rfl, .inl (SqL.of (s23 _ _ hb)), fun q hq => ?_⟩
    have s4 := same_new hq (.lst (c.2.map V.int))
    refine ⟨(by show 2 ≤ sizeLine; decide), fun t5 ht5 => ?_⟩
    have s5 := same_new ht5 (.tup [.ref p, .ref q])
    have s35 := s3.trans (s4.trans s5)
    refine ⟨s2.trans s35, ?_⟩
    rw [List.take_add_one, hc]
    exact (hZ.imp fun _ _ y => y.mono s35).snoc ⟨t5, p, q, rfl, upd_same, s5 _ _ (s4 _ _ upd_same), s5 _ _ upd_same⟩
  rintro zs H2 _ ⟨s2, hZ⟩ D hD
  rw [yl, List.take_length] at hZ
  have sD := same_new hD (.lst zs)
  exact kk _ _ (s2.trans sD) ⟨D, zs, rfl, upd_same, hZ.imp fun _ _ y => y.mono sD⟩
theorem sc_law_pattern : FnScope ["script", "rows", "period", "mode", "count", "told", "k", "cell", "pattern"] ["script", "rows", "period", "mode"] (defScope s_law_pattern) := ⟨rfl, rfl, rfl, by decide +kernel, rfl, by decide +kernel, by decide +kernel⟩
theorem ok_pat {f f1 : Addr} {fd fd1 : FuncData} (F : Fun K "_law_pattern" "_law_pattern" s_law_pattern f fd) (T : Txt mg) (G_law_strength : Cal P w K mg base 1 "_law_strength" ["cell", "mode"] spStr f1 fd1) : FnOk P w K mg base CX0 2 f fd ["script", "rows", "period", "mode"] (spPat K) := by
  refine F.ok sc_law_pattern (fun vs H Q E h => ?_) (fun cdv A outer s H vs Q E hr h => ?_)
  · obtain ⟨a, ns, r, p, m, rfl, _⟩ := h
    rfl
  obtain ⟨a, ns, r, p, m, rfl, hS, h63, r1, r3, p1, p6, m0, m2, kk⟩ := h
  have nl : (ns.map V.int).length = ns.length := List.length_map ..
  refine ⟨_, (pss_cons (ps_set (i := 4) sc_law_pattern.nd rfl (Or.inl rfl) (pe_op op_mul (pv 2) (pe_op op_sub (pe_op op_mul pe_int (pv 1)) pe_int)))
      (pss_cons (ps_set (i := 5) sc_law_pattern.nd rfl (Or.inl rfl) (pe_lst pa_nil))
      (pss_cons (ps_for PassesOwn.never rfl (pi_range1 rfl T.n_range (pa_cons (pv 4) pa_nil)) (pg_name (i := 6) sc_law_pattern.nd rfl (Or.inl rfl)) (pss_cons (ps_set (i := 7) sc_law_pattern.nd rfl (Or.inl rfl) (pe_callB (call_sum rfl) (by rfl) T.n_sum bt_sum (pa_cons (pe_comp rfl (fr := [("script", 0)]) (by exact CompOk.one (by rfl) (by decide +kernel) (by rfl) (by decide +kernel) (by rfl) (by decide +kernel) (by rfl) (by rfl) (by decide +kernel) (by rfl)) (pi_rangeL rfl T.n_range (pa_cons (pe_op op_add pe_int (pv 6)) (pa_cons (pe_callB call_len_seq (by rfl) T.n_len bt_len (pa_cons (pv 0) pa_nil)) (pa_cons (pv 4) pa_nil)))) (fun C ex s H => (pe_ix (ixK_list (K := K) rfl) (pv 1) (pv 0) (fun _ _ => rfl)))) pa_nil)))
      (pss_one (ps_expr (pe_bm PySem.F.plainAttrs_list PySem.F.slot_list_append PySem.F.type_list_append mt_append (pv 5) (pa_cons (pe_call G_law_strength.ok (hr.mono (by decide)) rfl G_law_strength.mg G_law_strength.kp G_law_strength.bn .nil pass0 (pa_cons (pv 7) (pa_cons (pv 3) pa_nil))) pa_nil))))))
      (pss_cons (ps_set (i := 8) sc_law_pattern.nd rfl (Or.inl rfl) (pe_lst pa_nil))
      (pss_cons (ps_for PassesOwn.never rfl (pi_rangeL rfl T.n_range (pa_cons pe_int (pa_cons (pv 4) (pa_cons (pe_op op_sub (pe_op op_mul pe_int (pv 1)) pe_int) pa_nil)))) (pg_name (i := 6) sc_law_pattern.nd rfl (Or.inl rfl)) (pss_one (ps_expr (pe_bm PySem.F.plainAttrs_list PySem.F.slot_list_append PySem.F.type_list_append mt_append (pv 8) (pa_cons (pe_tup (pa_cons (pe_slice sl_list (pv 5) (po_some (pv 6)) (po_some (pe_op op_sub (pe_op op_add (pv 6) (pv 1)) pe_int))) (pa_cons (pe_slice sl_list (pv 5) (po_some (pe_op op_sub (pe_op op_add (pv 6) (pv 1)) pe_int)) (po_some (pe_op op_sub (pe_op op_add (pv 6) (pe_op op_mul pe_int (pv 1))) pe_int))) pa_nil))) pa_nil)))))
      (pss_one (ps_ret (pv 8)))))))), ?_⟩
  have cnt : (p : Int) * (2 * (r : Int) - 1) = ((p * (2 * r - 1) : Nat) : Int) := by
    have : ((2 * r - 1 : Nat) : Int) = 2 * (r : Int) - 1 := by omega
    push_cast [← this]
    rw [this]
  have cb : p * (2 * r - 1) ≤ 6 * 5 := Nat.mul_le_mul p6 (by omega)
  have cp : 1 * 1 ≤ p * (2 * r - 1) := Nat.mul_le_mul p1 (by omega)
  refine ⟨_, rfl, _, rfl, _, _, rfl, rfl, .inl ⟨by decide, by decide⟩, _, _, rfl, rfl, _, _, rfl, rfl, .inl ⟨by show -(2 ^ 64 : Int) < (p : Int); omega, by show (p : Int) < (2 ^ 64 : Int); omega⟩, ?_⟩
  simp only [cnt]
  have eC : p * (2 * r - 1) = p * (2 * r - 1) := rfl
  generalize hC : p * (2 * r - 1) = C at cb cp cnt
  refine ⟨(by show 0 ≤ sizeLine; decide), fun q hq => ?_⟩
  have s1 := same_new hq (.lst [])
  refine ⟨_, rfl, _, rfl, by omega, by omega, for_range (n := C) (fun i σ H2 => ∃ v6 v7 zs, σ = [some (.ref a), some (.int (r : Int)), some (.int (p : Int)), some (.int m), some (.int (C : Int)), some (.ref q), v6, v7, none] ∧ Same H H2 ∧ H2 q = some (.lst ((zs : List Int).map V.int)) ∧ zs.length = i) ⟨_, _, [], rfl, s1, upd_same, rfl⟩ ?_ ?_⟩
  · rintro i σ H2 hi ⟨v6, v7, zs, rfl, s2, hq2, zl⟩
    have e0 : (0 : Int) + (i : Int) = (i : Int) := Int.zero_add _
    rw [e0]
    have hS2 := s2.seq hS
    refine ⟨_, rfl, _, _, rfl, rfl, _, rfl, a, _, rfl, .inl hS2, _, rfl, 1 + (i : Int), ((ns.map V.int).length : Int), (C : Int), (Builtin.Range.rangeSize (1 + (i : Int)) ((ns.map V.int).length : Int) (C : Int)).toNat, rfl, by omega, by omega, by omega, by omega, ⟨by omega, by omega⟩, PyProof.Rows.rangeSize_toNat _ _ _, ?_⟩
    have bnd : ∀ j : Nat, j < (Builtin.Range.rangeSize (1 + (i : Int)) ((ns.map V.int).length : Int) (C : Int)).toNat → 1 + i + j * C < ns.length := fun j hj => by
      rw [nl] at hj
      have z := rsz (lo := 1 + (i : Int)) (m := (ns.length : Int)) (c := (C : Int)) (j := j) (by omega) hj
      have : ((j * C : Nat) : Int) = (j : Int) * (C : Int) := by push_cast; rfl
      omega
    have bn2 : (Builtin.Range.rangeSize (1 + (i : Int)) ((ns.map V.int).length : Int) (C : Int)).toNat ≤ 63 := by
      by_cases z : (Builtin.Range.rangeSize (1 + (i : Int)) ((ns.map V.int).length : Int) (C : Int)).toNat ≤ 63
      · exact z
      · have b1 := bnd 63 (by omega)
        have b2 : 63 * 1 ≤ 63 * C := Nat.mul_le_mul (Nat.le_refl _) (by omega)
        omega
    refine comp_range3 (fun j ys H3 => H3 = H2 ∧ ∃ ws : List Int, ys = ws.map V.int) (Nat.le_of_lt (small1000 (by omega))) ⟨rfl, [], rfl⟩ ?_ ?_
    · rintro j ys H3 hj ⟨rfl, ws, rfl⟩
      have b := bnd j hj
      have ej : (1 + (i : Int)) + (j : Int) * (C : Int) = ((1 + i + j * C : Nat) : Int) := by push_cast; rfl
      rw [ej]
      refine ⟨_, rfl, _, rfl, a, _, _, _, rfl, rfl, hS2, atI_nat (v := V.int (ns[1 + i + j * C])) (by rw [List.getElem?_map, List.getElem?_eq_getElem b]; rfl), rfl, ws ++ [ns[1 + i + j * C]], ?_⟩
      rw [List.map_append]
      rfl
    rintro ys H3 _ ⟨rfl, ws, rfl⟩ D hD
    have sD := same_new hD (.lst (ws.map V.int))
    have hqD := sD _ _ hq2
    refine ⟨D, ws, rfl, SqL.of upd_same, ?_⟩
    refine ⟨_, rfl, .inl ⟨rfl, _, SqL.of hqD⟩, _, rfl, _, rfl, _, m, rfl, m0, m2, fun z => ?_⟩
    refine ⟨q, _, _, rfl, rfl, hqD, small1000 (by rw [List.length_map]; omega), ?_⟩
    refine ⟨_, _, zs ++ [z], rfl, same_upd (s2.trans sD) hq _, ?_, by rw [List.length_append, zl]; rfl⟩
    rw [List.map_append]
    exact upd_same
  rintro σ H2 ⟨v6, v7, zs, rfl, s2, hq2, zl⟩
  refine ⟨(by show 0 ≤ sizeLine; decide), fun b hb => ?_⟩
  have sb := same_new hb (.lst [])
  have nqb : q ≠ b := ne_of_none hq2 hb
  have est : 2 * (r : Int) - 1 = ((2 * r - 1 : Nat) : Int) := by omega
  refine ⟨_, rfl, _, rfl, _, _, rfl, rfl, .inl ⟨by decide, by decide⟩, _, _, rfl, rfl, 0, (C : Int), 2 * (r : Int) - 1, p, rfl, by omega, by omega, by omega, by omega, ⟨by omega, by omega⟩, ?_, for_range3 (lo := 0) (c := 2 * (r : Int) - 1) (n := p) (fun i σ H4 => ∃ v6 us pat, σ = [some (.ref a), some (.int (r : Int)), some (.int (p : Int)), some (.int m), some (.int (C : Int)), some (.ref q), v6, v7, some (.ref b)] ∧ Same H2 H4 ∧ H4 b = some (.lst us) ∧ LsAt (ColX b) H4 us pat ∧ pat.length = i ∧ ∀ c ∈ pat, c.2.length = r ∧ c.1.length + 1 = r) ⟨_, [], [], rfl, sb, upd_same, LsAt.nil, rfl, fun c h => by cases h⟩ ?_ ?_⟩
  · rw [← hC]
    exact rsz2 r1 r3
  · rintro i σ H4 hi ⟨v6, us, pat, rfl, s4, hb4, hU, hpl, hal⟩
    have ei : (0 : Int) + (i : Int) * (2 * (r : Int) - 1) = ((i * (2 * r - 1) : Nat) : Int) := by rw [est]; push_cast; omega
    rw [ei]
    have bi : i * (2 * r - 1) + (2 * r - 1) ≤ C := by
      have := Nat.mul_le_mul (show i + 1 ≤ p by omega) (Nat.le_refl (2 * r - 1))
      rw [Nat.add_mul, Nat.one_mul] at this
      omega
    generalize i * (2 * r - 1) = x at bi
    have hq4 := s4 _ _ hq2
    have ml : (zs.map V.int).length = C := by rw [List.length_map, zl]
    refine ⟨_, rfl, .inl ⟨rfl, _, SqL.of hb4⟩, _, rfl, _, rfl, _, rfl, _, rfl, _, rfl, _, _, rfl, rfl, _, _, rfl, rfl, _, rfl, q, _, rfl, SqL.of hq4, fun p1 hp1 => ?_⟩
    have ex1 : (x : Int) + (r : Int) - 1 = ((x + (r - 1) : Nat) : Int) := by omega
    simp only [ex1]
    rw [cut_mid (by omega) (by omega), show x + (r - 1) - x = r - 1 by omega, ← List.map_drop, ← List.map_take]
    have sp1 := same_new hp1 (.lst (((zs.drop x).take (r - 1)).map V.int))
    refine ⟨_, rfl, _, rfl, _, rfl, _, _, rfl, rfl, _, _, rfl, rfl, _, rfl, _, rfl, _, rfl, _, _, rfl, rfl, .inl ⟨by decide, by decide⟩, _, _, rfl, rfl, _, _, rfl, rfl, _, rfl, q, _, rfl, SqL.of (sp1 _ _ hq4), fun p2 hp2 => ?_⟩
    have ex2 : (x : Int) + 2 * (r : Int) - 1 = ((x + (r - 1) + r : Nat) : Int) := by omega
    simp only [ex1, ex2]
    rw [cut_mid (by omega) (by omega), show x + (r - 1) + r - (x + (r - 1)) = r by omega, ← List.map_drop, ← List.map_take]
    have sp2 := same_new hp2 (.lst (((zs.drop (x + (r - 1))).take r).map V.int))
    refine ⟨(by show 2 ≤ sizeLine; decide), fun t5 ht5 => ?_⟩
    have sp3 := same_new ht5 (.tup [.ref p1, .ref p2])
    have s45 := sp1.trans (sp2.trans sp3)
    have n1 : p1 ≠ b := (ne_of_none hb4 hp1).symm
    have n2 : p2 ≠ b := (ne_of_none (sp1 _ _ hb4) hp2).symm
    refine ⟨b, us, _, rfl, rfl, s45 _ _ hb4, small1000 (by rw [hU.1]; omega), ?_⟩
    refine ⟨_, _, pat ++ [((zs.drop x).take (r - 1), (zs.drop (x + (r - 1))).take r)], rfl, same_upd (s4.trans s45) hb _, upd_same, ?_, by rw [List.length_append, hpl]; rfl, fun c hc => ?_⟩
    · exact ((hU.imp fun _ _ y => y.mono s45).snoc (x := ((zs.drop x).take (r - 1), (zs.drop (x + (r - 1))).take r)) ⟨t5, p1, p2, rfl, n1, n2, upd_same, sp3 _ _ (sp2 _ _ upd_same), sp3 _ _ upd_same⟩).imp fun _ _ y => y.put (s45 _ _ hb4)
    · rcases List.mem_append.mp hc with h | h
      · exact hal c h
      · rw [List.mem_singleton.mp h]
        constructor
        · show ((zs.drop (x + (r - 1))).take r).length = r
          rw [List.length_take, List.length_drop]; omega
        · show ((zs.drop x).take (r - 1)).length + 1 = r
          rw [List.length_take, List.length_drop]; omega
  · rintro σ H4 ⟨v6, us, pat, rfl, s4, hb4, hU, hpl, hal⟩
    exact ⟨_, rfl, kk _ _ pat (s2.trans s4) ⟨b, us, rfl, hb4, hU.imp fun _ _ y => y.off⟩ hpl ⟨by omega, by omega, r1, r3, hal⟩⟩
end
end KS


namespace KS
open PySem L2
local macro_rules | `(tactic| walk_at "cc") => `(tactic| first | exact ⟨by decide, by decide⟩ | (show (0 : Int) < _; decide) | (show (0 : Int) < _; omega) | (show (0 : Int) ≤ _; omega) | exact ⟨by decide, by decide, by decide⟩ | exact ⟨by omega, by omega, by decide⟩ | exact Or.inl ⟨by decide, by decide⟩ | exact Or.inl ⟨by omega, by omega⟩)
local macro_rules | `(tactic| walk_at "rd") => `(tactic| repeat (first | refine ⟨_, rfl, ?_⟩ | refine ⟨_, _, rfl, rfl, ?_⟩ | refine ⟨rfl, ?_⟩ | (refine ⟨?cc, ?_⟩; (case cc => walk_at "cc"))))

structure ErrC (K : PySem.W.Frag) (mg : Str → Option Value) (x : Str) (C : Addr) : Prop where
  mg : mg x = some (.ref C)
  ec : ExC K C
def Bad (pat : List Col) : Prop := ∀ r, ¬ Good r pat
def spRefX (B : Addr) : Sp := fun vs H Q E => ∃ (v : V) (pat : List Col), vs = [v] ∧ PatAt H v pat ∧ (∀ r, Good r pat → Q .non H) ∧ (Bad pat → E (.ref B) none H)
def spRefCX (B : Addr) : Sp := fun vs H Q E => ∃ c : Int, vs = [.int c] ∧ ((1 ≤ c ∧ c ≤ 10 ^ 18) → Q .non H) ∧ (¬ (1 ≤ c ∧ c ≤ 10 ^ 18) → E (.ref B) none H)
def spRefMX (B : Addr) : Sp := fun vs H Q E => ∃ c : Int, vs = [.int c] ∧ ((2 ≤ c ∧ c ≤ 10 ^ 9) → Q .non H) ∧ (¬ (2 ≤ c ∧ c ≤ 10 ^ 9) → E (.ref B) none H)
def spStepX (B : Addr) : Sp := fun vs H Q E => ∃ (v : V) (pat : List Col), vs = [v] ∧ PatAt H v pat ∧ ((∃ r, Good r pat ∧ ∀ u H', Same H H' → TbAt H' u (tabOf (2 ^ r) (stepM (2 ^ r) pat)) → Q u H') ∨ (Bad pat ∧ E (.ref B) none H))
def spStripX (B : Addr) : Sp := fun vs H Q E => ∃ (v : V) (pat : List Col) (cols md : Int), vs = [v, .int cols, .int md] ∧ PatAt H v pat ∧ ((∃ (r k : Nat), cols = (k : Int) + 1 ∧ Good r pat ∧ k < 10 ^ 18 ∧ 2 ≤ md ∧ md ≤ 10 ^ 9 ∧ ∀ u H', Same H H' → PrAt H' u ((SL (2 ^ r) pat k).1, (SL (2 ^ r) pat k).2 % md) → Q u H') ∨ ((Bad pat ∨ ((∃ r, Good r pat) ∧ ¬ (1 ≤ cols ∧ cols ≤ 10 ^ 18)) ∨ ((∃ r, Good r pat) ∧ (1 ≤ cols ∧ cols ≤ 10 ^ 18) ∧ ¬ (2 ≤ md ∧ md ≤ 10 ^ 9))) ∧ E (.ref B) none H))
def spLongX (B : Addr) : Sp := fun vs H Q E => ∃ (v : V) (pat : List Col), vs = [v] ∧ PatAt H v pat ∧ Bad pat ∧ E (.ref B) none H
def spNo : Sp := fun _ _ _ _ => False
section
variable {P : Program} {w : World} {K : PySem.W.Frag} {mg : Str → Option Value} {base : Heap}
theorem ok_refCX {f B : Addr} {fd : FuncData} (F : Fun K "refuse_columns" "refuse_columns" s_refuse_columns f fd) (X_BadStrip : ErrC K mg "BadStrip" B) : FnOk P w K mg base (CXr P w) 1 f fd ["columns"] (spRefCX B) := by
  refine F.okX sc_refuse_columns (fun vs H Q E h => ?_) (fun cdv A outer s H vs Q E hr h => ?_)
  · obtain ⟨c, rfl, _⟩ := h
    rfl
  obtain ⟨c, rfl, kq, ke⟩ := h
  refine ⟨_, (pss_one (ps_if (PW.pt (pw_or (pt_cmpR op_lt (pv 0) pe_int (nomark _)) (pw_or1 (pt_cmpR op_gt (pv 0) (pe_op op_pow pe_int pe_int) (nomark _))))) (pss_one (ps_raiseX X_BadStrip.ec X_BadStrip.mg rfl wsh_cx rfl rfl (pa_cons pe_str pa_nil))) pss_nil)), ?_⟩
  refine ⟨_, rfl, _, _, rfl, rfl, _, rfl, ite2 (fun z => ?_) (fun z => ?_)⟩
  · have z' : c < 1 := of_decide_eq_true z
    exact iteT ⟨(by decide : (1 : Nat) ≤ sizeLine), ke fun e => by omega⟩
  have z' : ¬ c < 1 := fun e => z (decide_eq_true e)
  refine ⟨_, rfl, _, _, rfl, rfl, ⟨by decide, by decide, by decide⟩, _, _, rfl, rfl, _, rfl, ite2 (fun y => ?_) (fun y => ?_)⟩
  · have y' : c > 10 ^ 18 := of_decide_eq_true y
    exact ⟨(by decide : (1 : Nat) ≤ sizeLine), ke fun e => by omega⟩
  · have y' : ¬ c > 10 ^ 18 := fun e => y (decide_eq_true e)
    exact kq ⟨by omega, by omega⟩
theorem ok_refMX {f B : Addr} {fd : FuncData} (F : Fun K "refuse_modulus" "refuse_modulus" s_refuse_modulus f fd) (X_BadStrip : ErrC K mg "BadStrip" B) : FnOk P w K mg base (CXr P w) 1 f fd ["modulus"] (spRefMX B) := by
  refine F.okX sc_refuse_modulus (fun vs H Q E h => ?_) (fun cdv A outer s H vs Q E hr h => ?_)
  · obtain ⟨c, rfl, _⟩ := h
    rfl
  obtain ⟨c, rfl, kq, ke⟩ := h
  refine ⟨_, (pss_one (ps_if (PW.pt (pw_or (pt_cmpR op_lt (pv 0) pe_int (nomark _)) (pw_or1 (pt_cmpR op_gt (pv 0) (pe_op op_pow pe_int pe_int) (nomark _))))) (pss_one (ps_raiseX X_BadStrip.ec X_BadStrip.mg rfl wsh_cx rfl rfl (pa_cons pe_str pa_nil))) pss_nil)), ?_⟩
  refine ⟨_, rfl, _, _, rfl, rfl, _, rfl, ite2 (fun z => ?_) (fun z => ?_)⟩
  · have z' : c < 2 := of_decide_eq_true z
    exact iteT ⟨(by decide : (1 : Nat) ≤ sizeLine), ke fun e => by omega⟩
  have z' : ¬ c < 2 := fun e => z (decide_eq_true e)
  refine ⟨_, rfl, _, _, rfl, rfl, ⟨by decide, by decide, by decide⟩, _, _, rfl, rfl, _, rfl, ite2 (fun y => ?_) (fun y => ?_)⟩
  · have y' : c > 10 ^ 9 := of_decide_eq_true y
    exact ⟨(by decide : (1 : Nat) ≤ sizeLine), ke fun e => by omega⟩
  · have y' : ¬ c > 10 ^ 9 := fun e => y (decide_eq_true e)
    exact kq ⟨by omega, by omega⟩
theorem ok_refX {f f1 B : Addr} {fd fd1 : FuncData} (F : Fun K "refuse_pattern" "refuse_pattern" s_refuse_pattern f fd) (T : Txt mg) (X_BadStrip : ErrC K mg "BadStrip" B) (G_rows_of : Cal P w K mg base 1 "rows_of" ["pattern"] spRows f1 fd1) : FnOk P w K mg base (CXr P w) 2 f fd ["pattern"] (spRefX B) := by
  refine F.okX sc_refuse_pattern (fun vs H Q E h => ?_) (fun cdv A outer s H vs Q E hr h => ?_)
  · obtain ⟨v, pat, rfl, _⟩ := h
    rfl
  obtain ⟨v, pat, rfl, hP, kq, ke⟩ := h
  obtain ⟨a, ys, rfl, hA, hL⟩ := id hP
  have yl := hL.1
  have one : (1 : Nat) ≤ sizeLine := by decide
  refine ⟨_, (pss_cons (ps_if (PW.pt (pw_or (pt_cmpR op_lt (pe_callB call_len_seq (by rfl) T.n_len bt_len (pa_cons (pv 0) pa_nil)) pe_int (nomark _)) (pw_or1 (pt_cmpR op_gt (pe_callB call_len_seq (by rfl) T.n_len bt_len (pa_cons (pv 0) pa_nil)) (pe_globI rfl T.g_most) (nomark _))))) (pss_one (ps_raiseX X_BadStrip.ec X_BadStrip.mg rfl wsh_cx rfl rfl (pa_cons pe_str pa_nil))) pss_nil)
      (pss_cons (ps_set (i := 1) sc_refuse_pattern.nd rfl (Or.inl rfl) (pe_call G_rows_of.ok (hr.mono (by decide)) rfl G_rows_of.mg G_rows_of.kp G_rows_of.bn .nil pass0 (pa_cons (pv 0) pa_nil)))
      (pss_cons (ps_if (PW.pt (pw_or (pt_cmpR op_lt (pv 1) pe_int (nomark _)) (pw_or1 (pt_cmpR op_gt (pv 1) (pe_globI rfl T.g_rows) (nomark _))))) (pss_one (ps_raiseX X_BadStrip.ec X_BadStrip.mg rfl wsh_cx rfl rfl (pa_cons pe_str pa_nil))) pss_nil)
      (pss_one (ps_for PassesOwn.leaving rfl (pi_list (pv 0)) (pg_tup rfl (pgs_cons (pg_name (i := 2) sc_refuse_pattern.nd rfl (Or.inl rfl)) (pgs_cons (pg_name (i := 3) sc_refuse_pattern.nd rfl (Or.inl rfl)) pgs_nil))) (pss_cons (ps_if (pt_cmpR op_ne (pe_callB call_len_seq (by rfl) T.n_len bt_len (pa_cons (pv 3) pa_nil)) (pv 1) (nomark _)) (pss_one (ps_raiseX X_BadStrip.ec X_BadStrip.mg rfl wsh_cx rfl rfl (pa_cons pe_str pa_nil))) pss_nil)
      (pss_one (ps_if (pt_cmpR op_ne (pe_callB call_len_seq (by rfl) T.n_len bt_len (pa_cons (pv 2) pa_nil)) (pe_op op_sub (pv 1) pe_int) (nomark _)) (pss_one (ps_raiseX X_BadStrip.ec X_BadStrip.mg rfl wsh_cx rfl rfl (pa_cons pe_str pa_nil))) pss_nil)))))))), ?_⟩
  refine ⟨_, rfl, a, _, rfl, .inl (SqL.of hA), _, _, rfl, rfl, _, rfl, ite2 (fun z => ?_) (fun z => ?_)⟩
  · have z' : (ys.length : Int) < 1 := of_decide_eq_true z
    exact iteT ⟨one, ke fun r g => by have := g.p0; omega⟩
  have g0 : 0 < pat.length := by
    by_cases e : 0 < pat.length
    · exact e
    · exact absurd (decide_eq_true (show (ys.length : Int) < 1 by omega)) z
  refine ⟨_, rfl, a, _, rfl, .inl (SqL.of hA), _, _, rfl, rfl, _, rfl, ite2 (fun z => ?_) (fun z => ?_)⟩
  · have z' : (ys.length : Int) > 6 := of_decide_eq_true z
    exact ⟨one, ke fun r g => by have := g.p6; omega⟩
  have g6 : pat.length ≤ 6 := by
    by_cases e : pat.length ≤ 6
    · exact e
    · exact absurd (decide_eq_true (show (ys.length : Int) > 6 by omega)) z
  obtain ⟨c, pt, rfl⟩ : ∃ c pt, pat = c :: pt := by
    match pat, g0 with
    | c :: pt, _ => exact ⟨c, pt, rfl⟩
  have bad : ∀ r, Good r (c :: pt) → r = c.2.length := fun r g => (g.al c (List.mem_cons_self ..)).1.symm
  refine ⟨_, rfl, .ref a, c, pt, rfl, hP, ?_⟩
  generalize hr0 : c.2.length = r at bad
  refine ⟨_, rfl, _, _, rfl, rfl, _, rfl, ite2 (fun z => ?_) (fun z => ?_)⟩
  · have z' : (r : Int) < 1 := of_decide_eq_true z
    exact iteT ⟨one, ke fun q g => by have := g.r1; have := bad q g; omega⟩
  have g1 : 1 ≤ r := by
    by_cases e : 1 ≤ r
    · exact e
    · exact absurd (decide_eq_true (show (r : Int) < 1 by omega)) z
  refine ⟨_, rfl, _, _, rfl, rfl, _, rfl, ite2 (fun z => ?_) (fun z => ?_)⟩
  · have z' : (r : Int) > 3 := of_decide_eq_true z
    exact ⟨one, ke fun q g => by have := g.r3; have := bad q g; omega⟩
  have g3 : r ≤ 3 := by
    by_cases e : r ≤ 3
    · exact e
    · exact absurd (decide_eq_true (show (r : Int) > 3 by omega)) z
  refine ⟨_, rfl, a, rfl, ⟨_, SqL.of hA⟩, for_list (K := K) (xs := ys) (fun i σ H2 => ∃ v2 v3, σ = [some (.ref a), some (.int (r : Int)), v2, v3] ∧ H2 = H ∧ ∀ d ∈ (c :: pt).take i, d.2.length = r ∧ d.1.length + 1 = r) ⟨_, _, rfl, rfl, fun d hd => by rw [List.take_zero] at hd; cases hd⟩ (fun i σ H2 _ z => ?_) ?_ ?_⟩
  · obtain ⟨_, _, _, rfl, _⟩ := z
    exact SqL.of hA
  · rintro i x σ H2 hx ⟨v2, v3, rfl, rfl, hal⟩
    obtain ⟨d, hd, t, a1, b1, rfl, ht, ha, hb⟩ := hL.get hx
    refine ⟨t, _, rfl, SqT.of ht, rfl, _, _, rfl, _, _, rfl, rfl, ?_⟩
    refine ⟨_, rfl, b1, _, rfl, .inl (SqL.of hb), _, rfl, rfl, _, rfl, ?_⟩
    rw [List.length_map]
    by_cases q1 : d.2.length = r
    · refine iteNS (congrArg V.int (by rw [q1])) ?_
      refine ⟨_, rfl, a1, _, rfl, .inl (SqL.of ha), _, rfl, _, _, rfl, rfl, rfl, _, rfl, ?_⟩
      rw [List.length_map]
      by_cases q2 : d.1.length + 1 = r
      · refine iteNS (congrArg V.int (by omega)) ?_
        refine ⟨_, _, rfl, rfl, fun e he => ?_⟩
        rw [List.take_add_one, hd] at he
        rcases List.mem_append.mp he with he | he
        · exact hal e he
        · have : e = d := by simpa using he
          rw [this]; exact ⟨q1, q2⟩
      · refine ite2 (fun _ => ?_) (fun y => ?_)
        · exact ⟨one, ke fun q g => by have := (g.al d (List.mem_of_getElem? hd)).2; have := bad q g; omega⟩
        · exfalso
          refine y ?_
          have : ¬ V.int ((d.1.length : Nat) : Int) = V.int ((r : Int) - 1) := fun w => q2 (by have := V.int.inj w; omega)
          show (!decide (V.int ((d.1.length : Nat) : Int) = V.int ((r : Int) - 1))) = true
          rw [decide_eq_false this]
          rfl
    · refine ite2 (fun _ => ?_) (fun y => ?_)
      · exact ⟨one, ke fun q g => by have := (g.al d (List.mem_of_getElem? hd)).1; have := bad q g; omega⟩
      · exfalso
        refine y ?_
        have : ¬ V.int ((d.2.length : Nat) : Int) = V.int (r : Int) := fun w => q1 (by have := V.int.inj w; omega)
        show (!decide (V.int ((d.2.length : Nat) : Int) = V.int (r : Int))) = true
        rw [decide_eq_false this]
        rfl
  · rintro σ H2 ⟨v2, v3, rfl, rfl, hal⟩
    rw [yl, List.take_length] at hal
    exact kq r ⟨g0, g6, g1, g3, hal⟩
theorem ok_stepX {f f1 f2 f3 B : Addr} {fd fd1 fd2 fd3 : FuncData} (F : Fun K "step_table" "step_table" s_step_table f fd) (T : Txt mg) (G_refuse_pattern : CalX P w K mg base 2 "refuse_pattern" ["pattern"] (spRefX B) f1 fd1) (G_column_table : Cal P w K mg base 5 "column_table" ["column"] spCol f2 fd2) (G_tables_joined : Cal P w K mg base 3 "tables_joined" ["one", "two", "modulus"] (spJT K) f3 fd3) : FnOk P w K mg base (CXr P w) 6 f fd ["pattern"] (spStepX B) := by
  refine F.okX sc_step_table (fun vs H Q E h => ?_) (fun cdv A outer s H vs Q E hr h => ?_)
  · obtain ⟨v, pat, rfl, _⟩ := h
    rfl
  obtain ⟨v, pat, rfl, hP, ⟨r, g, kk⟩ | ⟨bd, ke⟩⟩ := h
  rotate_left
  · refine ⟨_, (pss_cons (ps_expr (pe_callX G_refuse_pattern.ok (hr.mono (by decide)) rfl G_refuse_pattern.mg G_refuse_pattern.kp G_refuse_pattern.bn .nil wsh_cx rfl (pa_cons (pv 0) pa_nil)))
      (pss_cons (ps_set (i := 1) sc_step_table.nd rfl (Or.inl rfl) (pe_call G_column_table.ok (hr.mono (by decide)) rfl G_column_table.mg G_column_table.kp G_column_table.bn .nil pass0 (pa_cons (pe_ix ix_list (pv 0) pe_int (fun _ _ => rfl)) pa_nil)))
      (pss_cons (ps_for PassesOwn.leaving rfl (pi_list (pe_slice sl_list (pv 0) (po_some pe_int) po_none)) (pg_name (i := 2) sc_step_table.nd rfl (Or.inl rfl)) (pss_one (ps_set (i := 1) sc_step_table.nd rfl (Or.inl rfl) (pe_call G_tables_joined.ok (hr.mono (by decide)) rfl G_tables_joined.mg G_tables_joined.kp G_tables_joined.bn .nil pass0 (pa_cons (pv 1) (pa_cons (pe_call G_column_table.ok (hr.mono (by decide)) rfl G_column_table.mg G_column_table.kp G_column_table.bn .nil pass0 (pa_cons (pv 2) pa_nil)) (pa_cons (pe_op op_pow pe_int pe_int) pa_nil)))))))
      (pss_one (ps_ret (pv 1)))))), ?_⟩
    exact ⟨_, rfl, v, pat, rfl, hP, fun r g => absurd g (bd r), fun _ => ke⟩
  obtain ⟨a, ys, rfl, hA, hL⟩ := id hP
  have yl := hL.1
  obtain ⟨n0, n8⟩ := g.n8
  obtain ⟨c, pt, rfl⟩ : ∃ c pt, pat = c :: pt := by
    have g0 := g.p0
    match pat, g0 with
    | c :: pt, _ => exact ⟨c, pt, rfl⟩
  have g6 := g.p6
  rw [List.length_cons] at g6 yl
  have g1 := g.r1
  have g3 := g.r3
  obtain ⟨y, hy, hC⟩ := hL.2 0 c rfl
  obtain ⟨e1, e2⟩ := g.al c (List.mem_cons_self ..)
  refine ⟨_, (pss_cons (ps_expr (pe_callX G_refuse_pattern.ok (hr.mono (by decide)) rfl G_refuse_pattern.mg G_refuse_pattern.kp G_refuse_pattern.bn .nil wsh_cx rfl (pa_cons (pv 0) pa_nil)))
      (pss_cons (ps_set (i := 1) sc_step_table.nd rfl (Or.inl rfl) (pe_call G_column_table.ok (hr.mono (by decide)) rfl G_column_table.mg G_column_table.kp G_column_table.bn .nil pass0 (pa_cons (pe_ix ix_list (pv 0) pe_int (fun _ _ => rfl)) pa_nil)))
      (pss_cons (ps_for PassesOwn.leaving rfl (pi_list (pe_slice sl_list (pv 0) (po_some pe_int) po_none)) (pg_name (i := 2) sc_step_table.nd rfl (Or.inl rfl)) (pss_one (ps_set (i := 1) sc_step_table.nd rfl (Or.inl rfl) (pe_call G_tables_joined.ok (hr.mono (by decide)) rfl G_tables_joined.mg G_tables_joined.kp G_tables_joined.bn .nil pass0 (pa_cons (pv 1) (pa_cons (pe_call G_column_table.ok (hr.mono (by decide)) rfl G_column_table.mg G_column_table.kp G_column_table.bn .nil pass0 (pa_cons (pv 2) pa_nil)) (pa_cons (pe_op op_pow pe_int pe_int) pa_nil)))))))
      (pss_one (ps_ret (pv 1)))))), ?_⟩
  refine ⟨_, rfl, .ref a, c :: pt, rfl, hP, fun _ _ => ?_, fun b => absurd g (b r)⟩
  refine ⟨_, rfl, a, _, _, _, rfl, rfl, SqL.of hA, atI_nat (j := 0) hy, y, c, r, rfl, hC, e1, g1, g3, by omega, fun u1 H1 s1 hu1 => ?_⟩
  refine ⟨_, rfl, _, rfl, a, _, rfl, SqL.of (s1 _ _ hA), fun q hq => ?_⟩
  have ecut : cutV ys (some 1) none = ys.drop 1 := cut_hi (c := 1) (by omega)
  rw [ecut]
  have sq := same_new hq (.lst (ys.drop 1))
  have hD : LsAt ColAt H (ys.drop 1) pt := LsAt.drop hL 1
  have hql : (upd H1 q (.lst (ys.drop 1))) q = _ := upd_same
  have hu2 := hu1.mono sq
  have s2 := s1.trans sq
  generalize upd H1 q (.lst (ys.drop 1)) = H2 at hql hu2 s2
  have zl : (ys.drop 1).length = pt.length := hD.1
  generalize ys.drop 1 = zs at hql hD zl
  refine ⟨q, rfl, ⟨_, SqL.of hql⟩, for_list (K := K) (xs := zs) (fun i σ H3 => ∃ v1 v2, σ = [some (.ref a), some v1, v2] ∧ Same H2 H3 ∧ TbAt H3 v1 (tabOf (2 ^ r) (stepF (2 ^ r) (colM c) (pt.take i)))) ⟨_, _, rfl, fun _ _ e => e, hu2⟩ (fun i σ H3 _ z => ?_) ?_ ?_⟩
  · obtain ⟨_, _, _, s3, _⟩ := z
    exact SqL.of (s3 _ _ hql)
  · rintro i x σ H3 hx ⟨v1, v2, rfl, s3, hT⟩
    obtain ⟨d, hd, hX⟩ := hD.get hx
    obtain ⟨d1, d2⟩ := g.al d (List.mem_cons_of_mem _ (List.mem_of_getElem? hd))
    have hil : i < pt.length := (List.getElem?_eq_some_iff.mp hd).1
    have s23 := s2.trans s3
    have cA := stepF_cnt (n := 2 ^ r) (colM c) (colM_cnt _ c) (pt.take i)
    have bA := pow_le8 n8 (k := (pt.take i).length) (by rw [List.length_take]; omega)
    have cB := jx_cnt (c := d) cA
    refine ⟨_, rfl, _, rfl, x, d, r, rfl, hX.mono s23, d1, g1, g3, by omega, fun u4 H4 s4 hu4 => ?_⟩
    refine ⟨_, _, rfl, rfl, ⟨by decide, by decide, by decide⟩, ?_⟩
    refine ⟨v1, u4, 10 ^ 9, _, _, 2 ^ r, rfl, hT.mono s4, hu4, by decide, n0, n8, sqr_tab cA (by omega), sqr_tab (colM_cnt _ d) (by decide), fun u5 H5 s5 hu5 => ?_⟩
    refine ⟨_, _, rfl, s3.trans (s4.trans s5), ?_⟩
    rw [List.take_add_one, hd]
    show TbAt H5 u5 (tabOf (2 ^ r) (stepF (2 ^ r) (colM c) (pt.take i ++ [d])))
    rw [stepF_snoc]
    rw [jTab_tab] at hu5
    rw [tab_congr (B := jx (2 ^ r) (stepF (2 ^ r) (colM c) (pt.take i)) (colM d)) fun s t hs ht => ?_] at hu5
    · exact hu5
    · obtain ⟨b1, b2⟩ := cB s t hs ht
      rw [jn_jx]
      refine Prod.ext rfl (Int.emod_eq_of_lt b1 ?_)
      have h9 : (10 : Int) ^ 9 = 1000000000 := by decide
      have : 2 ^ r * ((2 ^ r) ^ (pt.take i).length * 1) ≤ 8 * 32768 := Nat.mul_le_mul n8 bA
      omega
  · rintro σ H3 ⟨v1, v2, rfl, s3, hT⟩
    rw [zl, List.take_length] at hT
    exact ⟨_, rfl, kk _ _ (s2.trans s3) hT⟩
theorem ok_stripX {f f1 f2 f3 f4 f5 f6 f7 f8 f9 fa B : Addr} {fd fd1 fd2 fd3 fd4 fd5 fd6 fd7 fd8 fd9 fda : FuncData} (F : Fun K "strip_least" "strip_least" s_strip_least f fd) (T : Txt mg) (G_refuse_pattern : CalX P w K mg base 2 "refuse_pattern" ["pattern"] (spRefX B) f1 fd1) (G_refuse_columns : CalX P w K mg base 1 "refuse_columns" ["columns"] (spRefCX B) f2 fd2) (G_refuse_modulus : CalX P w K mg base 1 "refuse_modulus" ["modulus"] (spRefMX B) f3 fd3)
    (G_rows_of : Cal P w K mg base 1 "rows_of" ["pattern"] spRows f4 fd4) (G_joined_row : Cal P w K mg base 2 "joined_row" ["row", "table", "modulus"] (spJR K) f5 fd5) (G_table_power : Cal P w K mg base 4 "table_power" ["table", "times", "modulus"] spTP f6 fd6) (G_step_table : CalX P w K mg base 6 "step_table" ["pattern"] (spStepX B) f7 fd7) (G_column_table : Cal P w K mg base 5 "column_table" ["column"] spCol f8 fd8) (G_price_across : Cal P w K mg base 4 "price_across" ["column", "signs"] spPac f9 fd9) (G_counted_together : Cal P w K mg base 1 "counted_together" ["entries"] (spCT K) fa fda) :
    FnOk P w K mg base (CXr P w) 7 f fd ["pattern", "columns", "modulus"] (spStripX B) := by
  refine F.okX sc_strip_least (fun vs H Q E h => ?_) (fun cdv A outer s H vs Q E hr h => ?_)
  · obtain ⟨v, pat, cols, md, rfl, _⟩ := h
    rfl
  obtain ⟨v, pat, cols, md, rfl, hP, ⟨r, k, rfl, g, hk, hm2, hm9, kk⟩ | ⟨bd, ke⟩⟩ := h
  rotate_left
  · obtain ⟨RS, hRS⟩ : ∃ RS : TS, RS = tNever := ⟨_, rfl⟩
    refine ⟨_, (pss_cons (ps_expr (pe_callX G_refuse_pattern.ok (hr.mono (by decide)) rfl G_refuse_pattern.mg G_refuse_pattern.kp G_refuse_pattern.bn .nil wsh_cx rfl (pa_cons (pv 0) pa_nil)))
      (pss_cons (ps_expr (pe_callX G_refuse_columns.ok (hr.mono (by decide)) rfl G_refuse_columns.mg G_refuse_columns.kp G_refuse_columns.bn .nil wsh_cx rfl (pa_cons (pv 1) pa_nil)))
      (pss_cons (ps_expr (pe_callX G_refuse_modulus.ok (hr.mono (by decide)) rfl G_refuse_modulus.mg G_refuse_modulus.kp G_refuse_modulus.bn .nil wsh_cx rfl (pa_cons (pv 2) pa_nil)))
      (pss_cons (ps_set (i := 3) sc_strip_least.nd rfl (Or.inl rfl) (pe_op op_fdiv (pe_op op_sub (pv 1) pe_int) (pe_callB call_len_seq (by rfl) T.n_len bt_len (pa_cons (pv 0) pa_nil))))
      (pss_cons (ps_set (i := 4) sc_strip_least.nd rfl (Or.inr rfl) (pe_op op_mod (pe_op op_sub (pv 1) pe_int) (pe_callB call_len_seq (by rfl) T.n_len bt_len (pa_cons (pv 0) pa_nil))))
      (pss_cons (ps_setComp (i := 5) rfl sc_strip_least.nd rfl rfl (fr := []) (by exact CompOk.plain (by rfl) (by decide +kernel) (by rfl) (by decide +kernel) (by rfl) (by decide +kernel)) (pi_range1 rfl T.n_range (pa_cons (pe_op op_shl pe_int (pe_call G_rows_of.ok (hr.mono (by decide)) rfl G_rows_of.mg G_rows_of.kp G_rows_of.bn .nil pass0 (pa_cons (pv 0) pa_nil))) pa_nil)) (fun C ex s H => (pe_tup (pa_cons pe_int (pa_cons pe_int pa_nil)))))
      (pss_cons (ps_if (pt_cmpR op_gt (pv 3) pe_int (nomark _)) (pss_one (ps_set (i := 5) sc_strip_least.nd rfl (Or.inl rfl) (pe_call G_joined_row.ok (hr.mono (by decide)) rfl G_joined_row.mg G_joined_row.kp G_joined_row.bn .nil pass0 (pa_cons (pv 5) (pa_cons (pe_call G_table_power.ok (hr.mono (by decide)) rfl G_table_power.mg G_table_power.kp G_table_power.bn .nil pass0 (pa_cons (pe_callX G_step_table.ok (hr.mono (by decide)) rfl G_step_table.mg G_step_table.kp G_step_table.bn .nil wsh_cx rfl (pa_cons (pv 0) pa_nil)) (pa_cons (pv 3) (pa_cons (pv 2) pa_nil)))) (pa_cons (pv 2) pa_nil)))))) pss_nil)
      (pss_imp (t2 := RS) (pss_cons (ps_for PassesOwn.leaving rfl (pi_list (pe_slice sl_list (pv 0) po_none (po_some (pv 4)))) (pg_name (i := 6) sc_strip_least.nd rfl (Or.inl rfl)) (pss_one (ps_set (i := 5) sc_strip_least.nd rfl (Or.inl rfl) (pe_call G_joined_row.ok (hr.mono (by decide)) rfl G_joined_row.mg G_joined_row.kp G_joined_row.bn .nil pass0 (pa_cons (pv 5) (pa_cons (pe_call G_column_table.ok (hr.mono (by decide)) rfl G_column_table.mg G_column_table.kp G_column_table.bn .nil pass0 (pa_cons (pv 6) pa_nil)) (pa_cons (pv 2) pa_nil)))))))
      (pss_cons (ps_setCompG (i := 7) rfl sc_strip_least.nd rfl rfl (fr := [("pattern", 0), ("last", 4)]) (xs := ["signs", "entry"]) (CompG.of (by rfl) (by decide +kernel) (by rfl) (by decide +kernel) (by intro p hp; simp only [List.mem_cons, List.not_mem_nil, or_false] at hp; rcases hp with rfl | rfl <;> exact ⟨rfl, rfl⟩) (by decide +kernel) (by intro p hp; simp only [List.mem_cons, List.not_mem_nil, or_false] at hp; rcases hp with rfl | rfl <;> rfl)) (pi_enum rfl T.n_enumerate (pa_cons (pv 5) pa_nil)) (fun C ex s H => (pgK_tup (n := 2) (K := K) rfl rfl (pgs_cons (pg_name (i := 0) (show (["signs", "entry", "pattern", "last"] : List Str).Nodup from by decide +kernel) rfl (Or.inl rfl)) (pgs_cons (pg_name (i := 1) (show (["signs", "entry", "pattern", "last"] : List Str).Nodup from by decide +kernel) rfl (Or.inl rfl)) pgs_nil)))) (fun C ex s H => pts_nil) (fun C ex s H => (pe_tup (pa_cons (pe_op op_add (pe_ix (ixK_tup (K := K) rfl) (pv 1) pe_int (fun _ _ => rfl)) (pe_call G_price_across.ok (hr.mono (by decide)) rfl G_price_across.mg G_price_across.kp G_price_across.bn .nil pass0 (pa_cons (pe_ix (ixK_list (K := K) rfl) (pv 2) (pv 3) (fun _ _ => rfl)) (pa_cons (pv 0) pa_nil)))) (pa_cons (pe_ix (ixK_tup (K := K) rfl) (pv 1) pe_int (fun _ _ => rfl)) pa_nil)))))
      (pss_cons (ps_set (i := 8) sc_strip_least.nd rfl (Or.inl rfl) (pe_call G_counted_together.ok (hr.mono (by decide)) rfl G_counted_together.mg G_counted_together.kp G_counted_together.bn .nil pass0 (pa_cons (pv 7) pa_nil)))
      (pss_one (ps_ret (pe_tup (pa_cons (pe_ix ix_tup (pv 8) pe_int (fun _ _ => rfl)) (pa_cons (pe_op op_mod (pe_ix ix_tup (pv 8) pe_int (fun _ _ => rfl)) (pv 2)) pa_nil)))))))) (fun D0 S0 H0 h0 => ?rest1))))))))), ?_⟩
    case rest1 =>
      subst hRS
      exact h0.elim
    subst hRS
    rcases bd with bd | ⟨⟨r, g⟩, bd⟩ | ⟨⟨r, g⟩, bc, bd⟩
    · exact ⟨_, rfl, v, pat, rfl, hP, fun r g => absurd g (bd r), fun _ => ke⟩
    · refine ⟨_, rfl, v, pat, rfl, hP, fun _ _ => ?_, fun b => absurd g (b r)⟩
      exact ⟨_, rfl, cols, rfl, fun c => absurd c bd, fun _ => ke⟩
    · refine ⟨_, rfl, v, pat, rfl, hP, fun _ _ => ?_, fun b => absurd g (b r)⟩
      refine ⟨_, rfl, cols, rfl, fun _ => ?_, fun c => absurd bc c⟩
      exact ⟨_, rfl, md, rfl, fun c => absurd c bd, fun _ => ke⟩
  obtain ⟨a, ys, rfl, hA, hL⟩ := id hP
  have yl := hL.1
  obtain ⟨n0, n8⟩ := g.n8
  have g0 := g.p0
  have g6 := g.p6
  have g1 := g.r1
  have g3 := g.r3
  have md0 : 0 < md := by omega
  have md1 : md ≤ 2 ^ 100 := Int.le_trans hm9 (by decide)
  obtain ⟨RS, hRS⟩ : ∃ RS : TS, RS = restS a r pat k md H := ⟨_, rfl⟩
  refine ⟨_, (pss_cons (ps_expr (pe_callX G_refuse_pattern.ok (hr.mono (by decide)) rfl G_refuse_pattern.mg G_refuse_pattern.kp G_refuse_pattern.bn .nil wsh_cx rfl (pa_cons (pv 0) pa_nil)))
      (pss_cons (ps_expr (pe_callX G_refuse_columns.ok (hr.mono (by decide)) rfl G_refuse_columns.mg G_refuse_columns.kp G_refuse_columns.bn .nil wsh_cx rfl (pa_cons (pv 1) pa_nil)))
      (pss_cons (ps_expr (pe_callX G_refuse_modulus.ok (hr.mono (by decide)) rfl G_refuse_modulus.mg G_refuse_modulus.kp G_refuse_modulus.bn .nil wsh_cx rfl (pa_cons (pv 2) pa_nil)))
      (pss_cons (ps_set (i := 3) sc_strip_least.nd rfl (Or.inl rfl) (pe_op op_fdiv (pe_op op_sub (pv 1) pe_int) (pe_callB call_len_seq (by rfl) T.n_len bt_len (pa_cons (pv 0) pa_nil))))
      (pss_cons (ps_set (i := 4) sc_strip_least.nd rfl (Or.inr rfl) (pe_op op_mod (pe_op op_sub (pv 1) pe_int) (pe_callB call_len_seq (by rfl) T.n_len bt_len (pa_cons (pv 0) pa_nil))))
      (pss_cons (ps_setComp (i := 5) rfl sc_strip_least.nd rfl rfl (fr := []) (by exact CompOk.plain (by rfl) (by decide +kernel) (by rfl) (by decide +kernel) (by rfl) (by decide +kernel)) (pi_range1 rfl T.n_range (pa_cons (pe_op op_shl pe_int (pe_call G_rows_of.ok (hr.mono (by decide)) rfl G_rows_of.mg G_rows_of.kp G_rows_of.bn .nil pass0 (pa_cons (pv 0) pa_nil))) pa_nil)) (fun C ex s H => (pe_tup (pa_cons pe_int (pa_cons pe_int pa_nil)))))
      (pss_cons (ps_if (pt_cmpR op_gt (pv 3) pe_int (nomark _)) (pss_one (ps_set (i := 5) sc_strip_least.nd rfl (Or.inl rfl) (pe_call G_joined_row.ok (hr.mono (by decide)) rfl G_joined_row.mg G_joined_row.kp G_joined_row.bn .nil pass0 (pa_cons (pv 5) (pa_cons (pe_call G_table_power.ok (hr.mono (by decide)) rfl G_table_power.mg G_table_power.kp G_table_power.bn .nil pass0 (pa_cons (pe_callX G_step_table.ok (hr.mono (by decide)) rfl G_step_table.mg G_step_table.kp G_step_table.bn .nil wsh_cx rfl (pa_cons (pv 0) pa_nil)) (pa_cons (pv 3) (pa_cons (pv 2) pa_nil)))) (pa_cons (pv 2) pa_nil)))))) pss_nil)
      (pss_imp (t2 := RS) (pss_cons (ps_for PassesOwn.leaving rfl (pi_list (pe_slice sl_list (pv 0) po_none (po_some (pv 4)))) (pg_name (i := 6) sc_strip_least.nd rfl (Or.inl rfl)) (pss_one (ps_set (i := 5) sc_strip_least.nd rfl (Or.inl rfl) (pe_call G_joined_row.ok (hr.mono (by decide)) rfl G_joined_row.mg G_joined_row.kp G_joined_row.bn .nil pass0 (pa_cons (pv 5) (pa_cons (pe_call G_column_table.ok (hr.mono (by decide)) rfl G_column_table.mg G_column_table.kp G_column_table.bn .nil pass0 (pa_cons (pv 6) pa_nil)) (pa_cons (pv 2) pa_nil)))))))
      (pss_cons (ps_setCompG (i := 7) rfl sc_strip_least.nd rfl rfl (fr := [("pattern", 0), ("last", 4)]) (xs := ["signs", "entry"]) (CompG.of (by rfl) (by decide +kernel) (by rfl) (by decide +kernel) (by intro p hp; simp only [List.mem_cons, List.not_mem_nil, or_false] at hp; rcases hp with rfl | rfl <;> exact ⟨rfl, rfl⟩) (by decide +kernel) (by intro p hp; simp only [List.mem_cons, List.not_mem_nil, or_false] at hp; rcases hp with rfl | rfl <;> rfl)) (pi_enum rfl T.n_enumerate (pa_cons (pv 5) pa_nil)) (fun C ex s H => (pgK_tup (n := 2) (K := K) rfl rfl (pgs_cons (pg_name (i := 0) (show (["signs", "entry", "pattern", "last"] : List Str).Nodup from by decide +kernel) rfl (Or.inl rfl)) (pgs_cons (pg_name (i := 1) (show (["signs", "entry", "pattern", "last"] : List Str).Nodup from by decide +kernel) rfl (Or.inl rfl)) pgs_nil)))) (fun C ex s H => pts_nil) (fun C ex s H => (pe_tup (pa_cons (pe_op op_add (pe_ix (ixK_tup (K := K) rfl) (pv 1) pe_int (fun _ _ => rfl)) (pe_call G_price_across.ok (hr.mono (by decide)) rfl G_price_across.mg G_price_across.kp G_price_across.bn .nil pass0 (pa_cons (pe_ix (ixK_list (K := K) rfl) (pv 2) (pv 3) (fun _ _ => rfl)) (pa_cons (pv 0) pa_nil)))) (pa_cons (pe_ix (ixK_tup (K := K) rfl) (pv 1) pe_int (fun _ _ => rfl)) pa_nil)))))
      (pss_cons (ps_set (i := 8) sc_strip_least.nd rfl (Or.inl rfl) (pe_call G_counted_together.ok (hr.mono (by decide)) rfl G_counted_together.mg G_counted_together.kp G_counted_together.bn .nil pass0 (pa_cons (pv 7) pa_nil)))
      (pss_one (ps_ret (pe_tup (pa_cons (pe_ix ix_tup (pv 8) pe_int (fun _ _ => rfl)) (pa_cons (pe_op op_mod (pe_ix ix_tup (pv 8) pe_int (fun _ _ => rfl)) (pv 2)) pa_nil)))))))) (fun D0 S0 H0 h0 => ?rest1))))))))), ?_⟩
  case rest1 =>
    subst hRS
    obtain ⟨vr, wv, rfl, s0, hR, hW, kr⟩ := h0
    have lt : k % pat.length < pat.length := Nat.mod_lt _ g0
    have hA0 := s0 _ _ hA
    refine ⟨_, rfl, _, rfl, _, rfl, a, _, rfl, SqL.of hA0, fun q hq => ?_⟩
    have ecut : cutV ys none (some ((k % pat.length : Nat) : Int)) = ys.take (k % pat.length) := cut_lo (by omega)
    rw [ecut]
    have sq := same_new hq (.lst (ys.take (k % pat.length)))
    have hD := LsAt.take hL (k % pat.length)
    have hql : (upd H0 q (.lst (ys.take (k % pat.length)))) q = _ := upd_same
    have hR2 := hR.mono sq
    have s2 := s0.trans sq
    generalize upd H0 q (.lst (ys.take (k % pat.length))) = H2 at hql hR2 s2
    have zl : (ys.take (k % pat.length)).length = k % pat.length := by rw [List.length_take]; omega
    generalize ys.take (k % pat.length) = zs at hql hD zl
    refine ⟨q, rfl, ⟨_, SqL.of hql⟩, for_list (K := K) (xs := zs) (fun i σ H3 => ∃ v5 v6 wi, σ = [some (.ref a), some (.int ((k : Int) + 1)), some (.int md), some (.int ((k / pat.length : Nat) : Int)), some (.int ((k % pat.length : Nat) : Int)), some v5, v6, none, none] ∧ Same H2 H3 ∧ RwAt H3 v5 (rowOf (2 ^ r) wi) ∧ RLk (2 ^ r) md wi (vec (2 ^ r) pat (k / pat.length * pat.length + i))) ⟨_, _, _, rfl, fun _ _ e => e, hR2, hW⟩ (fun i σ H3 _ z => ?_) ?_ ?_⟩
    · obtain ⟨_, _, _, _, s3, _⟩ := z
      exact SqL.of (s3 _ _ hql)
    · rintro i x σ H3 hx ⟨v5, v6, wi, rfl, s3, hR3, hW3⟩
      have hi : i < k % pat.length := by rw [← zl]; exact (List.getElem?_eq_some_iff.mp hx).1
      obtain ⟨d, hd, hX⟩ := hD.get hx
      have hd' : pat[i]? = some d := by rw [List.getElem?_take, if_pos hi] at hd; exact hd
      obtain ⟨d1, d2⟩ := g.al d (List.mem_of_getElem? hd')
      have s23 := s2.trans s3
      refine ⟨_, rfl, _, rfl, x, d, r, rfl, hX.mono s23, d1, g1, g3, by omega, fun u4 H4 s4 hu4 => ?_⟩
      refine ⟨_, rfl, v5, u4, md, _, _, 2 ^ r, rfl, hR3.mono s4, hu4, md0, n0, n8, rowOf_len _ _, row_bd hW3, sqr_tab (colM_cnt _ d) (by decide), fun u5 H5 s5 hu5 => ?_⟩
      rw [jRow_of] at hu5
      refine ⟨_, _, _, rfl, s3.trans (s4.trans s5), hu5, ?_⟩
      have e : colAt pat (k / pat.length * pat.length + i) = d := by
        unfold colAt
        rw [Nat.mul_comm, Nat.mul_add_mod, Nat.mod_eq_of_lt (by omega), List.getD_eq_getElem?_getD, hd']
        rfl
      have := hW3.jn (Lk.refl (colM d)) md0 md1
      rw [← e] at this ⊢
      exact this
    · rintro σ H3 ⟨v5, v6, wi, rfl, s3, ⟨b5, xs5, rfl, h5, hL5⟩, hW3⟩
      rw [zl, Nat.div_add_mod'] at hW3
      have s23 := s2.trans s3
      have x5 : xs5.length = 2 ^ r := by rw [hL5.1, rowOf_len]
      obtain ⟨c, hc⟩ : ∃ c, pat[k % pat.length]? = some c := ⟨_, List.getElem?_eq_getElem lt⟩
      have ec : colAt pat k = c := by unfold colAt; rw [List.getD_eq_getElem?_getD, hc]; rfl
      obtain ⟨y, hy, hC⟩ := hL.2 _ c hc
      obtain ⟨d1, d2⟩ := g.al c (List.mem_of_getElem? hc)
      refine ⟨_, rfl, b5, rfl, ⟨_, SqL.of h5⟩, compG_enum (K := K) (xs := xs5) (fun i zs H4 => Same H3 H4 ∧ LsAt PrAt H4 zs ((List.range i).map fun s => ((wi s).1 + aC c s, (wi s).2))) (by rw [x5]; exact small8 n8) ⟨fun _ _ e => e, LsAt.nil⟩ (fun i zs H4 _ z => SqL.of (z.1 _ _ h5)) ?_ ?_ ?_⟩
      · rintro i x zs H4 T2 hx ⟨s4, hZ⟩ hT2
        have hi : i < 2 ^ r := by rw [← x5]; exact (List.getElem?_eq_some_iff.mp hx).1
        have sT := same_new hT2 (.tup [.int (i : Int), x])
        obtain ⟨e, he, t, rfl, ht⟩ := hL5.get hx
        rw [rowOf_at hi] at he
        cases he
        have s34 := s4.trans sT
        have s24 := s23.trans s34
        refine ⟨T2, _, rfl, SqT.of upd_same, rfl, _, _, rfl, _, _, rfl, rfl, rfl, yesT ?_⟩
        refine ⟨_, rfl, t, _, 0, _, rfl, rfl, SqT.of (s34 _ _ ht), at0, _, rfl, _, rfl, a, _, _, _, rfl, rfl, SqL.of (s24 _ _ hA), atI_nat hy, _, rfl, y, c, i, rfl, hC.mono s24, by omega, fun H6 s6 => ?_⟩
        refine ⟨_, _, rfl, rfl, _, rfl, t, _, 1, _, rfl, rfl, SqT.of (s6 _ _ (s34 _ _ ht)), at1, (by show 2 ≤ sizeLine; decide), fun t7 ht7 => ?_⟩
        have s7 := sT.trans (s6.trans (same_new ht7 (.tup [.int ((wi i).1 + aC c i), .int (wi i).2])))
        refine ⟨s4.trans s7, ?_⟩
        rw [rng_succ]
        exact (hZ.imp fun _ _ y => y.mono s7).snoc ⟨t7, rfl, upd_same⟩
      · rintro zs H4 ⟨s4, hZ⟩ D4 hD4
        have sD := same_new hD4 (.lst zs)
        rw [x5] at hZ
        refine ⟨_, rfl, .ref D4, rowOf (2 ^ r) (fun s => ((wi s).1 + aC c s, (wi s).2)), rfl, ⟨D4, zs, rfl, upd_same, hZ.imp fun _ _ y => y.mono sD⟩, ?_, by rw [rowOf_len]; omega, fun u5 H5 s5 hu5 => ?_⟩
        · intro e
          have := congrArg List.length e
          rw [rowOf_len] at this
          exact absurd this (by show ¬ 2 ^ r = 0; omega)
        rw [bestOf_fin] at hu5
        obtain ⟨t, rfl, ht⟩ := hu5
        refine ⟨_, rfl, t, _, 0, _, rfl, rfl, SqT.of ht, at0, _, rfl, t, _, 1, _, rfl, rfl, SqT.of ht, at1, _, rfl, _, _, rfl, rfl, md0, (by show 2 ≤ sizeLine; decide), fun t7 ht7 => ?_⟩
        obtain ⟨f1, f2⟩ := fin_lk (m := md) c hW3.lk
        refine kr _ _ (s23.trans (s4.trans (sD.trans (s5.trans (same_new ht7 _))))) ⟨t7, rfl, ?_⟩
        unfold SL
        rw [ec, ← f1, ← f2]
        exact upd_same
      · rintro i zs H4 ⟨_, hZ⟩
        rw [hZ.1, List.length_map, List.length_range]
        exact Nat.le_refl _
  subst hRS
  refine ⟨_, rfl, .ref a, pat, rfl, hP, fun _ _ => ?_, fun b => absurd g (b r)⟩
  refine ⟨_, rfl, _, rfl, fun _ => ?_, fun c => absurd (show (1 : Int) ≤ (k : Int) + 1 ∧ (k : Int) + 1 ≤ 10 ^ 18 by omega) c⟩
  refine ⟨_, rfl, _, rfl, fun _ => ?_, fun c => absurd ⟨hm2, hm9⟩ c⟩
  have ek : ((k : Int) + 1) - 1 = (k : Int) := by omega
  refine ⟨_, rfl, _, _, rfl, rfl, _, rfl, a, _, rfl, .inl (SqL.of hA), _, _, rfl, rfl, ⟨by show (0 : Int) < (ys.length : Int); omega, by show (ys.length : Int) < 1073741824; omega⟩, ?_⟩
  refine ⟨_, rfl, _, _, rfl, rfl, _, rfl, a, _, rfl, .inl (SqL.of hA), _, _, rfl, rfl, (by show (0 : Int) < (ys.length : Int); omega), ?_⟩
  obtain ⟨c, pt, ep⟩ : ∃ c pt, pat = c :: pt := by
    match pat, g0 with
    | c :: pt, _ => exact ⟨c, pt, rfl⟩
  have eq1 : ((k : Int) + 1 - 1) / (ys.length : Int) = ((k / pat.length : Nat) : Int) := by rw [ek, yl]; push_cast; rfl
  have eq2 : ((k : Int) + 1 - 1) % (ys.length : Int) = ((k % pat.length : Nat) : Int) := by rw [ek, yl]; push_cast; rfl
  refine ⟨_, rfl, .ref a, c, pt, rfl, ep ▸ hP, ?_⟩
  have ec : c.2.length = r := (g.al c (by rw [ep]; exact List.mem_cons_self ..)).1
  rw [ec]
  have e8 : (1 : Int) * 2 ^ ((r : Nat) : Int).toNat = ((2 ^ r : Nat) : Int) := by rw [Int.one_mul, Int.toNat_natCast]; push_cast; rfl
  refine ⟨_, _, rfl, rfl, ⟨Int.natCast_nonneg _, by omega, by decide⟩, ((2 ^ r : Nat) : Int), congrArg (fun z => [V.int z]) e8, by omega, by omega, ?_⟩
  refine comp_range (fun i zs H2 => Same H H2 ∧ LsAt PrAt H2 zs ((List.range i).map fun _ => ((0 : Int), (1 : Int)))) (by rw [Int.toNat_natCast]; exact small8 n8) ⟨fun _ _ e => e, LsAt.nil⟩ ?_ ?_
  · rintro i zs H2 hi ⟨s2, hZ⟩
    refine ⟨(by show 2 ≤ sizeLine; decide), fun t ht => ?_⟩
    have s3 := same_new ht (.tup [.int 0, .int 1])
    refine ⟨s2.trans s3, ?_⟩
    rw [rng_succ]
    exact (hZ.imp fun _ _ y => y.mono s3).snoc ⟨t, rfl, upd_same⟩
  rintro zs H2 _ ⟨s2, hZ⟩ D hD
  rw [Int.toNat_natCast] at hZ
  have sD := same_new hD (.lst zs)
  have hR : RwAt (upd H2 D (.lst zs)) (.ref D) (rowOf (2 ^ r) (fun _ => (0, 1))) := ⟨D, zs, rfl, upd_same, hZ.imp fun _ _ y => y.mono sD⟩
  have s3 := s2.trans sD
  generalize upd H2 D (.lst zs) = H3 at hR s3
  have hW0 : RLk (2 ^ r) md (fun _ => (0, 1)) (vec (2 ^ r) pat 0) := ⟨fun t _ => ⟨rfl, rfl⟩, fun t _ => ⟨by decide, by decide⟩⟩
  simp only [eq1, eq2]
  refine ⟨_, rfl, _, _, rfl, rfl, _, rfl, ?_⟩
  refine ite2 (fun z => ?_) (fun z => ?_)
  · have z' : 0 < k / pat.length := by have := of_decide_eq_true z; omega
    refine ⟨_, rfl, _, rfl, .ref a, pat, rfl, hP.mono s3, .inl ⟨r, g, fun u4 H4 s4 hu4 => ?_⟩⟩
    have cS : Cnt (2 ^ r) (stepM (2 ^ r) pat) ((2 ^ r) ^ pt.length * 1) := by rw [ep]; exact stepF_cnt (colM c) (colM_cnt _ c) pt
    have bS := pow_le8 n8 (k := pt.length) (by rw [ep, List.length_cons] at g6; omega)
    refine ⟨_, rfl, _, rfl, u4, _, md, _, 2 ^ r, rfl, hu4, sqr_tab cS (by omega), n0, n8, md0, md1, by omega, fun u5 H5 s5 hu5 => ?_⟩
    refine ⟨_, rfl, .ref D, u5, md, _, _, 2 ^ r, rfl, hR.mono (s4.trans s5), hu5, md0, n0, n8, rowOf_len _ _, row_bd hW0, PW_sqr md0 md1 _, fun u6 H6 s6 hu6 => ?_⟩
    unfold PW at hu6
    rw [jRow_of] at hu6
    refine ⟨u6, _, rfl, s3.trans (s4.trans (s5.trans s6)), hu6, ?_, kk⟩
    have hS : Lk (2 ^ r) md (rdc md (mtOf (tabOf (2 ^ r) (stepM (2 ^ r) pat)))) (stepM (2 ^ r) pat) := (lk_rdc _ md _).trans fun s t hs ht => by rw [mt_tab hs ht]; exact ⟨rfl, rfl⟩
    have pv := pow_vec (m := md) n0 g0 (V := cst fun _ => (0, 1)) (fun s t _ _ => ⟨rfl, rfl⟩) hS (((k / pat.length : Nat) : Int).toNat - 1)
    rw [Int.toNat_natCast] at pv ⊢
    rw [Nat.sub_add_cancel z'] at pv
    refine ⟨fun t ht => pv 0 t n0 ht, fun t ht => ?_⟩
    rw [jn_jx]
    exact ⟨Int.emod_nonneg _ (by omega), Int.lt_of_lt_of_le (Int.emod_lt_of_pos _ md0) md1⟩
  · have z' : k / pat.length = 0 := by
      by_cases w : k / pat.length = 0
      · exact w
      · exact absurd (decide_eq_true (show ((k / pat.length : Nat) : Int) > 0 from Int.natCast_pos.mpr (Nat.pos_of_ne_zero w))) z
    refine ⟨.ref D, _, rfl, s3, hR, ?_, kk⟩
    rw [z', Nat.zero_mul]
    exact hW0
theorem sc_lows_of : FnScope ["table", "found", "row"] ["table"] (defScope s_lows_of) := ⟨rfl, rfl, rfl, by decide +kernel, rfl, by decide +kernel, by decide +kernel⟩
theorem ok_no1 {f : Addr} {fd : FuncData} (F : Fun K "lows_of" "lows_of" s_lows_of f fd) : FnOk P w K mg base CX0 1 f fd ["table"] spNo :=
  F.ok sc_lows_of (fun vs H Q E h => h.elim) (fun cdv A outer s H vs Q E hr h => h.elim)
theorem sc_long_run_of : FnScope ["lows", "sums", "best", "divisor", "top", "bottom"] ["lows"] (defScope s_long_run_of) := ⟨rfl, rfl, rfl, by decide +kernel, rfl, by decide +kernel, by decide +kernel⟩
theorem ok_no2 {f : Addr} {fd : FuncData} (F : Fun K "long_run_of" "long_run_of" s_long_run_of f fd) : FnOk P w K mg base CX0 1 f fd ["lows"] spNo :=
  F.ok sc_long_run_of (fun vs H Q E h => h.elim) (fun cdv A outer s H vs Q E hr h => h.elim)
theorem sc_long_run : FnScope ["pattern"] ["pattern"] (defScope s_long_run) := ⟨rfl, rfl, rfl, by decide +kernel, rfl, by decide +kernel, by decide +kernel⟩
theorem ok_long {f f1 f2 f3 B : Addr} {fd fd1 fd2 fd3 : FuncData} (F : Fun K "long_run" "long_run" s_long_run f fd) (G_step_table : CalX P w K mg base 6 "step_table" ["pattern"] (spStepX B) f1 fd1) (G_lows_of : Cal P w K mg base 1 "lows_of" ["table"] spNo f2 fd2) (G_long_run_of : Cal P w K mg base 1 "long_run_of" ["lows"] spNo f3 fd3) : FnOk P w K mg base (CXr P w) 7 f fd ["pattern"] (spLongX B) := by
  refine F.okX sc_long_run (fun vs H Q E h => ?_) (fun cdv A outer s H vs Q E hr h => ?_)
  · obtain ⟨v, pat, rfl, _⟩ := h
    rfl
  obtain ⟨v, pat, rfl, hP, bd, ke⟩ := h
  refine ⟨_, (pss_one (ps_ret (pe_call G_long_run_of.ok (hr.mono (by decide)) rfl G_long_run_of.mg G_long_run_of.kp G_long_run_of.bn .nil pass0 (pa_cons (pe_call G_lows_of.ok (hr.mono (by decide)) rfl G_lows_of.mg G_lows_of.kp G_lows_of.bn .nil pass0 (pa_cons (pe_callX G_step_table.ok (hr.mono (by decide)) rfl G_step_table.mg G_step_table.kp G_step_table.bn .nil wsh_cx rfl (pa_cons (pv 0) pa_nil)) pa_nil)) pa_nil)))), ?_⟩
  exact ⟨_, rfl, v, pat, rfl, hP, .inr ⟨bd, ke⟩⟩
end
end KS


namespace KS
open PySem L2
local macro_rules | `(tactic| walk_at "cc") => `(tactic| first | exact ⟨by decide, by decide⟩ | (show (0 : Int) < _; decide) | (show (0 : Int) < _; omega) | (show (0 : Int) ≤ _; omega) | exact ⟨by decide, by decide, by decide⟩ | exact ⟨by omega, by omega, by decide⟩ | exact Or.inl ⟨by decide, by decide⟩ | exact Or.inl ⟨by omega, by omega⟩)
local macro_rules | `(tactic| walk_at "rd") => `(tactic| repeat (first | refine ⟨_, rfl, ?_⟩ | refine ⟨_, _, rfl, rfl, ?_⟩ | refine ⟨rfl, ?_⟩ | (refine ⟨?cc, ?_⟩; (case cc => walk_at "cc"))))

structure TxtB (mg : Str → Option Value) (B : Addr) : Prop extends Txt mg where
  g_BadStrip : mg "BadStrip" = some (.ref B)
def Refuse (pat : List Col) (which cols md : Int) : Prop := Bad pat ∨ (which = 2 ∧ (∃ r, Good r pat) ∧ (¬ (1 ≤ cols ∧ cols ≤ 10 ^ 18) ∨ ((1 ≤ cols ∧ cols ≤ 10 ^ 18) ∧ ¬ (2 ≤ md ∧ md ≤ 10 ^ 9))))
def spAsk (B : Addr) : Sp := fun vs H Q E => ∃ (v : V) (pat : List Col) (wh cols md : Int), vs = [.int wh, v, .int cols, .int md] ∧ PatAt H v pat ∧ (wh = 0 ∨ wh = 1 ∨ wh = 2) ∧ Refuse pat wh cols md ∧ E (.ref B) none H
def spRefd : Sp := fun vs H Q _ => ∃ (v : V) (pat : List Col) (wh cols md : Int), vs = [.int wh, v, .int cols, .int md] ∧ PatAt H v pat ∧ (wh = 0 ∨ wh = 1 ∨ wh = 2) ∧ Refuse pat wh cols md ∧ ∀ H', Same H H' → Q (.bl true) H'
section
variable {P : Program} {w : World} {K : PySem.W.Frag} {mg : Str → Option Value} {base : Heap}
theorem sc_law_ask : FnScope ["which", "pattern", "columns", "modulus"] ["which", "pattern", "columns", "modulus"] (defScope s_law_ask) := ⟨rfl, rfl, rfl, by decide +kernel, rfl, by decide +kernel, by decide +kernel⟩
theorem ok_ask {f f1 f2 f3 B : Addr} {fd fd1 fd2 fd3 : FuncData} (F : Fun K "_law_ask" "_law_ask" s_law_ask f fd) (G_step_table : CalX P w K mg base 6 "step_table" ["pattern"] (spStepX B) f1 fd1) (G_long_run : CalX P w K mg base 7 "long_run" ["pattern"] (spLongX B) f2 fd2) (G_strip_least : CalX P w K mg base 7 "strip_least" ["pattern", "columns", "modulus"] (spStripX B) f3 fd3) : FnOk P w K mg base (CXr P w) 8 f fd ["which", "pattern", "columns", "modulus"] (spAsk B) := by
  refine F.okX sc_law_ask (fun vs H Q E h => ?_) (fun cdv A outer s H vs Q E hr h => ?_)
  · obtain ⟨v, pat, wh, cols, md, rfl, _⟩ := h
    rfl
  obtain ⟨v, pat, wh, cols, md, rfl, hP, hw, hR, ke⟩ := h
  refine ⟨_, (pss_cons (ps_if (pt_cmpR op_eq (pv 0) pe_int (nomark _)) (pss_one (ps_ret (pe_callX G_step_table.ok (hr.mono (by decide)) rfl G_step_table.mg G_step_table.kp G_step_table.bn .nil wsh_cx rfl (pa_cons (pv 1) pa_nil)))) pss_nil)
      (pss_cons (ps_if (pt_cmpR op_eq (pv 0) pe_int (nomark _)) (pss_one (ps_ret (pe_callX G_long_run.ok (hr.mono (by decide)) rfl G_long_run.mg G_long_run.kp G_long_run.bn .nil wsh_cx rfl (pa_cons (pv 1) pa_nil)))) pss_nil)
      (pss_one (ps_ret (pe_callX G_strip_least.ok (hr.mono (by decide)) rfl G_strip_least.mg G_strip_least.kp G_strip_least.bn .nil wsh_cx rfl (pa_cons (pv 1) (pa_cons (pv 2) (pa_cons (pv 3) pa_nil)))))))), ?_⟩
  have bad : ∀ {j : Int}, wh = j → j ≠ 2 → Bad pat := fun {j} e n => by
    rcases hR with b | ⟨z, _⟩
    · exact b
    · omega
  refine ⟨_, rfl, rfl, _, rfl, ?_⟩
  refine ite2 (fun z => ?_) (fun z => ?_)
  · have z' : wh = 0 := V.int.inj (of_decide_eq_true z)
    exact ⟨_, rfl, v, pat, rfl, hP, .inr ⟨bad z' (by decide), ke⟩⟩
  have n0 : wh ≠ 0 := fun e => z (decide_eq_true (congrArg V.int e))
  refine ⟨_, rfl, rfl, _, rfl, ?_⟩
  refine ite2 (fun z => ?_) (fun z => ?_)
  · have z' : wh = 1 := V.int.inj (of_decide_eq_true z)
    exact ⟨_, rfl, v, pat, rfl, hP, bad z' (by decide), ke⟩
  refine ⟨_, rfl, _, rfl, _, rfl, v, pat, cols, md, rfl, hP, .inr ⟨?_, ke⟩⟩
  rcases hR with b | ⟨_, g, b | ⟨b1, b2⟩⟩
  · exact .inl b
  · exact .inr (.inl ⟨g, b⟩)
  · exact .inr (.inr ⟨g, b1, b2⟩)
theorem sc_law_refused : FnScope ["which", "pattern", "columns", "modulus", "found", "e"] ["which", "pattern", "columns", "modulus"] (defScope s_law_refused) := ⟨rfl, rfl, rfl, by decide +kernel, rfl, by decide +kernel, by decide +kernel⟩
theorem ok_refd {f f1 B FE : Addr} {fd fd1 : FuncData} (F : Fun K "_law_refused" "_law_refused" s_law_refused f fd) (T : TxtB mg B) (X_FloorError : ErrC K mg "FloorError" FE) (X_BadStrip : ErrC K mg "BadStrip" B) (mBF : PySem.W.mroIn K B (.ref FE) = some true)
    (G_law_ask : CalX P w K mg base 8 "_law_ask" ["which", "pattern", "columns", "modulus"] (spAsk B) f1 fd1) : FnOk P w K mg base CX0 9 f fd ["which", "pattern", "columns", "modulus"] spRefd := by
  have hCs : ∀ c, c = B → ExC K c ∧ PySem.W.mroIn K c (.ref FE) = some true := fun c hc => by subst hc; exact ⟨X_BadStrip.ec, mBF⟩
  refine F.ok sc_law_refused (fun vs H Q E h => ?_) (fun cdv A outer s H vs Q E hr h => ?_)
  · obtain ⟨v, pat, wh, cols, md, rfl, _⟩ := h
    rfl
  obtain ⟨v, pat, wh, cols, md, rfl, hP, hw, hR, kk⟩ := h
  refine ⟨_, (pss_cons (ps_set (i := 4) sc_law_refused.nd rfl (Or.inl rfl) pe_non)
      (pss_cons (ps_tryAs (ie := 5) (Cs := (fun c => c = B)) rfl rfl rfl sc_law_refused.nd rfl rfl rfl X_FloorError.mg X_FloorError.ec hCs (fun pins XE W ws => (pss_one (ps_expr (pe_callT G_law_ask.ok (hr.mono (by decide)) rfl G_law_ask.mg G_law_ask.kp G_law_ask.bn .nil ws rfl (pa_cons (pv 0) (pa_cons (pv 1) (pa_cons (pv 2) (pa_cons (pv 3) pa_nil)))))))) (fun v => (pss_one (ps_set (i := 4) sc_law_refused.nd rfl (Or.inl rfl) (pv 5)))))
      (pss_one (ps_ret (pe_callB call_isiX (by rfl) T.n_isinstance bt_isinstance (pa_cons (pv 4) (pa_cons (pe_glob (v := .ref _) rfl T.g_BadStrip rfl) pa_nil))))))), ?_⟩
  refine ⟨_, rfl, _, rfl, _, rfl, _, rfl, v, pat, wh, cols, md, rfl, hP, hw, hR, B, rfl, rfl, fun x hx => ?_⟩
  refine ⟨_, rfl, ?_⟩
  refine ⟨_, rfl, x, B, rfl, upd_same, ?_⟩
  exact kk _ (same_new hx _)
end
end KS


namespace KS
open PySem L2
local macro_rules | `(tactic| walk_at "cc") => `(tactic| first | exact ⟨by decide, by decide⟩ | (show (0 : Int) < _; decide) | (show (0 : Int) < _; omega) | (show (0 : Int) ≤ _; omega) | exact ⟨by decide, by decide, by decide⟩ | exact ⟨by omega, by omega, by decide⟩ | exact Or.inl ⟨by decide, by decide⟩ | exact Or.inl ⟨by omega, by omega⟩)
local macro_rules | `(tactic| walk_at "rd") => `(tactic| repeat (first | refine ⟨_, rfl, ?_⟩ | refine ⟨_, _, rfl, rfl, ?_⟩ | refine ⟨rfl, ?_⟩ | (refine ⟨?cc, ?_⟩; (case cc => walk_at "cc"))))

theorem col_ne {H : Hp} {q : Addr} {ys : List V} {bad : List Col} (hL : LsAt ColAt H ys bad) (h0 : 0 < bad.length) (hq : H q = some (.lst ys)) {a : Addr} {ns : List Int} (ha : H a = some (.lst (ns.map V.int))) : a ≠ q := fun e => by
  rw [e, hq] at ha
  obtain ⟨y, hy, t, _, _, rfl, _⟩ := hL.2 0 bad[0] (List.getElem?_eq_getElem h0)
  have : ys = ns.map V.int := by cases ha; rfl
  rw [this, List.getElem?_map] at hy
  cases z : ns[0]? with
  | none => rw [z] at hy; cases hy
  | some w => rw [z] at hy; cases hy
theorem ColAt.put {H : Hp} {q : Addr} {us zs : List V} {v : V} {c : Col} (hne : ∀ (a : Addr) (ns : List Int), H a = some (.lst (ns.map V.int)) → a ≠ q) (hq : H q = some (.lst us)) (h : ColAt H v c) : ColAt (upd H q (.lst zs)) v c := by
  obtain ⟨t, a, b, e, h1, h2, h3⟩ := h
  exact ⟨t, a, b, e, by rw [upd_ne (fun y => by rw [y, hq] at h1; cases h1)]; exact h1, by rw [upd_ne (hne _ _ h2)]; exact h2, by rw [upd_ne (hne _ _ h3)]; exact h3⟩
theorem vint_inj {a b : List Int} (h : a.map V.int = b.map V.int) : a = b := by
  induction a generalizing b with
  | nil => cases b with
    | nil => rfl
    | cons y b => cases h
  | cons x a ih => cases b with
    | nil => cases h
    | cons y b =>
      rw [List.map_cons, List.map_cons] at h
      injection h with h1 h2
      rw [V.int.inj h1, ih h2]
theorem ColAt.uniq {H : Hp} {v : V} {c d : Col} (h : ColAt H v c) (k : ColAt H v d) : c = d := by
  obtain ⟨t, a, b, rfl, h1, h2, h3⟩ := h
  obtain ⟨t', a', b', e, k1, k2, k3⟩ := k
  cases e
  rw [h1] at k1
  cases k1
  rw [h2] at k2
  rw [h3] at k3
  have e1 : c.1.map V.int = d.1.map V.int := by injection k2 with z; injection z
  have e2 : c.2.map V.int = d.2.map V.int := by injection k3 with z; injection z
  exact Prod.ext (vint_inj e1) (vint_inj e2)
/-- a list of ints written into -/
theorem ColAt.grow {H : Hp} {p : Addr} {old new : List Int} (hp : H p = some (.lst (old.map V.int))) {v : V} {c : Col} (h : ColAt H v c) : ∃ c', ColAt (upd H p (.lst (new.map V.int))) v c' := by
  obtain ⟨t, a, b, rfl, h1, h2, h3⟩ := h
  have ht : (upd H p (.lst (new.map V.int))) t = some (.tup [.ref a, .ref b]) := by rw [upd_ne (fun y => by rw [y, hp] at h1; cases h1)]; exact h1
  by_cases za : a = p
  · subst za
    by_cases zb : b = a
    · subst zb
      exact ⟨(new, new), t, b, b, rfl, ht, upd_same, upd_same⟩
    · exact ⟨(new, c.2), t, a, b, rfl, ht, upd_same, by rw [upd_ne zb]; exact h3⟩
  · by_cases zb : b = p
    · subst zb
      exact ⟨(c.1, new), t, a, b, rfl, ht, by rw [upd_ne za]; exact h2, upd_same⟩
    · exact ⟨c, t, a, b, rfl, ht, by rw [upd_ne za]; exact h2, by rw [upd_ne zb]; exact h3⟩
open Classical in
noncomputable def colOf (H : Hp) (y : V) : Col := if h : ∃ c, ColAt H y c then Classical.choose h else ([], [])
theorem colOf_is {H : Hp} {y : V} {c : Col} (h : ColAt H y c) : colOf H y = c := by
  unfold colOf
  have e : ∃ c, ColAt H y c := ⟨c, h⟩
  rw [dif_pos e]
  exact (Classical.choose_spec e).uniq h
theorem LsAt.ofAll {H : Hp} {ys : List V} (h : ∀ (i : Nat) (y : V), ys[i]? = some y → ∃ c, ColAt H y c) : LsAt ColAt H ys (ys.map (colOf H)) :=
  ⟨by rw [List.length_map], fun i x e => by
    rw [List.getElem?_map] at e
    cases z : ys[i]? with
    | none => rw [z] at e; cases e
    | some y =>
      rw [z] at e
      cases e
      obtain ⟨c, hc⟩ := h i y z
      exact ⟨y, rfl, by rw [colOf_is hc]; exact hc⟩⟩
theorem LsAt.set {α : Type} {R : Hp → V → α → Prop} {H : Hp} {ys : List V} {xs : List α} {i : Nat} {y : V} {x : α} (h : LsAt R H ys xs) (r : R H y x) : LsAt R H (ys.set i y) (xs.set i x) :=
  ⟨by rw [List.length_set, List.length_set, h.1], fun j z e => by
    rw [List.getElem?_set] at e ⊢
    by_cases w : i = j
    · subst w
      rw [if_pos rfl] at e ⊢
      split at e
      · rename_i q
        rw [if_pos (by rw [h.1]; exact q)]
        cases e
        exact ⟨y, rfl, r⟩
      · cases e
    · rw [if_neg w] at e ⊢
      exact h.2 j z e⟩
theorem LsAt.ins {α : Type} {R : Hp → V → α → Prop} {H : Hp} {ys : List V} {xs : List α} {k : Nat} {y : V} {x : α} (h : LsAt R H ys xs) (r : R H y x) : LsAt R H (ys.take k ++ y :: ys.drop k) (xs.take k ++ x :: xs.drop k) := by
  have hl := h.1
  refine ⟨by simp [hl], fun j z e => ?_⟩
  by_cases c : j < (xs.take k).length
  · rw [List.getElem?_append_left c] at e
    have c' : j < (ys.take k).length := by rw [List.length_take] at c ⊢; omega
    rw [List.getElem?_append_left c']
    have hj : j < k := by rw [List.length_take] at c; omega
    rw [List.getElem?_take, if_pos hj] at e ⊢
    exact h.2 j z e
  · have el : (ys.take k).length = (xs.take k).length := by rw [List.length_take, List.length_take, hl]
    rw [List.getElem?_append_right (by omega)] at e
    rw [List.getElem?_append_right (by omega), el]
    generalize j - (xs.take k).length = m at e
    cases m with
    | zero => cases e; exact ⟨y, rfl, r⟩
    | succ m =>
      rw [List.getElem?_cons_succ, List.getElem?_drop] at e ⊢
      exact h.2 _ z e
theorem rep_one (k : Nat) (x : Int) : (List.replicate k [V.int x]).flatten = (List.replicate k x).map V.int := by
  induction k with
  | zero => rfl
  | succ k ih => rw [List.replicate_succ, List.flatten_cons, ih, List.replicate_succ]; rfl
theorem bad_col {bad : List Col} {c : Col} (hm : c ∈ bad) (h : c.2.length = 0 ∨ 3 < c.2.length ∨ c.1.length + 1 ≠ c.2.length) : Bad bad := fun r g => by
  obtain ⟨a, b⟩ := g.al c hm
  have := g.r1
  have := g.r3
  omega
theorem bad_two {bad : List Col} {c d : Col} (hc : c ∈ bad) (hd : d ∈ bad) (h : c.2.length ≠ d.2.length) : Bad bad := fun r g => by
  obtain ⟨a, _⟩ := g.al c hc
  obtain ⟨b, _⟩ := g.al d hd
  omega
theorem mem_at {α : Type} {l : List α} {i : Nat} {x : α} (h : i < l.length) : x ∈ l.set i x := by
  refine List.mem_of_getElem? (i := i) ?_
  rw [List.getElem?_set, if_pos rfl, if_pos h]
def spSpoil : Sp := fun vs H Q _ => ∃ (v : V) (r : Nat) (pat : List Col) (wy at_ mo : Int), vs = [v, .int wy, .int at_, .int mo] ∧ PatAt H v pat ∧ Good r pat ∧ 0 ≤ wy ∧ wy < 8 ∧ 0 ≤ at_ ∧ at_ < (pat.length : Int) ∧ 0 ≤ mo ∧ mo ≤ 4 ∧ ∀ u H' bad, PatAt H' u bad → Bad bad → Q u H'
def restW (j : Int) (pat : List Col) (wy at_ mo : Int) : TS := fun D σ H => ∃ (v : V) (q : Addr) (ys : List V) (v5 : Option V) (bad : List Col), σ = [some v, some (.int wy), some (.int at_), some (.int mo), some (.ref q), v5] ∧ H q = some (.lst ys) ∧ LsAt ColAt H ys bad ∧ (wy < j → Bad bad) ∧ (j ≤ wy → bad = pat) ∧ ∀ u H' bad, PatAt H' u bad → Bad bad → D.rt u H'
section
variable {P : Program} {w : World} {K : PySem.W.Frag} {mg : Str → Option Value} {base : Heap}
theorem sc_law_spoiled : FnScope ["pattern", "way", "at", "more", "bad", "other"] ["pattern", "way", "at", "more"] (defScope s_law_spoiled) := ⟨rfl, rfl, rfl, by decide +kernel, rfl, by decide +kernel, by decide +kernel⟩
theorem ok_spoil {f f1 : Addr} {fd fd1 : FuncData} (F : Fun K "_law_spoiled" "_law_spoiled" s_law_spoiled f fd) (T : Txt mg) (G_law_copy : Cal P w K mg base 1 "_law_copy" ["pattern"] spCopy f1 fd1) : FnOk P w K mg base CX0 2 f fd ["pattern", "way", "at", "more"] spSpoil := by
  refine F.ok sc_law_spoiled (fun vs H Q E h => ?_) (fun cdv A outer s H vs Q E hr h => ?_)
  · obtain ⟨v, r, pat, wy, at_, mo, rfl, _⟩ := h
    rfl
  obtain ⟨v, r, pat, wy, at_, mo, rfl, hP, g, w0, w8, a0, a1, m0, m4, kk⟩ := h
  have g0 := g.p0
  have g6 := g.p6
  have g1 := g.r1
  have g3 := g.r3
  obtain ⟨x, ex⟩ : ∃ x : Nat, at_ = (x : Int) := ⟨at_.toNat, by omega⟩
  subst ex
  have hx : x < pat.length := by omega
  refine ⟨_, (pss_cons (ps_set (i := 4) sc_law_spoiled.nd rfl (Or.inr rfl) (pe_call G_law_copy.ok (hr.mono (by decide)) rfl G_law_copy.mg G_law_copy.kp G_law_copy.bn .nil pass0 (pa_cons (pv 0) pa_nil)))
      (pss_cons (ps_if (pt_cmpR op_eq (pv 1) pe_int (nomark _)) (pss_one (ps_ret (pe_lst pa_nil))) pss_nil)
      (pss_cons (ps_if (pt_cmpR op_eq (pv 1) pe_int (nomark _)) (pss_one (ps_ret (pe_comp rfl (fr := [("bad", 4)]) (by exact CompOk.one (by rfl) (by decide +kernel) (by rfl) (by decide +kernel) (by rfl) (by decide +kernel) (by rfl) (by rfl) (by decide +kernel) (by rfl)) (pi_range1 rfl T.n_range (pa_cons (pe_op op_add pe_int (pv 3)) pa_nil)) (fun C ex s H => (pe_ix (ixK_list (K := K) rfl) (pv 1) (pe_op op_mod (pv 0) (pe_callB (callK_len (K := K) rfl) (by rfl) T.n_len bt_len (pa_cons (pv 1) pa_nil))) (fun _ _ => rfl)))))) pss_nil)
      (pss_cons (ps_if (pt_cmpR op_eq (pv 1) pe_int (nomark _)) (pss_one (ps_asg (pe_tup (pa_cons (pe_lst pa_nil) (pa_cons (pe_lst pa_nil) pa_nil))) (pg_sub (pv 4) (pv 2) set_list))) pss_nil)
      (pss_imp (t2 := restW 3 pat wy (x : Int) mo) (pss_cons (ps_if (pt_cmpR op_eq (pv 1) pe_int (nomark _)) (pss_one (ps_set (i := 4) sc_law_spoiled.nd rfl (Or.inr rfl) (pe_comp rfl (fr := [("more", 3)]) (by exact CompOk.one (by rfl) (by decide +kernel) (by rfl) (by decide +kernel) (by rfl) (by decide +kernel) (by rfl) (by rfl) (by decide +kernel) (by rfl)) (pi_list (pv 4)) (fun C ex s H => (pe_tup (pa_cons (pe_lst (pa_cons pe_int (pa_cons pe_int (pa_cons (pe_un un_neg pe_int) pa_nil)))) (pa_cons (pe_lst (pa_cons pe_int (pa_cons pe_int (pa_cons pe_int (pa_cons (pv 1) pa_nil))))) pa_nil))))))) pss_nil)
      (pss_imp (t2 := restW 4 pat wy (x : Int) mo) (pss_cons (ps_if (pt_cmpR op_eq (pv 1) pe_int (nomark _)) (pss_one (ps_expr (pe_bm PySem.F.plainAttrs_list PySem.F.slot_list_append PySem.F.type_list_append mt_append (pe_ix ix_tup (pe_ix ix_list (pv 4) (pv 2) (fun _ _ => rfl)) pe_int (fun _ _ => rfl)) (pa_cons (pv 3) pa_nil)))) pss_nil)
      (pss_imp (t2 := restW 5 pat wy (x : Int) mo) (pss_cons (ps_if (pt_cmpR op_eq (pv 1) pe_int (nomark _)) (pss_one (ps_expr (pe_bm PySem.F.plainAttrs_list PySem.F.slot_list_append PySem.F.type_list_append mt_append (pe_ix ix_tup (pe_ix ix_list (pv 4) (pv 2) (fun _ _ => rfl)) pe_int (fun _ _ => rfl)) (pa_cons (pv 3) pa_nil)))) pss_nil)
      (pss_imp (t2 := restW 6 pat wy (x : Int) mo) (pss_cons (ps_if (pt_cmpR op_eq (pv 1) pe_int (nomark _)) (pss_cons (ps_set (i := 5) sc_law_spoiled.nd rfl (Or.inl rfl) (pe_op op_mod (pe_callB call_len_seq (by rfl) T.n_len bt_len (pa_cons (pe_ix ix_tup (pe_ix ix_list (pv 4) pe_int (fun _ _ => rfl)) pe_int (fun _ _ => rfl)) pa_nil)) pe_int))
      (pss_one (ps_expr (pe_bm PySem.F.plainAttrs_list PySem.F.slot_list_insert PySem.F.type_list_insert mt_insert (pv 4) (pa_cons (pe_op op_add (pv 2) (pe_op op_mod (pv 3) pe_int)) (pa_cons (pe_tup (pa_cons (pe_op op_rep (pe_lst (pa_cons (pv 3) pa_nil)) (pv 5)) (pa_cons (pe_op op_catS (pe_op op_rep (pe_lst (pa_cons pe_int pa_nil)) (pv 5)) (pe_lst (pa_cons (pv 3) pa_nil))) pa_nil))) pa_nil)))))) pss_nil)
      (pss_imp (t2 := restW 7 pat wy (x : Int) mo) (pss_cons (ps_if (pt_cmpR op_eq (pv 1) pe_int (nomark _)) (pss_one (ps_asg (pe_tup (pa_cons (pe_ix ix_tup (pe_ix ix_list (pv 4) (pv 2) (fun _ _ => rfl)) pe_int (fun _ _ => rfl)) (pa_cons (pe_slice sl_list (pe_ix ix_tup (pe_ix ix_list (pv 4) (pv 2) (fun _ _ => rfl)) pe_int (fun _ _ => rfl)) (po_some pe_int) po_none) pa_nil))) (pg_sub (pv 4) (pv 2) set_list))) pss_nil)
      (pss_imp (t2 := restW 8 pat wy (x : Int) mo) (pss_one (ps_ret (pv 4))) (fun D0 S0 H0 h0 => ?rest8))) (fun D0 S0 H0 h0 => ?rest7))) (fun D0 S0 H0 h0 => ?rest6))) (fun D0 S0 H0 h0 => ?rest5))) (fun D0 S0 H0 h0 => ?rest4))) (fun D0 S0 H0 h0 => ?rest3)))))), ?_⟩
  case rest8 =>
    obtain ⟨v, q, ys, v5, bad, rfl, hq, hL, hb, _, kr⟩ := h0
    exact ⟨_, rfl, kr _ _ bad ⟨q, ys, rfl, hq, hL⟩ (hb (by omega))⟩
  case rest7 =>
    obtain ⟨v, q, ys, v5, bad, rfl, hq, hL, hb, he, kr⟩ := h0
    refine ⟨_, rfl, rfl, _, rfl, ?_⟩
    refine ite2 (fun z => ?_) (fun z => ?_)
    · have z' : wy = 7 := V.int.inj (of_decide_eq_true z)
      have e := he (by omega)
      subst e
      obtain ⟨c, hc⟩ : ∃ c, bad[x]? = some c := ⟨_, List.getElem?_eq_getElem hx⟩
      obtain ⟨y, hy, t, c1, c2, rfl, ht, h1, h2⟩ := hL.2 x c hc
      obtain ⟨al1, al2⟩ := g.al c (List.mem_of_getElem? hc)
      have yl := hL.1
      refine ⟨_, rfl, _, rfl, q, _, _, _, rfl, rfl, SqL.of hq, atI_nat hy, t, _, 0, _, rfl, rfl, SqT.of ht, at0, _, rfl, _, rfl, q, _, _, _, rfl, rfl, SqL.of hq, atI_nat hy, t, _, 1, _, rfl, rfl, SqT.of ht, at1, _, rfl, c2, _, rfl, SqL.of h2, fun p hp => ?_⟩
      have ecut : cutV (c.2.map V.int) (some 1) none = (c.2.drop 1).map V.int := (cut_hi (c := 1) (by rw [List.length_map, al1]; exact g1)).trans (List.map_drop ..).symm
      rw [ecut]
      have sp := same_new hp (.lst ((c.2.drop 1).map V.int))
      refine ⟨(by show 2 ≤ sizeLine; decide), fun t5 ht5 => ?_⟩
      have st := same_new ht5 (.tup [.ref c1, .ref p])
      have s2 := sp.trans st
      refine ⟨_, rfl, _, rfl, q, ys, _, x, rfl, rfl, s2 _ _ hq, ixN_nat (by omega), ?_⟩
      have hL2 := hL.imp (R' := ColAt) fun _ _ y => y.mono s2
      have hn : ColAt (upd (upd H0 p (.lst ((c.2.drop 1).map V.int))) t5 (.tup [.ref c1, .ref p])) (.ref t5) (c.1, c.2.drop 1) := ⟨t5, c1, p, rfl, upd_same, s2 _ _ h1, st _ _ upd_same⟩
      have ne := fun (a : Addr) (ns : List Int) (h : (upd (upd H0 p (.lst ((c.2.drop 1).map V.int))) t5 (.tup [.ref c1, .ref p])) a = some (.lst (ns.map V.int))) => col_ne hL2 g0 (s2 _ _ hq) h
      refine ⟨v, q, _, _, bad.set x (c.1, c.2.drop 1), rfl, upd_same, (LsAt.set hL2 hn).imp fun _ _ y => y.put ne (s2 _ _ hq), fun _ => ?_, fun e => by omega, kr⟩
      refine bad_col (mem_at hx) ?_
      show (c.2.drop 1).length = 0 ∨ 3 < (c.2.drop 1).length ∨ c.1.length + 1 ≠ (c.2.drop 1).length
      rw [List.length_drop]; omega
    · have z' : ¬ wy = 7 := fun e => z (decide_eq_true (congrArg V.int e))
      exact ⟨v, q, ys, _, bad, rfl, hq, hL, fun e => hb (by omega), fun e => by omega, kr⟩
  case rest6 =>
    obtain ⟨v, q, ys, v5, bad, rfl, hq, hL, hb, he, kr⟩ := h0
    refine ⟨_, rfl, rfl, _, rfl, ?_⟩
    refine ite2 (fun z => ?_) (fun z => ?_)
    · have z' : wy = 6 := V.int.inj (of_decide_eq_true z)
      have e := he (by omega)
      subst e
      have yl := hL.1
      obtain ⟨c, hc⟩ : ∃ c, bad[0]? = some c := ⟨_, List.getElem?_eq_getElem g0⟩
      obtain ⟨y, hy, t, c1, c2, rfl, ht, h1, h2⟩ := hL.2 0 c hc
      obtain ⟨al1, al2⟩ := g.al c (List.mem_of_getElem? hc)
      refine ⟨_, rfl, q, _, _, _, rfl, rfl, SqL.of hq, atI_nat (j := 0) hy, t, _, 1, _, rfl, rfl, SqT.of ht, at1, c2, _, rfl, .inl (SqL.of h2), _, _, rfl, rfl, (by show (0 : Int) < 3; decide), ?_⟩
      have eo : (((c.2.map V.int).length : Nat) : Int) % 3 = ((r % 3 : Nat) : Int) := by rw [List.length_map, al1]; omega
      simp only [eo]
      have o3 : r % 3 < 3 := Nat.mod_lt _ (by decide)
      generalize hoo : r % 3 = oo at o3
      have em := Int.emod_nonneg mo (show (2 : Int) ≠ 0 by decide)
      have em2 := Int.emod_lt_of_pos mo (show (0 : Int) < 2 by decide)
      obtain ⟨k, ek⟩ : ∃ k : Nat, (x : Int) + mo % 2 = (k : Int) := ⟨((x : Int) + mo % 2).toNat, by omega⟩
      refine ⟨_, rfl, .inl ⟨rfl, _, SqL.of hq⟩, _, rfl, _, rfl, _, _, rfl, rfl, (by show (0 : Int) < 2; decide), _, _, rfl, rfl, ?_⟩
      simp only [ek]
      refine ⟨_, rfl, (by show 1 ≤ sizeLine; decide), fun p1 hp1 => ?_⟩
      have s1 := same_new hp1 (.lst [.int mo])
      refine ⟨_, rfl, p1, (oo : Int), [.int mo], rfl, rfl, upd_same, by omega, by omega, Nat.le_of_lt (small1000 (by show 1 * ((oo : Int)).toNat ≤ 1000; omega)), fun p2 hp2 => ?_⟩
      rw [Int.toNat_natCast, rep_one]
      have s2 := s1.trans (same_new hp2 (.lst ((List.replicate oo mo).map V.int)))
      have h2p : (upd (upd H0 p1 (.lst [.int mo])) p2 (.lst ((List.replicate oo mo).map V.int))) p2 = some (.lst ((List.replicate oo mo).map V.int)) := upd_same
      generalize upd (upd H0 p1 (.lst [.int mo])) p2 (.lst ((List.replicate oo mo).map V.int)) = H2 at s2 h2p
      refine ⟨(by show 1 ≤ sizeLine; decide), fun p3 hp3 => ?_⟩
      have s3 := same_new hp3 (.lst [.int 0])
      refine ⟨_, rfl, p3, (oo : Int), [.int 0], rfl, rfl, upd_same, by omega, by omega, Nat.le_of_lt (small1000 (by show 1 * ((oo : Int)).toNat ≤ 1000; omega)), fun p4 hp4 => ?_⟩
      rw [Int.toNat_natCast, rep_one]
      have s4 := s3.trans (same_new hp4 (.lst ((List.replicate oo (0 : Int)).map V.int)))
      have h4p : (upd (upd H2 p3 (.lst [.int 0])) p4 (.lst ((List.replicate oo (0 : Int)).map V.int))) p4 = some (.lst ((List.replicate oo (0 : Int)).map V.int)) := upd_same
      generalize upd (upd H2 p3 (.lst [.int 0])) p4 (.lst ((List.replicate oo (0 : Int)).map V.int)) = H4 at s4 h4p
      refine ⟨_, rfl, (by show 1 ≤ sizeLine; decide), fun p5 hp5 => ?_⟩
      have s5 := same_new hp5 (.lst [.int mo])
      refine ⟨p4, p5, _, _, rfl, rfl, SqL.of (s5 _ _ h4p), SqL.of upd_same, Nat.le_of_lt (small1000 (by rw [List.length_map, List.length_replicate]; show oo + 1 ≤ 1000; omega)), fun p6 hp6 => ?_⟩
      have ecat : (List.replicate oo (0 : Int)).map V.int ++ [V.int mo] = (List.replicate oo (0 : Int) ++ [mo]).map V.int := by rw [List.map_append]; rfl
      rw [ecat]
      have s6 := s5.trans (same_new hp6 (.lst ((List.replicate oo (0 : Int) ++ [mo]).map V.int)))
      have h6p : (upd (upd H4 p5 (.lst [.int mo])) p6 (.lst ((List.replicate oo (0 : Int) ++ [mo]).map V.int))) p6 = some (.lst ((List.replicate oo (0 : Int) ++ [mo]).map V.int)) := upd_same
      generalize upd (upd H4 p5 (.lst [.int mo])) p6 (.lst ((List.replicate oo (0 : Int) ++ [mo]).map V.int)) = H6 at s6 h6p
      refine ⟨(by show 2 ≤ sizeLine; decide), fun t7 ht7 => ?_⟩
      have s7 := same_new ht7 (.tup [.ref p2, .ref p6])
      have sA := s2.trans (s4.trans (s6.trans s7))
      have hn : ColAt (upd H6 t7 (.tup [.ref p2, .ref p6])) (.ref t7) (List.replicate oo mo, List.replicate oo (0 : Int) ++ [mo]) := ⟨t7, p2, p6, rfl, upd_same, s7 _ _ (s6 _ _ (s4 _ _ h2p)), s7 _ _ h6p⟩
      have hL7 := hL.imp (R' := ColAt) fun _ _ y => y.mono sA
      have hq7 := sA _ _ hq
      generalize upd H6 t7 (.tup [.ref p2, .ref p6]) = H7 at hn hL7 hq7
      refine ⟨q, ys, (k : Int), _, rfl, rfl, hq7, Int.natCast_nonneg _, by omega, small1000 (by omega), ?_⟩
      rw [Int.toNat_natCast]
      have ne := fun (a : Addr) (ns : List Int) (h : H7 a = some (.lst (ns.map V.int))) => col_ne hL7 g0 hq7 h
      refine ⟨v, q, _, _, bad.take k ++ (List.replicate oo mo, List.replicate oo (0 : Int) ++ [mo]) :: bad.drop k, rfl, upd_same, (LsAt.ins hL7 hn).imp fun _ _ y => y.put ne hq7, fun _ => ?_, fun e => by omega, kr⟩
      refine bad_two (c := c) (d := (List.replicate oo mo, List.replicate oo (0 : Int) ++ [mo])) ?_ (List.mem_append_right _ (List.mem_cons_self ..)) ?_
      · have hm : c ∈ bad.take k ++ bad.drop k := by rw [List.take_append_drop]; exact List.mem_of_getElem? hc
        rcases List.mem_append.mp hm with u | u
        · exact List.mem_append_left _ u
        · exact List.mem_append_right _ (List.mem_cons_of_mem _ u)
      · show c.2.length ≠ (List.replicate oo (0 : Int) ++ [mo]).length
        rw [List.length_append, List.length_replicate, al1]
        show r ≠ oo + 1
        omega
    · have z' : ¬ wy = 6 := fun e => z (decide_eq_true (congrArg V.int e))
      exact ⟨v, q, ys, _, bad, rfl, hq, hL, fun e => hb (by omega), fun e => he (by omega), kr⟩
  case rest5 =>
    obtain ⟨v, q, ys, v5, bad, rfl, hq, hL, hb, he, kr⟩ := h0
    refine ⟨_, rfl, rfl, _, rfl, ?_⟩
    refine ite2 (fun z => ?_) (fun z => ?_)
    · have z' : wy = 5 := V.int.inj (of_decide_eq_true z)
      have e := he (by omega)
      subst e
      obtain ⟨c, hc⟩ : ∃ c, bad[x]? = some c := ⟨_, List.getElem?_eq_getElem hx⟩
      obtain ⟨y, hy, t, c1, c2, rfl, ht, h1, h2⟩ := hL.2 x c hc
      obtain ⟨al1, al2⟩ := g.al c (List.mem_of_getElem? hc)
      refine ⟨_, rfl, _, rfl, q, _, _, _, rfl, rfl, SqL.of hq, atI_nat hy, t, _, 1, _, rfl, rfl, SqT.of ht, at1, .inl ⟨rfl, _, SqL.of h2⟩, _, rfl, c2, _, _, rfl, rfl, h2, small1000 (by rw [List.length_map]; omega), ?_⟩
      have ea : c.2.map V.int ++ [V.int mo] = (c.2 ++ [mo]).map V.int := by rw [List.map_append]; rfl
      rw [ea]
      have nq : q ≠ c2 := (col_ne hL g0 hq h2).symm
      have n12 : c1 ≠ c2 := fun e => by
        rw [e, h2] at h1
        have := vint_inj (show c.2.map V.int = c.1.map V.int by injection h1 with u; injection u)
        rw [this] at al1; omega
      have hn : ColAt (upd H0 c2 (.lst ((c.2 ++ [mo]).map V.int))) (.ref t) (c.1, c.2 ++ [mo]) := ⟨t, c1, c2, rfl, by rw [upd_ne (fun y => by rw [y, h2] at ht; cases ht)]; exact ht, by rw [upd_ne n12]; exact h1, upd_same⟩
      have hA := LsAt.ofAll (H := upd H0 c2 (.lst ((c.2 ++ [mo]).map V.int))) (ys := ys) fun i y hi => by
        obtain ⟨d, hd, hD⟩ := hL.get hi
        exact hD.grow h2
      refine ⟨v, q, ys, _, _, rfl, by rw [upd_ne nq]; exact hq, hA, fun _ => ?_, fun e => by omega, kr⟩
      refine bad_col (c := (c.1, c.2 ++ [mo])) ?_ ?_
      · refine List.mem_map.mpr ⟨.ref t, List.mem_of_getElem? hy, colOf_is hn⟩
      · show (c.2 ++ [mo]).length = 0 ∨ 3 < (c.2 ++ [mo]).length ∨ c.1.length + 1 ≠ (c.2 ++ [mo]).length
        rw [List.length_append]
        show _ ∨ _ ∨ c.1.length + 1 ≠ c.2.length + 1
        omega
    · have z' : ¬ wy = 5 := fun e => z (decide_eq_true (congrArg V.int e))
      exact ⟨v, q, ys, _, bad, rfl, hq, hL, fun e => hb (by omega), fun e => he (by omega), kr⟩
  case rest4 =>
    obtain ⟨v, q, ys, v5, bad, rfl, hq, hL, hb, he, kr⟩ := h0
    refine ⟨_, rfl, rfl, _, rfl, ?_⟩
    refine ite2 (fun z => ?_) (fun z => ?_)
    · have z' : wy = 4 := V.int.inj (of_decide_eq_true z)
      have e := he (by omega)
      subst e
      obtain ⟨c, hc⟩ : ∃ c, bad[x]? = some c := ⟨_, List.getElem?_eq_getElem hx⟩
      obtain ⟨y, hy, t, c1, c2, rfl, ht, h1, h2⟩ := hL.2 x c hc
      obtain ⟨al1, al2⟩ := g.al c (List.mem_of_getElem? hc)
      refine ⟨_, rfl, _, rfl, q, _, _, _, rfl, rfl, SqL.of hq, atI_nat hy, t, _, 0, _, rfl, rfl, SqT.of ht, at0, .inl ⟨rfl, _, SqL.of h1⟩, _, rfl, c1, _, _, rfl, rfl, h1, small1000 (by rw [List.length_map]; omega), ?_⟩
      have ea : c.1.map V.int ++ [V.int mo] = (c.1 ++ [mo]).map V.int := by rw [List.map_append]; rfl
      rw [ea]
      have nq : q ≠ c1 := (col_ne hL g0 hq h1).symm
      have n12 : c2 ≠ c1 := fun e => by
        rw [e, h1] at h2
        have := vint_inj (show c.1.map V.int = c.2.map V.int by injection h2 with u; injection u)
        rw [← this] at al1; omega
      have hn : ColAt (upd H0 c1 (.lst ((c.1 ++ [mo]).map V.int))) (.ref t) (c.1 ++ [mo], c.2) := ⟨t, c1, c2, rfl, by rw [upd_ne (fun y => by rw [y, h1] at ht; cases ht)]; exact ht, upd_same, by rw [upd_ne n12]; exact h2⟩
      have hA := LsAt.ofAll (H := upd H0 c1 (.lst ((c.1 ++ [mo]).map V.int))) (ys := ys) fun i y hi => by
        obtain ⟨d, hd, hD⟩ := hL.get hi
        exact hD.grow h1
      refine ⟨v, q, ys, _, _, rfl, by rw [upd_ne nq]; exact hq, hA, fun _ => ?_, fun e => by omega, kr⟩
      refine bad_col (c := (c.1 ++ [mo], c.2)) ?_ ?_
      · refine List.mem_map.mpr ⟨.ref t, List.mem_of_getElem? hy, colOf_is hn⟩
      · show c.2.length = 0 ∨ 3 < c.2.length ∨ (c.1 ++ [mo]).length + 1 ≠ c.2.length
        rw [List.length_append]
        show _ ∨ _ ∨ c.1.length + 1 + 1 ≠ c.2.length
        omega
    · have z' : ¬ wy = 4 := fun e => z (decide_eq_true (congrArg V.int e))
      exact ⟨v, q, ys, _, bad, rfl, hq, hL, fun e => hb (by omega), fun e => he (by omega), kr⟩
  case rest3 =>
    obtain ⟨v, q, ys, v5, bad, rfl, hq, hL, hb, he, kr⟩ := h0
    refine ⟨_, rfl, rfl, _, rfl, ?_⟩
    refine ite2 (fun z => ?_) (fun z => ?_)
    · have z' : wy = 3 := V.int.inj (of_decide_eq_true z)
      have e := he (by omega)
      subst e
      have yl := hL.1
      refine ⟨_, rfl, q, rfl, ⟨_, SqL.of hq⟩, comp_list (K := K) (xs := ys) (fun i zs H2 => Same H0 H2 ∧ LsAt ColAt H2 zs ((bad.take i).map fun _ => ([1, 0, -1], [0, 1, 2, mo]))) (Nat.le_of_lt (small1000 (by omega))) ⟨fun _ _ e => e, LsAt.nil⟩ (fun i zs H2 _ z => SqL.of (z.1 _ _ hq)) ?_ ?_⟩
      · rintro i y zs H2 hy ⟨s2, hZ⟩
        obtain ⟨d, hd, _⟩ := hL.get hy
        refine ⟨_, rfl, (by show 3 ≤ sizeLine; decide), fun p1 hp1 => ?_⟩
        have s3 := same_new hp1 (.lst [.int 1, .int 0, .int (-1)])
        refine ⟨_, rfl, (by show 4 ≤ sizeLine; decide), fun p2 hp2 => ?_⟩
        have s4 := same_new hp2 (.lst [.int 0, .int 1, .int 2, .int mo])
        refine ⟨(by show 2 ≤ sizeLine; decide), fun t5 ht5 => ?_⟩
        have s5 := same_new ht5 (.tup [.ref p1, .ref p2])
        have s35 := s3.trans (s4.trans s5)
        refine ⟨s2.trans s35, ?_⟩
        rw [List.take_add_one, hd, List.map_append]
        exact (hZ.imp fun _ _ y => y.mono s35).snoc ⟨t5, p1, p2, rfl, upd_same, s5 _ _ (s4 _ _ upd_same), s5 _ _ upd_same⟩
      rintro zs H2 _ ⟨s2, hZ⟩ D hD
      rw [yl, List.take_length] at hZ
      have sD := same_new hD (.lst zs)
      refine ⟨v, D, zs, _, _, rfl, upd_same, hZ.imp fun _ _ y => y.mono sD, fun _ => ?_, fun e => by omega, kr⟩
      refine bad_col (c := ([1, 0, -1], [0, 1, 2, mo])) ?_ (.inr (.inl (by show 3 < 4; decide)))
      exact List.mem_map.mpr ⟨bad[0], List.getElem_mem g0, rfl⟩
    · have z' : ¬ wy = 3 := fun e => z (decide_eq_true (congrArg V.int e))
      exact ⟨v, q, ys, _, bad, rfl, hq, hL, fun e => hb (by omega), fun e => he (by omega), kr⟩
  refine ⟨_, rfl, v, pat, rfl, hP, by omega, fun u1 H1 s1 hu1 => ?_⟩
  obtain ⟨q, ys, rfl, hq, hL⟩ := hu1
  have yl := hL.1
  refine ⟨_, rfl, rfl, _, rfl, ?_⟩
  refine ite2 (fun z => ?_) (fun z => ?_)
  · refine ⟨(by show 0 ≤ sizeLine; decide), fun p hp => ?_⟩
    exact kk _ _ [] ⟨p, [], rfl, upd_same, LsAt.nil⟩ fun r g => absurd g.p0 (Nat.lt_irrefl _)
  have z0 : ¬ wy = 0 := fun e => z (decide_eq_true (congrArg V.int e))
  refine ⟨_, rfl, rfl, _, rfl, ?_⟩
  refine ite2 (fun z => ?_) (fun z => ?_)
  · obtain ⟨m, em⟩ : ∃ m : Nat, mo = (m : Int) := ⟨mo.toNat, by omega⟩
    subst em
    have e7 : (7 : Int) + (m : Int) = ((7 + m : Nat) : Int) := by push_cast; rfl
    refine ⟨_, rfl, _, _, rfl, rfl, ((7 + m : Nat) : Int), congrArg (fun q => [V.int q]) e7, by omega, by omega, ?_⟩
    refine comp_range (fun i zs H2 => H2 = H1 ∧ LsAt ColAt H1 zs ((List.range i).map fun j => colAt pat j)) (Nat.le_of_lt (small1000 (by rw [Int.toNat_natCast]; omega))) ⟨rfl, LsAt.nil⟩ ?_ ?_
    · rintro i zs H2 hi ⟨rfl, hZ⟩
      have e0 : (0 : Int) + (i : Int) = (i : Int) := Int.zero_add _
      rw [e0]
      have lt : i % pat.length < pat.length := Nat.mod_lt _ g0
      obtain ⟨d, hd⟩ : ∃ d, pat[i % pat.length]? = some d := ⟨_, List.getElem?_eq_getElem lt⟩
      have ed : colAt pat i = d := by unfold colAt; rw [List.getD_eq_getElem?_getD, hd]; rfl
      obtain ⟨y, hy, hC⟩ := hL.2 _ d hd
      have ec : (i : Int) % (ys.length : Int) = ((i % pat.length : Nat) : Int) := by rw [yl]; push_cast; rfl
      refine ⟨_, rfl, _, rfl, _, rfl, q, _, rfl, .inl (SqL.of hq), _, _, rfl, rfl, (by show (0 : Int) < (ys.length : Int); omega), q, _, _, y, rfl, rfl, SqL.of hq, (by rw [ec]; exact atI_nat hy), rfl, ?_⟩
      rw [rng_succ]
      exact hZ.snoc (x := colAt pat i) (ed ▸ hC)
    rintro zs H2 _ ⟨rfl, hZ⟩ D hD
    have sD := same_new hD (.lst zs)
    refine kk _ _ _ ⟨D, zs, rfl, upd_same, hZ.imp fun _ _ y => y.mono sD⟩ fun r g => ?_
    have := g.p6
    rw [List.length_map, List.length_range, Int.toNat_natCast] at this
    omega
  have z1 : ¬ wy = 1 := fun e => z (decide_eq_true (congrArg V.int e))
  refine ⟨_, rfl, rfl, _, rfl, ?_⟩
  refine ite2 (fun z => ?_) (fun z => ?_)
  · have z2 : wy = 2 := V.int.inj (of_decide_eq_true z)
    refine ⟨(by show 0 ≤ sizeLine; decide), fun p1 hp1 => ?_⟩
    have s2 := same_new hp1 (.lst [])
    refine ⟨(by show 0 ≤ sizeLine; decide), fun p2 hp2 => ?_⟩
    have s3 := same_new hp2 (.lst [])
    refine ⟨(by show 2 ≤ sizeLine; decide), fun t ht => ?_⟩
    have s4 := same_new ht (.tup [.ref p1, .ref p2])
    have sA := s2.trans (s3.trans s4)
    have hn : ColAt (upd (upd (upd H1 p1 (.lst [])) p2 (.lst [])) t (.tup [.ref p1, .ref p2])) (.ref t) ([], []) := ⟨t, p1, p2, rfl, upd_same, s4 _ _ (s3 _ _ upd_same), s4 _ _ upd_same⟩
    have hL4 := hL.imp (R' := ColAt) fun _ _ y => y.mono sA
    have hq4 := sA _ _ hq
    generalize upd (upd (upd H1 p1 (.lst [])) p2 (.lst [])) t (.tup [.ref p1, .ref p2]) = H4 at hn hL4 hq4
    refine ⟨_, rfl, _, rfl, q, ys, _, x, rfl, rfl, hq4, ixN_nat (by omega), ?_⟩
    have ne := fun (a : Addr) (ns : List Int) (h : H4 a = some (.lst (ns.map V.int))) => col_ne hL4 g0 hq4 h
    refine ⟨v, q, _, _, pat.set x ([], []), rfl, upd_same, (LsAt.set hL4 hn).imp fun _ _ y => y.put ne hq4, fun _ => ?_, fun e => by omega, kk⟩
    exact bad_col (mem_at hx) (.inl rfl)
  · have z2 : ¬ wy = 2 := fun e => z (decide_eq_true (congrArg V.int e))
    exact ⟨v, q, ys, _, pat, rfl, hq, hL, fun e => by omega, fun _ => rfl, kk⟩
end
end KS


namespace KS
open PySem L2
local macro_rules | `(tactic| walk_at "cc") => `(tactic| first | exact ⟨by decide, by decide⟩ | (show (0 : Int) < _; decide) | (show (0 : Int) < _; omega) | (show (0 : Int) ≤ _; omega) | exact ⟨by decide, by decide, by decide⟩ | exact ⟨by omega, by omega, by decide⟩ | exact Or.inl ⟨by decide, by decide⟩ | exact Or.inl ⟨by omega, by omega⟩)
local macro_rules | `(tactic| walk_at "rd") => `(tactic| repeat (first | refine ⟨_, rfl, ?_⟩ | refine ⟨_, _, rfl, rfl, ?_⟩ | refine ⟨rfl, ?_⟩ | (refine ⟨?cc, ?_⟩; (case cc => walk_at "cc"))))

def restA (K : PySem.W.Frag) (a : Addr) (ns : List Int) : TS := fun D σ H => ∃ (fi wy : Int) (r : Nat), σ = [some (.ref a), some (.int fi), some (.int wy), some (.int (r : Int)), none, none, none, none, none, none, none, none] ∧ SqL K H a (ns.map V.int) ∧ 0 ≤ wy ∧ wy < 10 ∧ 1 ≤ r ∧ r ≤ 3 ∧ ∀ H', D.rt (.bl true) H'
def restB (K : PySem.W.Frag) (a : Addr) (ns : List Int) : TS := fun D σ H => ∃ (fi wy mo : Int) (r : Nat) (vp : V) (pat : List Col), σ = [some (.ref a), some (.int fi), some (.int wy), some (.int (r : Int)), some vp, some (.int mo), none, none, none, none, none, none] ∧ SqL K H a (ns.map V.int) ∧ PatAt H vp pat ∧ Good r pat ∧ 0 ≤ mo ∧ mo ≤ 4 ∧ ∀ H', D.rt (.bl true) H'
section
variable {P : Program} {w : World} {K : PySem.W.Frag} {mg : Str → Option Value} {base : Heap}
theorem sc_law : FnScope ["script", "first", "way", "rows", "pattern", "more", "bad", "which", "far", "columns", "good", "modulus"] ["script"] (defScope s_law) := ⟨rfl, rfl, rfl, by decide +kernel, rfl, by decide +kernel, by decide +kernel⟩
theorem ok_law {f f1 f2 f3 f4 f5 B : Addr} {fd fd1 fd2 fd3 fd4 fd5 : FuncData} (F : Fun K "law" "law" s_law f fd) (T : Txt mg) (G_law_cell : Cal P w K mg base 1 "_law_cell" ["script", "k"] (spCell K) f1 fd1) (G_law_pattern : Cal P w K mg base 2 "_law_pattern" ["script", "rows", "period", "mode"] (spPat K) f2 fd2) (G_law_spoiled : Cal P w K mg base 2 "_law_spoiled" ["pattern", "way", "at", "more"] spSpoil f3 fd3) (G_law_refused : Cal P w K mg base 9 "_law_refused" ["which", "pattern", "columns", "modulus"] spRefd f4 fd4) (G_strip_least : CalX P w K mg base 7 "strip_least" ["pattern", "columns", "modulus"] (spStripX B) f5 fd5) : FnOk P w K mg base CX0 10 f fd ["script"] (spLaw K) := by
  refine F.ok sc_law (fun vs H Q E h => ?_) (fun cdv A outer s H vs Q E hr h => ?_)
  · obtain ⟨a, ns, rfl, _⟩ := h
    rfl
  obtain ⟨a, ns, rfl, hS, h63, kl⟩ := h
  refine ⟨_, (pss_cons (ps_set (i := 1) sc_law.nd rfl (Or.inl rfl) (pe_call G_law_cell.ok (hr.mono (by decide)) rfl G_law_cell.mg G_law_cell.kp G_law_cell.bn .nil pass0 (pa_cons (pv 0) (pa_cons pe_int pa_nil))))
      (pss_cons (ps_set (i := 2) sc_law.nd rfl (Or.inl rfl) (pe_op op_mod (pe_op op_fdiv (pv 1) pe_int) pe_int))
      (pss_cons (ps_set (i := 3) sc_law.nd rfl (Or.inl rfl) (pe_op op_add pe_int (pe_op op_mod (pv 1) pe_int)))
      (pss_cons (ps_if (pt_cmpR op_gt (pv 2) pe_int (nomark _)) (pss_one (ps_set (i := 3) sc_law.nd rfl (Or.inl rfl) pe_int)) pss_nil)
      (pss_imp (t2 := restA K a ns) (pss_cons (ps_set (i := 4) sc_law.nd rfl (Or.inl rfl) (pe_call G_law_pattern.ok (hr.mono (by decide)) rfl G_law_pattern.mg G_law_pattern.kp G_law_pattern.bn .nil pass0 (pa_cons (pv 0) (pa_cons (pv 3) (pa_cons (pe_op op_add pe_int (pe_op op_mod (pe_op op_fdiv (pv 1) pe_int) pe_int)) (pa_cons pe_int pa_nil))))))
      (pss_cons (ps_set (i := 5) sc_law.nd rfl (Or.inl rfl) (pe_op op_mod (pe_callB (call_sum rfl) (by rfl) T.n_sum bt_sum (pa_cons (pv 0) pa_nil)) pe_int))
      (pss_cons (ps_if (pt_cmpR op_lt (pv 2) pe_int (nomark _)) (pss_cons (ps_set (i := 6) sc_law.nd rfl (Or.inl rfl) (pe_call G_law_spoiled.ok (hr.mono (by decide)) rfl G_law_spoiled.mg G_law_spoiled.kp G_law_spoiled.bn .nil pass0 (pa_cons (pv 4) (pa_cons (pv 2) (pa_cons (pe_op op_mod (pe_op op_fdiv (pe_callB (call_sum rfl) (by rfl) T.n_sum bt_sum (pa_cons (pv 0) pa_nil)) pe_int) (pe_callB call_len_seq (by rfl) T.n_len bt_len (pa_cons (pv 4) pa_nil))) (pa_cons (pv 5) pa_nil))))))
      (pss_cons (ps_for PassesOwn.never rfl (pi_list (pe_lst (pa_cons pe_int (pa_cons pe_int (pa_cons pe_int pa_nil))))) (pg_name (i := 7) sc_law.nd rfl (Or.inl rfl)) (pss_one (ps_if (pt_not (pt_val (pe_call G_law_refused.ok (hr.mono (by decide)) rfl G_law_refused.mg G_law_refused.kp G_law_refused.bn .nil pass0 (pa_cons (pv 7) (pa_cons (pv 6) (pa_cons (pe_op op_add pe_int (pv 5)) (pa_cons (pe_op op_add pe_int (pv 5)) pa_nil))))))) (pss_one (ps_ret pe_bl)) pss_nil)))
      (pss_one (ps_ret pe_bl)))) pss_nil)
      (pss_imp (t2 := restB K a ns) (pss_cons (ps_set (i := 8) sc_law.nd rfl (Or.inl rfl) (pe_op op_mod (pe_op op_fdiv (pe_callB (call_sum rfl) (by rfl) T.n_sum bt_sum (pa_cons (pv 0) pa_nil)) pe_int) (pe_op op_pow pe_int pe_int)))
      (pss_cons (ps_if (pt_cmpR op_eq (pv 2) pe_int (nomark _)) (pss_cons (ps_set (i := 9) sc_law.nd rfl (Or.inl rfl) (pe_ix ix_list (pe_lst (pa_cons pe_int (pa_cons (pe_op op_sub (pe_un un_neg pe_int) (pv 8)) (pa_cons (pe_op op_add (pe_op op_pow pe_int pe_int) pe_int) (pa_cons (pe_op op_add (pe_op op_add (pe_op op_pow pe_int pe_int) pe_int) (pv 8)) pa_nil))))) (pe_op op_mod (pv 5) pe_int) (fun _ _ => rfl)))
      (pss_cons (ps_set (i := 10) sc_law.nd rfl (Or.inl rfl) (pe_call G_strip_least.ok (hr.mono (by decide)) rfl G_strip_least.mg G_strip_least.kp G_strip_least.bn .nil pass0r (pa_cons (pv 4) (pa_cons (pe_ix ix_list (pe_lst (pa_cons pe_int (pa_cons pe_int (pa_cons (pe_op op_pow pe_int pe_int) (pa_cons (pe_op op_pow pe_int pe_int) pa_nil))))) (pe_op op_mod (pv 5) pe_int) (fun _ _ => rfl)) (pa_cons (pe_op op_pow pe_int pe_int) pa_nil)))))
      (pss_one (ps_ret (pe_and (pe_call G_law_refused.ok (hr.mono (by decide)) rfl G_law_refused.mg G_law_refused.kp G_law_refused.bn .nil pass0 (pa_cons pe_int (pa_cons (pv 4) (pa_cons (pv 9) (pa_cons (pe_op op_add pe_int (pv 5)) pa_nil))))) (pe_one (pe_callB call_isi (by rfl) T.n_isinstance bt_isinstance (pa_cons (pv 10) (pa_cons (pe_bltn (v := .ty "tuple") rfl T.n_tuple bt_tuple rfl) pa_nil))))))))) pss_nil)
      (pss_cons (ps_set (i := 11) sc_law.nd rfl (Or.inl rfl) (pe_ix ix_list (pe_lst (pa_cons pe_int (pa_cons pe_int (pa_cons (pe_op op_sub (pe_un un_neg pe_int) (pv 8)) (pa_cons (pe_op op_add (pe_op op_pow pe_int pe_int) pe_int) (pa_cons (pe_op op_add (pe_op op_add (pe_op op_pow pe_int pe_int) pe_int) (pv 8)) pa_nil)))))) (pv 5) (fun _ _ => rfl)))
      (pss_cons (ps_set (i := 10) sc_law.nd rfl (Or.inl rfl) (pe_call G_strip_least.ok (hr.mono (by decide)) rfl G_strip_least.mg G_strip_least.kp G_strip_least.bn .nil pass0r (pa_cons (pv 4) (pa_cons (pe_op op_add pe_int (pe_op op_mod (pv 8) pe_int)) (pa_cons (pe_ix ix_list (pe_lst (pa_cons pe_int (pa_cons pe_int (pa_cons pe_int (pa_cons (pe_op op_pow pe_int pe_int) (pa_cons (pe_op op_pow pe_int pe_int) pa_nil)))))) (pv 5) (fun _ _ => rfl)) pa_nil)))))
      (pss_one (ps_ret (pe_and (pe_call G_law_refused.ok (hr.mono (by decide)) rfl G_law_refused.mg G_law_refused.kp G_law_refused.bn .nil pass0 (pa_cons pe_int (pa_cons (pv 4) (pa_cons (pe_op op_add pe_int (pe_op op_mod (pv 8) pe_int)) (pa_cons (pv 11) pa_nil))))) (pe_one (pe_callB call_isi (by rfl) T.n_isinstance bt_isinstance (pa_cons (pv 10) (pa_cons (pe_bltn (v := .ty "tuple") rfl T.n_tuple bt_tuple rfl) pa_nil))))))))))) (fun D0 S0 H0 h0 => ?rest2))))) (fun D0 S0 H0 h0 => ?rest1)))))), ?_⟩
  case rest2 =>
    obtain ⟨fi, wy, mo, r, vp, pat, rfl, hS0, hP, g, m0, m4, kr⟩ := h0
    have f0 := Int.emod_nonneg (ns.sum / 5) (show (10 ^ (30 : Int).toNat : Int) ≠ 0 by decide)
    refine ⟨_, rfl, a, ns, rfl, hS0, _, _, rfl, rfl, ⟨by decide, by decide⟩, _, _, rfl, rfl, ⟨by decide, by decide, by decide⟩, _, _, rfl, rfl, (by show (0 : Int) < 10 ^ (30 : Int).toNat; decide), ?_⟩
    obtain ⟨fr, efr⟩ : ∃ fr, ns.sum / 5 % 10 ^ (30 : Int).toNat = fr := ⟨_, rfl⟩
    rw [efr] at f0
    simp only [efr]
    refine ⟨_, rfl, rfl, _, rfl, ?_⟩
    refine ite2 (fun z => ?_) (fun z => ?_)
    · have i0 := Int.emod_nonneg mo (show (4 : Int) ≠ 0 by decide)
      have i4 := Int.emod_lt_of_pos mo (show (0 : Int) < 4 by decide)
      have t18 : (10 : Int) ^ (18 : Int).toNat = 10 ^ 18 := rfl
      obtain ⟨c, lc, bc⟩ : ∃ c : Int, atI [V.int 0, V.int (-1 - fr), V.int (10 ^ (18 : Int).toNat + 1), V.int (10 ^ (18 : Int).toNat + 1 + fr)] (mo % 4) = some (V.int c) ∧ ¬ (1 ≤ c ∧ c ≤ 10 ^ 18) := by
        generalize mo % 4 = i at i0 i4
        have : i = 0 ∨ i = 1 ∨ i = 2 ∨ i = 3 := by omega
        rcases this with rfl | rfl | rfl | rfl
        · exact ⟨_, rfl, by omega⟩
        · exact ⟨_, rfl, by omega⟩
        · exact ⟨_, rfl, by rw [t18]; omega⟩
        · exact ⟨_, rfl, by rw [t18]; omega⟩
      obtain ⟨k, lk, hk⟩ : ∃ k : Nat, atI [V.int 1, V.int 1, V.int (10 ^ (18 : Int).toNat), V.int (10 ^ (18 : Int).toNat)] (mo % 4) = some (V.int ((k : Int) + 1)) ∧ k < 10 ^ 18 := by
        generalize mo % 4 = i at i0 i4
        have : i = 0 ∨ i = 1 ∨ i = 2 ∨ i = 3 := by omega
        rcases this with rfl | rfl | rfl | rfl
        · exact ⟨0, rfl, by decide⟩
        · exact ⟨0, rfl, by decide⟩
        · exact ⟨10 ^ 18 - 1, rfl, by decide⟩
        · exact ⟨10 ^ 18 - 1, rfl, by decide⟩
      refine ⟨_, rfl, _, rfl, _, _, rfl, rfl, _, _, rfl, rfl, ⟨by decide, by decide, by decide⟩, _, _, rfl, rfl, _, _, rfl, rfl, ⟨by decide, by decide, by decide⟩, _, _, rfl, rfl, _, rfl, _, _, rfl, rfl, (by show 4 ≤ sizeLine; decide), fun q1 hq1 => ?_⟩
      have s1 := same_new hq1 (.lst [V.int 0, V.int (-1 - fr), V.int (10 ^ (18 : Int).toNat + 1), V.int (10 ^ (18 : Int).toNat + 1 + fr)])
      refine ⟨_, rfl, _, _, rfl, rfl, (by show (0 : Int) < 4; decide), q1, _, _, _, rfl, rfl, SqL.of upd_same, lc, ?_⟩
      refine ⟨_, rfl, _, _, rfl, rfl, ⟨by decide, by decide, by decide⟩, _, _, rfl, rfl, ⟨by decide, by decide, by decide⟩, (by show 4 ≤ sizeLine; decide), fun q2 hq2 => ?_⟩
      have s2 := same_new hq2 (.lst [V.int 1, V.int 1, V.int (10 ^ (18 : Int).toNat), V.int (10 ^ (18 : Int).toNat)])
      have s12 := s1.trans s2
      refine ⟨_, rfl, _, _, rfl, rfl, (by show (0 : Int) < 4; decide), q2, _, _, _, rfl, rfl, SqL.of upd_same, lk, _, _, rfl, rfl, ⟨by decide, by decide, by decide⟩, ?_⟩
      refine ⟨vp, pat, (k : Int) + 1, 10 ^ (9 : Int).toNat, rfl, hP.mono s12, .inl ⟨r, k, rfl, g, hk, by decide, by decide, fun u3 H3 s3 hu3 => ?_⟩⟩
      obtain ⟨t, rfl, ht⟩ := hu3
      refine ⟨_, rfl, _, rfl, _, rfl, _, _, rfl, rfl, vp, pat, 2, c, 2 + mo, rfl, hP.mono (s12.trans s3), .inr (.inr rfl), .inr ⟨rfl, ⟨r, g⟩, .inl bc⟩, fun H4 s4 => ?_⟩
      refine ⟨_, rfl, iteT ?_⟩
      exact ⟨_, rfl, _, _, _, _, _, rfl, TyOf.tup (s4 _ _ ht), Or.inl ⟨_, rfl, rfl⟩, kit_tt K, kr _⟩
    · have t9 : (10 : Int) ^ (9 : Int).toNat = 10 ^ 9 := rfl
      obtain ⟨c, lc, bc⟩ : ∃ c : Int, atI [V.int 1, V.int 0, V.int (-1 - fr), V.int (10 ^ (9 : Int).toNat + 1), V.int (10 ^ (9 : Int).toNat + 1 + fr)] mo = some (V.int c) ∧ ¬ (2 ≤ c ∧ c ≤ 10 ^ 9) := by
        have : mo = 0 ∨ mo = 1 ∨ mo = 2 ∨ mo = 3 ∨ mo = 4 := by omega
        rcases this with rfl | rfl | rfl | rfl | rfl
        · exact ⟨_, rfl, by omega⟩
        · exact ⟨_, rfl, by omega⟩
        · exact ⟨_, rfl, by omega⟩
        · exact ⟨_, rfl, by rw [t9]; omega⟩
        · exact ⟨_, rfl, by rw [t9]; omega⟩
      obtain ⟨m, lm, m2, m9⟩ : ∃ m : Int, atI [V.int 2, V.int 2, V.int 2, V.int (10 ^ (9 : Int).toNat), V.int (10 ^ (9 : Int).toNat)] mo = some (V.int m) ∧ 2 ≤ m ∧ m ≤ 10 ^ 9 := by
        have : mo = 0 ∨ mo = 1 ∨ mo = 2 ∨ mo = 3 ∨ mo = 4 := by omega
        rcases this with rfl | rfl | rfl | rfl | rfl
        · exact ⟨2, rfl, by decide, by decide⟩
        · exact ⟨2, rfl, by decide, by decide⟩
        · exact ⟨2, rfl, by decide, by decide⟩
        · exact ⟨_, rfl, by decide, by decide⟩
        · exact ⟨_, rfl, by decide, by decide⟩
      have u0 := Int.emod_nonneg fr (show (6 : Int) ≠ 0 by decide)
      have u6 := Int.emod_lt_of_pos fr (show (0 : Int) < 6 by decide)
      have v0 := Int.emod_nonneg fr (show (9 : Int) ≠ 0 by decide)
      have v9 := Int.emod_lt_of_pos fr (show (0 : Int) < 9 by decide)
      have k18 : (fr % 6).toNat < 10 ^ 18 := by
        have : (10 : Nat) ^ 18 = 1000000000000000000 := by decide
        omega
      have c18 : 1 + fr % 9 ≤ 10 ^ 18 := by
        have : (10 : Int) ^ 18 = 1000000000000000000 := by decide
        omega
      refine ⟨_, rfl, _, rfl, _, _, rfl, rfl, _, _, rfl, rfl, ⟨by decide, by decide, by decide⟩, _, _, rfl, rfl, _, _, rfl, rfl, ⟨by decide, by decide, by decide⟩, _, _, rfl, rfl, _, rfl, _, _, rfl, rfl, (by show 5 ≤ sizeLine; decide), fun q1 hq1 => ?_⟩
      have s1 := same_new hq1 (.lst [V.int 1, V.int 0, V.int (-1 - fr), V.int (10 ^ (9 : Int).toNat + 1), V.int (10 ^ (9 : Int).toNat + 1 + fr)])
      refine ⟨_, rfl, q1, _, _, _, rfl, rfl, SqL.of upd_same, lc, ?_⟩
      refine ⟨_, rfl, _, rfl, _, _, rfl, rfl, (by show (0 : Int) < 6; decide), _, _, rfl, rfl, _, _, rfl, rfl, ⟨by decide, by decide, by decide⟩, _, _, rfl, rfl, ⟨by decide, by decide, by decide⟩, (by show 5 ≤ sizeLine; decide), fun q2 hq2 => ?_⟩
      have s2 := same_new hq2 (.lst [V.int 2, V.int 2, V.int 2, V.int (10 ^ (9 : Int).toNat), V.int (10 ^ (9 : Int).toNat)])
      have s12 := s1.trans s2
      refine ⟨_, rfl, q2, _, _, _, rfl, rfl, SqL.of upd_same, lm, ?_⟩
      refine ⟨vp, pat, 1 + fr % 6, m, rfl, hP.mono s12, .inl ⟨r, (fr % 6).toNat, by omega, g, k18, m2, m9, fun u3 H3 s3 hu3 => ?_⟩⟩
      obtain ⟨t, rfl, ht⟩ := hu3
      refine ⟨_, rfl, _, rfl, _, _, rfl, rfl, (by show (0 : Int) < 9; decide), _, _, rfl, rfl, _, rfl, vp, pat, 2, 1 + fr % 9, c, rfl, hP.mono (s12.trans s3), .inr (.inr rfl), .inr ⟨rfl, ⟨r, g⟩, .inr ⟨⟨by omega, c18⟩, bc⟩⟩, fun H4 s4 => ?_⟩
      refine ⟨_, rfl, iteT ?_⟩
      exact ⟨_, rfl, _, _, _, _, _, rfl, TyOf.tup (s4 _ _ ht), Or.inl ⟨_, rfl, rfl⟩, kit_tt K, kr _⟩
  case rest1 =>
    obtain ⟨fi, wy, r, rfl, hS0, w0, w10, r1, r3, kr⟩ := h0
    have b0 := Int.emod_nonneg (fi / 3) (show (6 : Int) ≠ 0 by decide)
    have b1 := Int.emod_lt_of_pos (fi / 3) (show (0 : Int) < 6 by decide)
    obtain ⟨p, ep⟩ : ∃ p : Nat, 1 + fi / 3 % 6 = (p : Int) := ⟨(1 + fi / 3 % 6).toNat, by omega⟩
    refine ⟨_, rfl, _, rfl, _, rfl, _, _, rfl, rfl, ⟨by decide, by decide⟩, _, _, rfl, rfl, (by show (0 : Int) < 6; decide), _, _, rfl, rfl, a, ns, r, p, 2, ?_, hS0, h63, r1, r3, by omega, by omega, by decide, by decide, fun vp H1 pat s1 hP hpl g => ?_⟩
    · show [V.ref a, V.int (r : Int), V.int (1 + fi / 3 % 6), V.int 2] = _
      rw [ep]
    have hS1 := s1.seq hS0
    have m0 := Int.emod_nonneg ns.sum (show (5 : Int) ≠ 0 by decide)
    have m5 := Int.emod_lt_of_pos ns.sum (show (0 : Int) < 5 by decide)
    refine ⟨_, rfl, a, ns, rfl, hS1, _, _, rfl, rfl, (by show (0 : Int) < 5; decide), ?_⟩
    obtain ⟨mo, emo⟩ : ∃ mo, ns.sum % 5 = mo := ⟨_, rfl⟩
    rw [emo] at m0 m5
    simp only [emo]
    refine ⟨_, rfl, _, _, rfl, rfl, _, rfl, ?_⟩
    refine ite2 (fun z => ?_) (fun z => ?_)
    · have z' : wy < 8 := of_decide_eq_true z
      obtain ⟨b, ys, rfl, hB, hL⟩ := id hP
      have yl := hL.1
      have g0 := g.p0
      have t0 := Int.emod_nonneg (ns.sum / 5) (show (ys.length : Int) ≠ 0 by omega)
      have t1 := Int.emod_lt_of_pos (ns.sum / 5) (show (0 : Int) < (ys.length : Int) by omega)
      refine ⟨_, rfl, _, rfl, _, rfl, a, ns, rfl, hS1, _, _, rfl, rfl, ⟨by decide, by decide⟩, _, rfl, b, _, rfl, .inl (SqL.of hB), _, _, rfl, rfl, (by show (0 : Int) < (ys.length : Int); omega), _, rfl, .ref b, r, pat, wy, ns.sum / 5 % (ys.length : Int), mo, rfl, hP, g, w0, z', t0, by omega, m0, by omega, fun vb H2 bad hb hbad => ?_⟩
      refine ⟨(by show 3 ≤ sizeLine; decide), fun q hq => ?_⟩
      have sq := same_new hq (.lst [.int 0, .int 1, .int 2])
      have hq1 : (upd H2 q (.lst [.int 0, .int 1, .int 2])) q = _ := upd_same
      have hb1 := hb.mono sq
      generalize upd H2 q (.lst [.int 0, .int 1, .int 2]) = H3 at hq1 hb1
      refine ⟨q, rfl, ⟨_, SqL.of hq1⟩, for_list (K := K) (xs := [.int 0, .int 1, .int 2]) (fun i σ H4 => ∃ v7 : Option V, σ = [some (.ref a), some (.int fi), some (.int wy), some (.int (r : Int)), some (.ref b), some (.int mo), some vb, v7, none, none, none, none] ∧ Same H3 H4) ⟨_, rfl, fun _ _ e => e⟩ (fun i σ H4 _ z => SqL.of (z.choose_spec.2 _ _ hq1)) ?_ ?_⟩
      · rintro i x σ H4 hx ⟨v7, rfl, s4⟩
        obtain ⟨wh, rfl, hw⟩ : ∃ wh : Int, x = .int wh ∧ (wh = 0 ∨ wh = 1 ∨ wh = 2) := by
          match i with
          | 0 => cases hx; exact ⟨0, rfl, .inl rfl⟩
          | 1 => cases hx; exact ⟨1, rfl, .inr (.inl rfl)⟩
          | 2 => cases hx; exact ⟨2, rfl, .inr (.inr rfl)⟩
          | n + 3 => cases hx
        refine ⟨_, rfl, _, rfl, _, rfl, _, _, rfl, rfl, _, rfl, _, _, rfl, rfl, vb, bad, wh, 1 + mo, 2 + mo, rfl, hb1.mono s4, hw, .inl hbad, fun H5 s5 => ?_⟩
        refine ⟨_, rfl, iteF ?_⟩
        exact ⟨_, rfl, s4.trans s5⟩
      · rintro σ H4 ⟨v7, rfl, s4⟩
        exact kr _
    · exact ⟨fi, wy, mo, r, vp, pat, rfl, hS1, hP, g, m0, by omega, kr⟩
  refine ⟨_, rfl, a, 0, ns, rfl, hS, ?_⟩
  generalize cellD ns 0 = fi
  have a0 := Int.emod_nonneg fi (show (3 : Int) ≠ 0 by decide)
  have a1 := Int.emod_lt_of_pos fi (show (0 : Int) < 3 by decide)
  have c0 := Int.emod_nonneg (fi / 18) (show (10 : Int) ≠ 0 by decide)
  have c1 := Int.emod_lt_of_pos (fi / 18) (show (0 : Int) < 10 by decide)
  obtain ⟨r, er⟩ : ∃ r : Nat, 1 + fi % 3 = (r : Int) := ⟨(1 + fi % 3).toNat, by omega⟩
  refine ⟨_, rfl, _, _, rfl, rfl, ⟨by decide, by decide⟩, _, _, rfl, rfl, (by show (0 : Int) < 10; decide), ?_⟩
  refine ⟨_, rfl, _, _, rfl, rfl, (by show (0 : Int) < 3; decide), _, _, rfl, rfl, ?_⟩
  simp only [er]
  refine ⟨_, rfl, _, _, rfl, rfl, _, rfl, ?_⟩
  refine ite2 (fun z => ?_) (fun z => ?_)
  · exact ⟨fi, fi / 18 % 10, 1, rfl, hS, c0, c1, by decide, by decide, kl⟩
  · exact ⟨fi, fi / 18 % 10, r, rfl, hS, c0, c1, by omega, by omega, kl⟩
end
end KS

namespace KS
open PySem L2
theorem all_mk {l : PySem.W.OpenLaw} {w : World} {K : PySem.W.Frag} {h : Heap} {mg : Str → Option Value} {fa C_FloorError C_BadStrip f_counted_together f_joined_row f_tables_joined f_row_by_modulus f_table_power f_paid_alike f_paid_unlike f_refuse_pattern f_refuse_columns f_refuse_modulus f_rows_of f_price_between f_price_of_all f_price_across f_price_along f_column_table f_step_table f_strip_least f_lows_of f_long_run_of f_long_run f_law_cell f_law_strength f_law_pattern f_law_copy f_law_ask f_law_refused f_law_spoiled f_law : Addr} (X : K.In h) (G : h.Ns mainGlobals mg) (hfa : mg "law" = some (.ref fa))
    {od_counted_together an_counted_together od_joined_row an_joined_row od_tables_joined an_tables_joined od_row_by_modulus an_row_by_modulus od_table_power an_table_power od_paid_alike an_paid_alike od_paid_unlike an_paid_unlike od_refuse_pattern an_refuse_pattern od_refuse_columns an_refuse_columns od_refuse_modulus an_refuse_modulus od_rows_of an_rows_of od_price_between an_price_between od_price_of_all an_price_of_all od_price_across an_price_across od_price_along an_price_along od_column_table an_column_table od_step_table an_step_table od_strip_least an_strip_least od_lows_of an_lows_of od_long_run_of an_long_run_of od_long_run an_long_run od_law_cell an_law_cell od_law_strength an_law_strength od_law_pattern an_law_pattern od_law_copy an_law_copy od_law_ask an_law_ask od_law_refused an_law_refused od_law_spoiled an_law_spoiled od_law an_law : Option Addr} {sl_counted_together sl_joined_row sl_tables_joined sl_row_by_modulus sl_table_power sl_paid_alike sl_paid_unlike sl_refuse_pattern sl_refuse_columns sl_refuse_modulus sl_rows_of sl_price_between sl_price_of_all sl_price_across sl_price_along sl_column_table sl_step_table sl_strip_least sl_lows_of sl_long_run_of sl_long_run sl_law_cell sl_law_strength sl_law_pattern sl_law_copy sl_law_ask sl_law_refused sl_law_spoiled sl_law : Array (Option Value)} {oc_counted_together kV_counted_together dc_counted_together pm_counted_together cd_counted_together ct_counted_together oc_joined_row kV_joined_row dc_joined_row pm_joined_row cd_joined_row ct_joined_row oc_tables_joined kV_tables_joined dc_tables_joined pm_tables_joined cd_tables_joined ct_tables_joined oc_row_by_modulus kV_row_by_modulus dc_row_by_modulus pm_row_by_modulus cd_row_by_modulus ct_row_by_modulus oc_table_power kV_table_power dc_table_power pm_table_power cd_table_power ct_table_power oc_paid_alike kV_paid_alike dc_paid_alike pm_paid_alike cd_paid_alike ct_paid_alike oc_paid_unlike kV_paid_unlike dc_paid_unlike pm_paid_unlike cd_paid_unlike ct_paid_unlike oc_refuse_pattern kV_refuse_pattern dc_refuse_pattern pm_refuse_pattern cd_refuse_pattern ct_refuse_pattern oc_refuse_columns kV_refuse_columns dc_refuse_columns pm_refuse_columns cd_refuse_columns ct_refuse_columns oc_refuse_modulus kV_refuse_modulus dc_refuse_modulus pm_refuse_modulus cd_refuse_modulus ct_refuse_modulus oc_rows_of kV_rows_of dc_rows_of pm_rows_of cd_rows_of ct_rows_of oc_price_between kV_price_between dc_price_between pm_price_between cd_price_between ct_price_between oc_price_of_all kV_price_of_all dc_price_of_all pm_price_of_all cd_price_of_all ct_price_of_all oc_price_across kV_price_across dc_price_across pm_price_across cd_price_across ct_price_across oc_price_along kV_price_along dc_price_along pm_price_along cd_price_along ct_price_along oc_column_table kV_column_table dc_column_table pm_column_table cd_column_table ct_column_table oc_step_table kV_step_table dc_step_table pm_step_table cd_step_table ct_step_table oc_strip_least kV_strip_least dc_strip_least pm_strip_least cd_strip_least ct_strip_least oc_lows_of kV_lows_of dc_lows_of pm_lows_of cd_lows_of ct_lows_of oc_long_run_of kV_long_run_of dc_long_run_of pm_long_run_of cd_long_run_of ct_long_run_of oc_long_run kV_long_run dc_long_run pm_long_run cd_long_run ct_long_run oc_law_cell kV_law_cell dc_law_cell pm_law_cell cd_law_cell ct_law_cell oc_law_strength kV_law_strength dc_law_strength pm_law_strength cd_law_strength ct_law_strength oc_law_pattern kV_law_pattern dc_law_pattern pm_law_pattern cd_law_pattern ct_law_pattern oc_law_copy kV_law_copy dc_law_copy pm_law_copy cd_law_copy ct_law_copy oc_law_ask kV_law_ask dc_law_ask pm_law_ask cd_law_ask ct_law_ask oc_law_refused kV_law_refused dc_law_refused pm_law_refused cd_law_refused ct_law_refused oc_law_spoiled kV_law_spoiled dc_law_spoiled pm_law_spoiled cd_law_spoiled ct_law_spoiled oc_law kV_law dc_law pm_law cd_law ct_law : Value}
    {ti_most ti_rows : Tok}
    (aC_FloorError : PySem.W.nsIn K mainGlobals "FloorError" = some (some (.ref C_FloorError)))
    (aC_BadStrip : PySem.W.nsIn K mainGlobals "BadStrip" = some (some (.ref C_BadStrip)))
    (a_counted_together : PySem.W.nsIn K mainGlobals "counted_together" = some (some (.ref f_counted_together)))
    (l_counted_together : K.lookup f_counted_together = some ⟨oc_counted_together, od_counted_together, .func (PySem.W.fnOf "counted_together" "counted_together" (defArgs s_counted_together) (defBody s_counted_together) (defScope s_counted_together) .none kV_counted_together dc_counted_together pm_counted_together an_counted_together cd_counted_together ct_counted_together), sl_counted_together⟩)
    (c_counted_together : PySem.W.codeIn K cd_counted_together "counted_together" = true)
    (k_counted_together : PySem.W.keepIn K (.ref f_counted_together) = true)
    (a_joined_row : PySem.W.nsIn K mainGlobals "joined_row" = some (some (.ref f_joined_row)))
    (l_joined_row : K.lookup f_joined_row = some ⟨oc_joined_row, od_joined_row, .func (PySem.W.fnOf "joined_row" "joined_row" (defArgs s_joined_row) (defBody s_joined_row) (defScope s_joined_row) .none kV_joined_row dc_joined_row pm_joined_row an_joined_row cd_joined_row ct_joined_row), sl_joined_row⟩)
    (c_joined_row : PySem.W.codeIn K cd_joined_row "joined_row" = true)
    (k_joined_row : PySem.W.keepIn K (.ref f_joined_row) = true)
    (a_tables_joined : PySem.W.nsIn K mainGlobals "tables_joined" = some (some (.ref f_tables_joined)))
    (l_tables_joined : K.lookup f_tables_joined = some ⟨oc_tables_joined, od_tables_joined, .func (PySem.W.fnOf "tables_joined" "tables_joined" (defArgs s_tables_joined) (defBody s_tables_joined) (defScope s_tables_joined) .none kV_tables_joined dc_tables_joined pm_tables_joined an_tables_joined cd_tables_joined ct_tables_joined), sl_tables_joined⟩)
    (c_tables_joined : PySem.W.codeIn K cd_tables_joined "tables_joined" = true)
    (k_tables_joined : PySem.W.keepIn K (.ref f_tables_joined) = true)
    (a_row_by_modulus : PySem.W.nsIn K mainGlobals "row_by_modulus" = some (some (.ref f_row_by_modulus)))
    (l_row_by_modulus : K.lookup f_row_by_modulus = some ⟨oc_row_by_modulus, od_row_by_modulus, .func (PySem.W.fnOf "row_by_modulus" "row_by_modulus" (defArgs s_row_by_modulus) (defBody s_row_by_modulus) (defScope s_row_by_modulus) .none kV_row_by_modulus dc_row_by_modulus pm_row_by_modulus an_row_by_modulus cd_row_by_modulus ct_row_by_modulus), sl_row_by_modulus⟩)
    (c_row_by_modulus : PySem.W.codeIn K cd_row_by_modulus "row_by_modulus" = true)
    (k_row_by_modulus : PySem.W.keepIn K (.ref f_row_by_modulus) = true)
    (a_table_power : PySem.W.nsIn K mainGlobals "table_power" = some (some (.ref f_table_power)))
    (l_table_power : K.lookup f_table_power = some ⟨oc_table_power, od_table_power, .func (PySem.W.fnOf "table_power" "table_power" (defArgs s_table_power) (defBody s_table_power) (defScope s_table_power) .none kV_table_power dc_table_power pm_table_power an_table_power cd_table_power ct_table_power), sl_table_power⟩)
    (c_table_power : PySem.W.codeIn K cd_table_power "table_power" = true)
    (k_table_power : PySem.W.keepIn K (.ref f_table_power) = true)
    (a_paid_alike : PySem.W.nsIn K mainGlobals "paid_alike" = some (some (.ref f_paid_alike)))
    (l_paid_alike : K.lookup f_paid_alike = some ⟨oc_paid_alike, od_paid_alike, .func (PySem.W.fnOf "paid_alike" "paid_alike" (defArgs s_paid_alike) (defBody s_paid_alike) (defScope s_paid_alike) .none kV_paid_alike dc_paid_alike pm_paid_alike an_paid_alike cd_paid_alike ct_paid_alike), sl_paid_alike⟩)
    (c_paid_alike : PySem.W.codeIn K cd_paid_alike "paid_alike" = true)
    (k_paid_alike : PySem.W.keepIn K (.ref f_paid_alike) = true)
    (a_paid_unlike : PySem.W.nsIn K mainGlobals "paid_unlike" = some (some (.ref f_paid_unlike)))
    (l_paid_unlike : K.lookup f_paid_unlike = some ⟨oc_paid_unlike, od_paid_unlike, .func (PySem.W.fnOf "paid_unlike" "paid_unlike" (defArgs s_paid_unlike) (defBody s_paid_unlike) (defScope s_paid_unlike) .none kV_paid_unlike dc_paid_unlike pm_paid_unlike an_paid_unlike cd_paid_unlike ct_paid_unlike), sl_paid_unlike⟩)
    (c_paid_unlike : PySem.W.codeIn K cd_paid_unlike "paid_unlike" = true)
    (k_paid_unlike : PySem.W.keepIn K (.ref f_paid_unlike) = true)
    (a_refuse_pattern : PySem.W.nsIn K mainGlobals "refuse_pattern" = some (some (.ref f_refuse_pattern)))
    (l_refuse_pattern : K.lookup f_refuse_pattern = some ⟨oc_refuse_pattern, od_refuse_pattern, .func (PySem.W.fnOf "refuse_pattern" "refuse_pattern" (defArgs s_refuse_pattern) (defBody s_refuse_pattern) (defScope s_refuse_pattern) .none kV_refuse_pattern dc_refuse_pattern pm_refuse_pattern an_refuse_pattern cd_refuse_pattern ct_refuse_pattern), sl_refuse_pattern⟩)
    (c_refuse_pattern : PySem.W.codeIn K cd_refuse_pattern "refuse_pattern" = true)
    (k_refuse_pattern : PySem.W.keepIn K (.ref f_refuse_pattern) = true)
    (a_refuse_columns : PySem.W.nsIn K mainGlobals "refuse_columns" = some (some (.ref f_refuse_columns)))
    (l_refuse_columns : K.lookup f_refuse_columns = some ⟨oc_refuse_columns, od_refuse_columns, .func (PySem.W.fnOf "refuse_columns" "refuse_columns" (defArgs s_refuse_columns) (defBody s_refuse_columns) (defScope s_refuse_columns) .none kV_refuse_columns dc_refuse_columns pm_refuse_columns an_refuse_columns cd_refuse_columns ct_refuse_columns), sl_refuse_columns⟩)
    (c_refuse_columns : PySem.W.codeIn K cd_refuse_columns "refuse_columns" = true)
    (k_refuse_columns : PySem.W.keepIn K (.ref f_refuse_columns) = true)
    (a_refuse_modulus : PySem.W.nsIn K mainGlobals "refuse_modulus" = some (some (.ref f_refuse_modulus)))
    (l_refuse_modulus : K.lookup f_refuse_modulus = some ⟨oc_refuse_modulus, od_refuse_modulus, .func (PySem.W.fnOf "refuse_modulus" "refuse_modulus" (defArgs s_refuse_modulus) (defBody s_refuse_modulus) (defScope s_refuse_modulus) .none kV_refuse_modulus dc_refuse_modulus pm_refuse_modulus an_refuse_modulus cd_refuse_modulus ct_refuse_modulus), sl_refuse_modulus⟩)
    (c_refuse_modulus : PySem.W.codeIn K cd_refuse_modulus "refuse_modulus" = true)
    (k_refuse_modulus : PySem.W.keepIn K (.ref f_refuse_modulus) = true)
    (a_rows_of : PySem.W.nsIn K mainGlobals "rows_of" = some (some (.ref f_rows_of)))
    (l_rows_of : K.lookup f_rows_of = some ⟨oc_rows_of, od_rows_of, .func (PySem.W.fnOf "rows_of" "rows_of" (defArgs s_rows_of) (defBody s_rows_of) (defScope s_rows_of) .none kV_rows_of dc_rows_of pm_rows_of an_rows_of cd_rows_of ct_rows_of), sl_rows_of⟩)
    (c_rows_of : PySem.W.codeIn K cd_rows_of "rows_of" = true)
    (k_rows_of : PySem.W.keepIn K (.ref f_rows_of) = true)
    (a_price_between : PySem.W.nsIn K mainGlobals "price_between" = some (some (.ref f_price_between)))
    (l_price_between : K.lookup f_price_between = some ⟨oc_price_between, od_price_between, .func (PySem.W.fnOf "price_between" "price_between" (defArgs s_price_between) (defBody s_price_between) (defScope s_price_between) .none kV_price_between dc_price_between pm_price_between an_price_between cd_price_between ct_price_between), sl_price_between⟩)
    (c_price_between : PySem.W.codeIn K cd_price_between "price_between" = true)
    (k_price_between : PySem.W.keepIn K (.ref f_price_between) = true)
    (a_price_of_all : PySem.W.nsIn K mainGlobals "price_of_all" = some (some (.ref f_price_of_all)))
    (l_price_of_all : K.lookup f_price_of_all = some ⟨oc_price_of_all, od_price_of_all, .func (PySem.W.fnOf "price_of_all" "price_of_all" (defArgs s_price_of_all) (defBody s_price_of_all) (defScope s_price_of_all) .none kV_price_of_all dc_price_of_all pm_price_of_all an_price_of_all cd_price_of_all ct_price_of_all), sl_price_of_all⟩)
    (c_price_of_all : PySem.W.codeIn K cd_price_of_all "price_of_all" = true)
    (k_price_of_all : PySem.W.keepIn K (.ref f_price_of_all) = true)
    (a_price_across : PySem.W.nsIn K mainGlobals "price_across" = some (some (.ref f_price_across)))
    (l_price_across : K.lookup f_price_across = some ⟨oc_price_across, od_price_across, .func (PySem.W.fnOf "price_across" "price_across" (defArgs s_price_across) (defBody s_price_across) (defScope s_price_across) .none kV_price_across dc_price_across pm_price_across an_price_across cd_price_across ct_price_across), sl_price_across⟩)
    (c_price_across : PySem.W.codeIn K cd_price_across "price_across" = true)
    (k_price_across : PySem.W.keepIn K (.ref f_price_across) = true)
    (a_price_along : PySem.W.nsIn K mainGlobals "price_along" = some (some (.ref f_price_along)))
    (l_price_along : K.lookup f_price_along = some ⟨oc_price_along, od_price_along, .func (PySem.W.fnOf "price_along" "price_along" (defArgs s_price_along) (defBody s_price_along) (defScope s_price_along) .none kV_price_along dc_price_along pm_price_along an_price_along cd_price_along ct_price_along), sl_price_along⟩)
    (c_price_along : PySem.W.codeIn K cd_price_along "price_along" = true)
    (k_price_along : PySem.W.keepIn K (.ref f_price_along) = true)
    (a_column_table : PySem.W.nsIn K mainGlobals "column_table" = some (some (.ref f_column_table)))
    (l_column_table : K.lookup f_column_table = some ⟨oc_column_table, od_column_table, .func (PySem.W.fnOf "column_table" "column_table" (defArgs s_column_table) (defBody s_column_table) (defScope s_column_table) .none kV_column_table dc_column_table pm_column_table an_column_table cd_column_table ct_column_table), sl_column_table⟩)
    (c_column_table : PySem.W.codeIn K cd_column_table "column_table" = true)
    (k_column_table : PySem.W.keepIn K (.ref f_column_table) = true)
    (a_step_table : PySem.W.nsIn K mainGlobals "step_table" = some (some (.ref f_step_table)))
    (l_step_table : K.lookup f_step_table = some ⟨oc_step_table, od_step_table, .func (PySem.W.fnOf "step_table" "step_table" (defArgs s_step_table) (defBody s_step_table) (defScope s_step_table) .none kV_step_table dc_step_table pm_step_table an_step_table cd_step_table ct_step_table), sl_step_table⟩)
    (c_step_table : PySem.W.codeIn K cd_step_table "step_table" = true)
    (k_step_table : PySem.W.keepIn K (.ref f_step_table) = true)
    (a_strip_least : PySem.W.nsIn K mainGlobals "strip_least" = some (some (.ref f_strip_least)))
    (l_strip_least : K.lookup f_strip_least = some ⟨oc_strip_least, od_strip_least, .func (PySem.W.fnOf "strip_least" "strip_least" (defArgs s_strip_least) (defBody s_strip_least) (defScope s_strip_least) .none kV_strip_least dc_strip_least pm_strip_least an_strip_least cd_strip_least ct_strip_least), sl_strip_least⟩)
    (c_strip_least : PySem.W.codeIn K cd_strip_least "strip_least" = true)
    (k_strip_least : PySem.W.keepIn K (.ref f_strip_least) = true)
    (a_lows_of : PySem.W.nsIn K mainGlobals "lows_of" = some (some (.ref f_lows_of)))
    (l_lows_of : K.lookup f_lows_of = some ⟨oc_lows_of, od_lows_of, .func (PySem.W.fnOf "lows_of" "lows_of" (defArgs s_lows_of) (defBody s_lows_of) (defScope s_lows_of) .none kV_lows_of dc_lows_of pm_lows_of an_lows_of cd_lows_of ct_lows_of), sl_lows_of⟩)
    (c_lows_of : PySem.W.codeIn K cd_lows_of "lows_of" = true)
    (k_lows_of : PySem.W.keepIn K (.ref f_lows_of) = true)
    (a_long_run_of : PySem.W.nsIn K mainGlobals "long_run_of" = some (some (.ref f_long_run_of)))
    (l_long_run_of : K.lookup f_long_run_of = some ⟨oc_long_run_of, od_long_run_of, .func (PySem.W.fnOf "long_run_of" "long_run_of" (defArgs s_long_run_of) (defBody s_long_run_of) (defScope s_long_run_of) .none kV_long_run_of dc_long_run_of pm_long_run_of an_long_run_of cd_long_run_of ct_long_run_of), sl_long_run_of⟩)
    (c_long_run_of : PySem.W.codeIn K cd_long_run_of "long_run_of" = true)
    (k_long_run_of : PySem.W.keepIn K (.ref f_long_run_of) = true)
    (a_long_run : PySem.W.nsIn K mainGlobals "long_run" = some (some (.ref f_long_run)))
    (l_long_run : K.lookup f_long_run = some ⟨oc_long_run, od_long_run, .func (PySem.W.fnOf "long_run" "long_run" (defArgs s_long_run) (defBody s_long_run) (defScope s_long_run) .none kV_long_run dc_long_run pm_long_run an_long_run cd_long_run ct_long_run), sl_long_run⟩)
    (c_long_run : PySem.W.codeIn K cd_long_run "long_run" = true)
    (k_long_run : PySem.W.keepIn K (.ref f_long_run) = true)
    (a_law_cell : PySem.W.nsIn K mainGlobals "_law_cell" = some (some (.ref f_law_cell)))
    (l_law_cell : K.lookup f_law_cell = some ⟨oc_law_cell, od_law_cell, .func (PySem.W.fnOf "_law_cell" "_law_cell" (defArgs s_law_cell) (defBody s_law_cell) (defScope s_law_cell) .none kV_law_cell dc_law_cell pm_law_cell an_law_cell cd_law_cell ct_law_cell), sl_law_cell⟩)
    (c_law_cell : PySem.W.codeIn K cd_law_cell "_law_cell" = true)
    (k_law_cell : PySem.W.keepIn K (.ref f_law_cell) = true)
    (a_law_strength : PySem.W.nsIn K mainGlobals "_law_strength" = some (some (.ref f_law_strength)))
    (l_law_strength : K.lookup f_law_strength = some ⟨oc_law_strength, od_law_strength, .func (PySem.W.fnOf "_law_strength" "_law_strength" (defArgs s_law_strength) (defBody s_law_strength) (defScope s_law_strength) .none kV_law_strength dc_law_strength pm_law_strength an_law_strength cd_law_strength ct_law_strength), sl_law_strength⟩)
    (c_law_strength : PySem.W.codeIn K cd_law_strength "_law_strength" = true)
    (k_law_strength : PySem.W.keepIn K (.ref f_law_strength) = true)
    (a_law_pattern : PySem.W.nsIn K mainGlobals "_law_pattern" = some (some (.ref f_law_pattern)))
    (l_law_pattern : K.lookup f_law_pattern = some ⟨oc_law_pattern, od_law_pattern, .func (PySem.W.fnOf "_law_pattern" "_law_pattern" (defArgs s_law_pattern) (defBody s_law_pattern) (defScope s_law_pattern) .none kV_law_pattern dc_law_pattern pm_law_pattern an_law_pattern cd_law_pattern ct_law_pattern), sl_law_pattern⟩)
    (c_law_pattern : PySem.W.codeIn K cd_law_pattern "_law_pattern" = true)
    (k_law_pattern : PySem.W.keepIn K (.ref f_law_pattern) = true)
    (a_law_copy : PySem.W.nsIn K mainGlobals "_law_copy" = some (some (.ref f_law_copy)))
    (l_law_copy : K.lookup f_law_copy = some ⟨oc_law_copy, od_law_copy, .func (PySem.W.fnOf "_law_copy" "_law_copy" (defArgs s_law_copy) (defBody s_law_copy) (defScope s_law_copy) .none kV_law_copy dc_law_copy pm_law_copy an_law_copy cd_law_copy ct_law_copy), sl_law_copy⟩)
    (c_law_copy : PySem.W.codeIn K cd_law_copy "_law_copy" = true)
    (k_law_copy : PySem.W.keepIn K (.ref f_law_copy) = true)
    (a_law_ask : PySem.W.nsIn K mainGlobals "_law_ask" = some (some (.ref f_law_ask)))
    (l_law_ask : K.lookup f_law_ask = some ⟨oc_law_ask, od_law_ask, .func (PySem.W.fnOf "_law_ask" "_law_ask" (defArgs s_law_ask) (defBody s_law_ask) (defScope s_law_ask) .none kV_law_ask dc_law_ask pm_law_ask an_law_ask cd_law_ask ct_law_ask), sl_law_ask⟩)
    (c_law_ask : PySem.W.codeIn K cd_law_ask "_law_ask" = true)
    (k_law_ask : PySem.W.keepIn K (.ref f_law_ask) = true)
    (a_law_refused : PySem.W.nsIn K mainGlobals "_law_refused" = some (some (.ref f_law_refused)))
    (l_law_refused : K.lookup f_law_refused = some ⟨oc_law_refused, od_law_refused, .func (PySem.W.fnOf "_law_refused" "_law_refused" (defArgs s_law_refused) (defBody s_law_refused) (defScope s_law_refused) .none kV_law_refused dc_law_refused pm_law_refused an_law_refused cd_law_refused ct_law_refused), sl_law_refused⟩)
    (c_law_refused : PySem.W.codeIn K cd_law_refused "_law_refused" = true)
    (k_law_refused : PySem.W.keepIn K (.ref f_law_refused) = true)
    (a_law_spoiled : PySem.W.nsIn K mainGlobals "_law_spoiled" = some (some (.ref f_law_spoiled)))
    (l_law_spoiled : K.lookup f_law_spoiled = some ⟨oc_law_spoiled, od_law_spoiled, .func (PySem.W.fnOf "_law_spoiled" "_law_spoiled" (defArgs s_law_spoiled) (defBody s_law_spoiled) (defScope s_law_spoiled) .none kV_law_spoiled dc_law_spoiled pm_law_spoiled an_law_spoiled cd_law_spoiled ct_law_spoiled), sl_law_spoiled⟩)
    (c_law_spoiled : PySem.W.codeIn K cd_law_spoiled "_law_spoiled" = true)
    (k_law_spoiled : PySem.W.keepIn K (.ref f_law_spoiled) = true)
    (a_law : PySem.W.nsIn K mainGlobals "law" = some (some (.ref f_law)))
    (l_law : K.lookup f_law = some ⟨oc_law, od_law, .func (PySem.W.fnOf "law" "law" (defArgs s_law) (defBody s_law) (defScope s_law) .none kV_law dc_law pm_law an_law cd_law ct_law), sl_law⟩)
    (c_law : PySem.W.codeIn K cd_law "law" = true)
    (k_law : PySem.W.keepIn K (.ref f_law) = true)
    (xc_FloorError : PySem.W.excIn K C_FloorError veM "ValueError.__new__" = true)
    (xc_BadStrip : PySem.W.excIn K C_BadStrip veM "ValueError.__new__" = true)
    (mr_BadStrip_FloorError : PySem.W.mroIn K C_BadStrip (.ref C_FloorError) = some true)
    (gi_most : PySem.W.nsIn K mainGlobals "MOST_IN_PATTERN" = some (some (.int 6 ti_most)))
    (gi_rows : PySem.W.nsIn K mainGlobals "MOST_ROWS" = some (some (.int 3 ti_rows)))
    (z_len : PySem.W.nsIn K mainGlobals "len" = some none)
    (z_int : PySem.W.nsIn K mainGlobals "int" = some none)
    (z_bool : PySem.W.nsIn K mainGlobals "bool" = some none)
    (z_list : PySem.W.nsIn K mainGlobals "list" = some none)
    (z_tuple : PySem.W.nsIn K mainGlobals "tuple" = some none)
    (z_range : PySem.W.nsIn K mainGlobals "range" = some none)
    (z_min : PySem.W.nsIn K mainGlobals "min" = some none)
    (z_max : PySem.W.nsIn K mainGlobals "max" = some none)
    (z_sum : PySem.W.nsIn K mainGlobals "sum" = some none)
    (z_zip : PySem.W.nsIn K mainGlobals "zip" = some none)
    (z_any : PySem.W.nsIn K mainGlobals "any" = some none)
    (z_enumerate : PySem.W.nsIn K mainGlobals "enumerate" = some none)
    (z_abs : PySem.W.nsIn K mainGlobals "abs" = some none)
    (z_isinstance : PySem.W.nsIn K mainGlobals "isinstance" = some none)
    : ∃ fd : FuncData, (∀ (s : Shared) (v : Value), BindsTo s fd ⟨[v], []⟩ [("script", v)]) ∧ ∀ base : Heap, K.In base → base.Ns mainGlobals mg → FnOk l.prog w K mg base CX0 10 fa fd ["script"] (spLaw K) := by
  have e := hfa.symm.trans (PySem.W.mg_of X G a_law)
  cases e
  have F_counted_together := fun_mk (st := s_counted_together) l_counted_together c_counted_together k_counted_together
  have b_counted_together := F_counted_together.binds (ps := ["entries"]) fun _ _ _ _ _ _ us hl => match us, hl with | [_], _ => rfl
  have F_joined_row := fun_mk (st := s_joined_row) l_joined_row c_joined_row k_joined_row
  have b_joined_row := F_joined_row.binds (ps := ["row", "table", "modulus"]) fun _ _ _ _ _ _ us hl => match us, hl with | [_, _, _], _ => rfl
  have F_tables_joined := fun_mk (st := s_tables_joined) l_tables_joined c_tables_joined k_tables_joined
  have b_tables_joined := F_tables_joined.binds (ps := ["one", "two", "modulus"]) fun _ _ _ _ _ _ us hl => match us, hl with | [_, _, _], _ => rfl
  have F_row_by_modulus := fun_mk (st := s_row_by_modulus) l_row_by_modulus c_row_by_modulus k_row_by_modulus
  have b_row_by_modulus := F_row_by_modulus.binds (ps := ["row", "modulus"]) fun _ _ _ _ _ _ us hl => match us, hl with | [_, _], _ => rfl
  have F_table_power := fun_mk (st := s_table_power) l_table_power c_table_power k_table_power
  have b_table_power := F_table_power.binds (ps := ["table", "times", "modulus"]) fun _ _ _ _ _ _ us hl => match us, hl with | [_, _, _], _ => rfl
  have F_paid_alike := fun_mk (st := s_paid_alike) l_paid_alike c_paid_alike k_paid_alike
  have b_paid_alike := F_paid_alike.binds (ps := ["pull"]) fun _ _ _ _ _ _ us hl => match us, hl with | [_], _ => rfl
  have F_paid_unlike := fun_mk (st := s_paid_unlike) l_paid_unlike c_paid_unlike k_paid_unlike
  have b_paid_unlike := F_paid_unlike.binds (ps := ["pull"]) fun _ _ _ _ _ _ us hl => match us, hl with | [_], _ => rfl
  have F_refuse_pattern := fun_mk (st := s_refuse_pattern) l_refuse_pattern c_refuse_pattern k_refuse_pattern
  have b_refuse_pattern := F_refuse_pattern.binds (ps := ["pattern"]) fun _ _ _ _ _ _ us hl => match us, hl with | [_], _ => rfl
  have F_refuse_columns := fun_mk (st := s_refuse_columns) l_refuse_columns c_refuse_columns k_refuse_columns
  have b_refuse_columns := F_refuse_columns.binds (ps := ["columns"]) fun _ _ _ _ _ _ us hl => match us, hl with | [_], _ => rfl
  have F_refuse_modulus := fun_mk (st := s_refuse_modulus) l_refuse_modulus c_refuse_modulus k_refuse_modulus
  have b_refuse_modulus := F_refuse_modulus.binds (ps := ["modulus"]) fun _ _ _ _ _ _ us hl => match us, hl with | [_], _ => rfl
  have F_rows_of := fun_mk (st := s_rows_of) l_rows_of c_rows_of k_rows_of
  have b_rows_of := F_rows_of.binds (ps := ["pattern"]) fun _ _ _ _ _ _ us hl => match us, hl with | [_], _ => rfl
  have F_price_between := fun_mk (st := s_price_between) l_price_between c_price_between k_price_between
  have b_price_between := F_price_between.binds (ps := ["signed", "differ"]) fun _ _ _ _ _ _ us hl => match us, hl with | [_, _], _ => rfl
  have F_price_of_all := fun_mk (st := s_price_of_all) l_price_of_all c_price_of_all k_price_of_all
  have b_price_of_all := F_price_of_all.binds (ps := ["strengths", "differ"]) fun _ _ _ _ _ _ us hl => match us, hl with | [_, _], _ => rfl
  have F_price_across := fun_mk (st := s_price_across) l_price_across c_price_across k_price_across
  have b_price_across := F_price_across.binds (ps := ["column", "signs"]) fun _ _ _ _ _ _ us hl => match us, hl with | [_, _], _ => rfl
  have F_price_along := fun_mk (st := s_price_along) l_price_along c_price_along k_price_along
  have b_price_along := F_price_along.binds (ps := ["column", "signs", "then"]) fun _ _ _ _ _ _ us hl => match us, hl with | [_, _, _], _ => rfl
  have F_column_table := fun_mk (st := s_column_table) l_column_table c_column_table k_column_table
  have b_column_table := F_column_table.binds (ps := ["column"]) fun _ _ _ _ _ _ us hl => match us, hl with | [_], _ => rfl
  have F_step_table := fun_mk (st := s_step_table) l_step_table c_step_table k_step_table
  have b_step_table := F_step_table.binds (ps := ["pattern"]) fun _ _ _ _ _ _ us hl => match us, hl with | [_], _ => rfl
  have F_strip_least := fun_mk (st := s_strip_least) l_strip_least c_strip_least k_strip_least
  have b_strip_least := F_strip_least.binds (ps := ["pattern", "columns", "modulus"]) fun _ _ _ _ _ _ us hl => match us, hl with | [_, _, _], _ => rfl
  have F_lows_of := fun_mk (st := s_lows_of) l_lows_of c_lows_of k_lows_of
  have b_lows_of := F_lows_of.binds (ps := ["table"]) fun _ _ _ _ _ _ us hl => match us, hl with | [_], _ => rfl
  have F_long_run_of := fun_mk (st := s_long_run_of) l_long_run_of c_long_run_of k_long_run_of
  have b_long_run_of := F_long_run_of.binds (ps := ["lows"]) fun _ _ _ _ _ _ us hl => match us, hl with | [_], _ => rfl
  have F_long_run := fun_mk (st := s_long_run) l_long_run c_long_run k_long_run
  have b_long_run := F_long_run.binds (ps := ["pattern"]) fun _ _ _ _ _ _ us hl => match us, hl with | [_], _ => rfl
  have F_law_cell := fun_mk (st := s_law_cell) l_law_cell c_law_cell k_law_cell
  have b_law_cell := F_law_cell.binds (ps := ["script", "k"]) fun _ _ _ _ _ _ us hl => match us, hl with | [_, _], _ => rfl
  have F_law_strength := fun_mk (st := s_law_strength) l_law_strength c_law_strength k_law_strength
  have b_law_strength := F_law_strength.binds (ps := ["cell", "mode"]) fun _ _ _ _ _ _ us hl => match us, hl with | [_, _], _ => rfl
  have F_law_pattern := fun_mk (st := s_law_pattern) l_law_pattern c_law_pattern k_law_pattern
  have b_law_pattern := F_law_pattern.binds (ps := ["script", "rows", "period", "mode"]) fun _ _ _ _ _ _ us hl => match us, hl with | [_, _, _, _], _ => rfl
  have F_law_copy := fun_mk (st := s_law_copy) l_law_copy c_law_copy k_law_copy
  have b_law_copy := F_law_copy.binds (ps := ["pattern"]) fun _ _ _ _ _ _ us hl => match us, hl with | [_], _ => rfl
  have F_law_ask := fun_mk (st := s_law_ask) l_law_ask c_law_ask k_law_ask
  have b_law_ask := F_law_ask.binds (ps := ["which", "pattern", "columns", "modulus"]) fun _ _ _ _ _ _ us hl => match us, hl with | [_, _, _, _], _ => rfl
  have F_law_refused := fun_mk (st := s_law_refused) l_law_refused c_law_refused k_law_refused
  have b_law_refused := F_law_refused.binds (ps := ["which", "pattern", "columns", "modulus"]) fun _ _ _ _ _ _ us hl => match us, hl with | [_, _, _, _], _ => rfl
  have F_law_spoiled := fun_mk (st := s_law_spoiled) l_law_spoiled c_law_spoiled k_law_spoiled
  have b_law_spoiled := F_law_spoiled.binds (ps := ["pattern", "way", "at", "more"]) fun _ _ _ _ _ _ us hl => match us, hl with | [_, _, _, _], _ => rfl
  have F_law := fun_mk (st := s_law) l_law c_law k_law
  refine ⟨PySem.W.fnOf "law" "law" (defArgs s_law) (defBody s_law) (defScope s_law) .none kV_law dc_law pm_law an_law cd_law ct_law, fun s v => .of_eq rfl, fun base _ _ => ?_⟩
  have m_counted_together := PySem.W.mg_of X G a_counted_together
  have m_joined_row := PySem.W.mg_of X G a_joined_row
  have m_tables_joined := PySem.W.mg_of X G a_tables_joined
  have m_row_by_modulus := PySem.W.mg_of X G a_row_by_modulus
  have m_table_power := PySem.W.mg_of X G a_table_power
  have m_paid_alike := PySem.W.mg_of X G a_paid_alike
  have m_paid_unlike := PySem.W.mg_of X G a_paid_unlike
  have m_refuse_pattern := PySem.W.mg_of X G a_refuse_pattern
  have m_refuse_columns := PySem.W.mg_of X G a_refuse_columns
  have m_refuse_modulus := PySem.W.mg_of X G a_refuse_modulus
  have m_rows_of := PySem.W.mg_of X G a_rows_of
  have m_price_between := PySem.W.mg_of X G a_price_between
  have m_price_of_all := PySem.W.mg_of X G a_price_of_all
  have m_price_across := PySem.W.mg_of X G a_price_across
  have m_price_along := PySem.W.mg_of X G a_price_along
  have m_column_table := PySem.W.mg_of X G a_column_table
  have m_step_table := PySem.W.mg_of X G a_step_table
  have m_strip_least := PySem.W.mg_of X G a_strip_least
  have m_lows_of := PySem.W.mg_of X G a_lows_of
  have m_long_run_of := PySem.W.mg_of X G a_long_run_of
  have m_long_run := PySem.W.mg_of X G a_long_run
  have m_law_cell := PySem.W.mg_of X G a_law_cell
  have m_law_strength := PySem.W.mg_of X G a_law_strength
  have m_law_pattern := PySem.W.mg_of X G a_law_pattern
  have m_law_copy := PySem.W.mg_of X G a_law_copy
  have m_law_ask := PySem.W.mg_of X G a_law_ask
  have m_law_refused := PySem.W.mg_of X G a_law_refused
  have m_law_spoiled := PySem.W.mg_of X G a_law_spoiled
  have m_law := PySem.W.mg_of X G a_law
  have m_FloorError := PySem.W.mg_of X G aC_FloorError
  have m_BadStrip := PySem.W.mg_of X G aC_BadStrip
  have most := PySem.W.mg_of X G gi_most
  have rows := PySem.W.mg_of X G gi_rows
  have n_len := PySem.W.mg_none_of X G z_len
  have n_int := PySem.W.mg_none_of X G z_int
  have n_bool := PySem.W.mg_none_of X G z_bool
  have n_list := PySem.W.mg_none_of X G z_list
  have n_tuple := PySem.W.mg_none_of X G z_tuple
  have n_range := PySem.W.mg_none_of X G z_range
  have n_min := PySem.W.mg_none_of X G z_min
  have n_max := PySem.W.mg_none_of X G z_max
  have n_sum := PySem.W.mg_none_of X G z_sum
  have n_zip := PySem.W.mg_none_of X G z_zip
  have n_any := PySem.W.mg_none_of X G z_any
  have n_enumerate := PySem.W.mg_none_of X G z_enumerate
  have n_abs := PySem.W.mg_none_of X G z_abs
  have n_isinstance := PySem.W.mg_none_of X G z_isinstance
  have T : Txt mg := ⟨n_len, n_int, n_bool, n_list, n_tuple, n_range, n_min, n_max, n_sum, n_zip, n_any, n_enumerate, n_abs, ⟨_, most⟩, ⟨_, rows⟩, n_isinstance⟩
  have G1 : Cal l.prog w K mg base 1 "counted_together" _ (spCT K) f_counted_together _ := ⟨ok_ct F_counted_together T, b_counted_together, m_counted_together, k_counted_together⟩
  have G2 : Cal l.prog w K mg base 2 "joined_row" _ (spJR K) f_joined_row _ := ⟨ok_jr F_joined_row T G1, b_joined_row, m_joined_row, k_joined_row⟩
  have G3 : Cal l.prog w K mg base 3 "tables_joined" _ (spJT K) f_tables_joined _ := ⟨ok_jt F_tables_joined T G2, b_tables_joined, m_tables_joined, k_tables_joined⟩
  have G4 : Cal l.prog w K mg base 1 "row_by_modulus" _ spRbm f_row_by_modulus _ := ⟨ok_rbm F_row_by_modulus T, b_row_by_modulus, m_row_by_modulus, k_row_by_modulus⟩
  have G5 : Cal l.prog w K mg base 4 "table_power" _ spTP f_table_power _ := ⟨ok_tp F_table_power T G3 G4, b_table_power, m_table_power, k_table_power⟩
  have A1 : Cal l.prog w K mg base 1 "paid_alike" _ spPA f_paid_alike _ := ⟨ok_pa F_paid_alike T, b_paid_alike, m_paid_alike, k_paid_alike⟩
  have A2 : Cal l.prog w K mg base 1 "paid_unlike" _ spPU f_paid_unlike _ := ⟨ok_pu F_paid_unlike T, b_paid_unlike, m_paid_unlike, k_paid_unlike⟩
  have A3 : Cal l.prog w K mg base 2 "price_between" _ spPB f_price_between _ := ⟨ok_pb F_price_between T A1 A2, b_price_between, m_price_between, k_price_between⟩
  have A4 : Cal l.prog w K mg base 3 "price_of_all" _ (spPall K) f_price_of_all _ := ⟨ok_pall F_price_of_all T A3, b_price_of_all, m_price_of_all, k_price_of_all⟩
  have A5 : Cal l.prog w K mg base 4 "price_across" _ spPac f_price_across _ := ⟨ok_pac F_price_across T A4, b_price_across, m_price_across, k_price_across⟩
  have A6 : Cal l.prog w K mg base 4 "price_along" _ spPal f_price_along _ := ⟨ok_pal F_price_along T A4, b_price_along, m_price_along, k_price_along⟩
  have A7 : Cal l.prog w K mg base 5 "column_table" _ spCol f_column_table _ := ⟨ok_col F_column_table T A5 A6, b_column_table, m_column_table, k_column_table⟩
  have B1 : Cal l.prog w K mg base 1 "rows_of" _ spRows f_rows_of _ := ⟨ok_rows F_rows_of T, b_rows_of, m_rows_of, k_rows_of⟩
  have XF : ErrC K mg "FloorError" C_FloorError := ⟨m_FloorError, xc_FloorError⟩
  have XB : ErrC K mg "BadStrip" C_BadStrip := ⟨m_BadStrip, xc_BadStrip⟩
  have TB : TxtB mg C_BadStrip := { T with g_BadStrip := m_BadStrip }
  have B2 : CalX l.prog w K mg base 1 "refuse_columns" _ (spRefCX C_BadStrip) f_refuse_columns _ := ⟨ok_refCX F_refuse_columns XB, b_refuse_columns, m_refuse_columns, k_refuse_columns⟩
  have B3 : CalX l.prog w K mg base 1 "refuse_modulus" _ (spRefMX C_BadStrip) f_refuse_modulus _ := ⟨ok_refMX F_refuse_modulus XB, b_refuse_modulus, m_refuse_modulus, k_refuse_modulus⟩
  have B4 : CalX l.prog w K mg base 2 "refuse_pattern" _ (spRefX C_BadStrip) f_refuse_pattern _ := ⟨ok_refX F_refuse_pattern T XB B1, b_refuse_pattern, m_refuse_pattern, k_refuse_pattern⟩
  have B5 : CalX l.prog w K mg base 6 "step_table" _ (spStepX C_BadStrip) f_step_table _ := ⟨ok_stepX F_step_table T B4 A7 G3, b_step_table, m_step_table, k_step_table⟩
  have B6 : CalX l.prog w K mg base 7 "strip_least" _ (spStripX C_BadStrip) f_strip_least _ := ⟨ok_stripX F_strip_least T B4 B2 B3 B1 G2 G5 B5 A7 A5 G1, b_strip_least, m_strip_least, k_strip_least⟩
  have N1 : Cal l.prog w K mg base 1 "lows_of" _ spNo f_lows_of _ := ⟨ok_no1 F_lows_of, b_lows_of, m_lows_of, k_lows_of⟩
  have N2 : Cal l.prog w K mg base 1 "long_run_of" _ spNo f_long_run_of _ := ⟨ok_no2 F_long_run_of, b_long_run_of, m_long_run_of, k_long_run_of⟩
  have B7 : CalX l.prog w K mg base 7 "long_run" _ (spLongX C_BadStrip) f_long_run _ := ⟨ok_long F_long_run B5 N1 N2, b_long_run, m_long_run, k_long_run⟩
  have C1 : Cal l.prog w K mg base 1 "_law_cell" _ (spCell K) f_law_cell _ := ⟨ok_cell F_law_cell T, b_law_cell, m_law_cell, k_law_cell⟩
  have C4 : Cal l.prog w K mg base 1 "_law_strength" _ spStr f_law_strength _ := ⟨ok_str F_law_strength, b_law_strength, m_law_strength, k_law_strength⟩
  have C5 : Cal l.prog w K mg base 2 "_law_pattern" _ (spPat K) f_law_pattern _ := ⟨ok_pat F_law_pattern T C4, b_law_pattern, m_law_pattern, k_law_pattern⟩
  have C6 : Cal l.prog w K mg base 1 "_law_copy" _ spCopy f_law_copy _ := ⟨ok_copy F_law_copy T, b_law_copy, m_law_copy, k_law_copy⟩
  have D1 : CalX l.prog w K mg base 8 "_law_ask" _ (spAsk C_BadStrip) f_law_ask _ := ⟨ok_ask F_law_ask B5 B7 B6, b_law_ask, m_law_ask, k_law_ask⟩
  have D2 : Cal l.prog w K mg base 9 "_law_refused" _ spRefd f_law_refused _ := ⟨ok_refd F_law_refused TB XF XB mr_BadStrip_FloorError D1, b_law_refused, m_law_refused, k_law_refused⟩
  have D3 : Cal l.prog w K mg base 2 "_law_spoiled" _ spSpoil f_law_spoiled _ := ⟨ok_spoil F_law_spoiled T C6, b_law_spoiled, m_law_spoiled, k_law_spoiled⟩
  exact ok_law F_law T C1 C5 D3 D2 B6
theorem walk {l : PySem.W.OpenLaw} {q : Program} {loose : List Str} {XP : (Str → Option Value) → Heap → Prop} {YP : World → Heap → Prop} {d : DefRec} {K : Params → PySem.W.Frag} (hn : l.most = some 63) (hdf : d.params.defaults = [])
    (hY : ∀ (w : World) (h : Heap), YP w h → (K w.params).In h)
    (F : ∀ (w : World) (mg : Str → Option Value) (fa : Addr) (h : Heap), (K w.params).In h → h.Ns mainGlobals mg → mg d.name = some (.ref fa) →
      ∃ fd : FuncData, (∀ (s : Shared) (u : Value), BindsTo s fd ⟨[u], []⟩ [("script", u)]) ∧ ∀ base : Heap, (K w.params).In base → base.Ns mainGlobals mg → FnOk l.prog w (K w.params) mg base CX0 10 fa fd ["script"] (spLaw (K w.params))) :
    PySem.W.WalkO q loose XP YP l.row.toRowW d [] (fun f vs => PySem.call f vs) :=
  L2.walk_of (n := 63) (k := 10) (x := "script") (CX := fun _ => CX0) (sp := fun w => spLaw (K w.params)) hn (by decide) hdf ⟨rfl, by decide, by decide⟩ hY F (fun _ _ a ns hl _ hS => ⟨a, ns, rfl, hS, hl, fun _ => rfl⟩) fun _ _ _ _ _ z => z
end KS


open PySem PySem.W PyProof.Rows
set_option maxRecDepth 100000 in
set_option maxHeartbeats 0 in
theorem PySem.Challenge.cw_spinfloor_k50_no_strips_holds : PySem.Challenge.rw_spinfloor_k50_no_strips.Holds := by
  w_on; o_law; k_head; (case hw => w_witness2)
  k_fill
  refine KS.walk (l := PySem.Challenge.rw_spinfloor_k50_no_strips) rfl rfl (fun w h Y => PySem.W.kIn_of Y) ?F
  case F =>
    intro w mg fa h KX G hmg
    refine' KS.all_mk KX G hmg ?aC_FloorError ?aC_BadStrip ?a_counted_together ?l_counted_together ?c_counted_together ?k_counted_together ?a_joined_row ?l_joined_row ?c_joined_row ?k_joined_row ?a_tables_joined ?l_tables_joined ?c_tables_joined ?k_tables_joined ?a_row_by_modulus ?l_row_by_modulus ?c_row_by_modulus ?k_row_by_modulus ?a_table_power ?l_table_power ?c_table_power ?k_table_power ?a_paid_alike ?l_paid_alike ?c_paid_alike ?k_paid_alike ?a_paid_unlike ?l_paid_unlike ?c_paid_unlike ?k_paid_unlike ?a_refuse_pattern ?l_refuse_pattern ?c_refuse_pattern ?k_refuse_pattern ?a_refuse_columns ?l_refuse_columns ?c_refuse_columns ?k_refuse_columns ?a_refuse_modulus ?l_refuse_modulus ?c_refuse_modulus ?k_refuse_modulus ?a_rows_of ?l_rows_of ?c_rows_of ?k_rows_of ?a_price_between ?l_price_between ?c_price_between ?k_price_between ?a_price_of_all ?l_price_of_all ?c_price_of_all ?k_price_of_all ?a_price_across ?l_price_across ?c_price_across ?k_price_across ?a_price_along ?l_price_along ?c_price_along ?k_price_along ?a_column_table ?l_column_table ?c_column_table ?k_column_table ?a_step_table ?l_step_table ?c_step_table ?k_step_table ?a_strip_least ?l_strip_least ?c_strip_least ?k_strip_least ?a_lows_of ?l_lows_of ?c_lows_of ?k_lows_of ?a_long_run_of ?l_long_run_of ?c_long_run_of ?k_long_run_of ?a_long_run ?l_long_run ?c_long_run ?k_long_run ?a_law_cell ?l_law_cell ?c_law_cell ?k_law_cell ?a_law_strength ?l_law_strength ?c_law_strength ?k_law_strength ?a_law_pattern ?l_law_pattern ?c_law_pattern ?k_law_pattern ?a_law_copy ?l_law_copy ?c_law_copy ?k_law_copy ?a_law_ask ?l_law_ask ?c_law_ask ?k_law_ask ?a_law_refused ?l_law_refused ?c_law_refused ?k_law_refused ?a_law_spoiled ?l_law_spoiled ?c_law_spoiled ?k_law_spoiled ?a_law ?l_law ?c_law ?k_law ?xc_FloorError ?xc_BadStrip ?mr_BadStrip_FloorError ?gi_most ?gi_rows ?z_len ?z_int ?z_bool ?z_list ?z_tuple ?z_range ?z_min ?z_max ?z_sum ?z_zip ?z_any ?z_enumerate ?z_abs ?z_isinstance
    (case aC_FloorError => k_is)
    (case aC_BadStrip => k_is)
    (case a_counted_together => k_is)
    (case l_counted_together => k_is)
    (case c_counted_together => k_is)
    (case k_counted_together => k_is)
    (case a_joined_row => k_is)
    (case l_joined_row => k_is)
    (case c_joined_row => k_is)
    (case k_joined_row => k_is)
    (case a_tables_joined => k_is)
    (case l_tables_joined => k_is)
    (case c_tables_joined => k_is)
    (case k_tables_joined => k_is)
    (case a_row_by_modulus => k_is)
    (case l_row_by_modulus => k_is)
    (case c_row_by_modulus => k_is)
    (case k_row_by_modulus => k_is)
    (case a_table_power => k_is)
    (case l_table_power => k_is)
    (case c_table_power => k_is)
    (case k_table_power => k_is)
    (case a_paid_alike => k_is)
    (case l_paid_alike => k_is)
    (case c_paid_alike => k_is)
    (case k_paid_alike => k_is)
    (case a_paid_unlike => k_is)
    (case l_paid_unlike => k_is)
    (case c_paid_unlike => k_is)
    (case k_paid_unlike => k_is)
    (case a_refuse_pattern => k_is)
    (case l_refuse_pattern => k_is)
    (case c_refuse_pattern => k_is)
    (case k_refuse_pattern => k_is)
    (case a_refuse_columns => k_is)
    (case l_refuse_columns => k_is)
    (case c_refuse_columns => k_is)
    (case k_refuse_columns => k_is)
    (case a_refuse_modulus => k_is)
    (case l_refuse_modulus => k_is)
    (case c_refuse_modulus => k_is)
    (case k_refuse_modulus => k_is)
    (case a_rows_of => k_is)
    (case l_rows_of => k_is)
    (case c_rows_of => k_is)
    (case k_rows_of => k_is)
    (case a_price_between => k_is)
    (case l_price_between => k_is)
    (case c_price_between => k_is)
    (case k_price_between => k_is)
    (case a_price_of_all => k_is)
    (case l_price_of_all => k_is)
    (case c_price_of_all => k_is)
    (case k_price_of_all => k_is)
    (case a_price_across => k_is)
    (case l_price_across => k_is)
    (case c_price_across => k_is)
    (case k_price_across => k_is)
    (case a_price_along => k_is)
    (case l_price_along => k_is)
    (case c_price_along => k_is)
    (case k_price_along => k_is)
    (case a_column_table => k_is)
    (case l_column_table => k_is)
    (case c_column_table => k_is)
    (case k_column_table => k_is)
    (case a_step_table => k_is)
    (case l_step_table => k_is)
    (case c_step_table => k_is)
    (case k_step_table => k_is)
    (case a_strip_least => k_is)
    (case l_strip_least => k_is)
    (case c_strip_least => k_is)
    (case k_strip_least => k_is)
    (case a_lows_of => k_is)
    (case l_lows_of => k_is)
    (case c_lows_of => k_is)
    (case k_lows_of => k_is)
    (case a_long_run_of => k_is)
    (case l_long_run_of => k_is)
    (case c_long_run_of => k_is)
    (case k_long_run_of => k_is)
    (case a_long_run => k_is)
    (case l_long_run => k_is)
    (case c_long_run => k_is)
    (case k_long_run => k_is)
    (case a_law_cell => k_is)
    (case l_law_cell => k_is)
    (case c_law_cell => k_is)
    (case k_law_cell => k_is)
    (case a_law_strength => k_is)
    (case l_law_strength => k_is)
    (case c_law_strength => k_is)
    (case k_law_strength => k_is)
    (case a_law_pattern => k_is)
    (case l_law_pattern => k_is)
    (case c_law_pattern => k_is)
    (case k_law_pattern => k_is)
    (case a_law_copy => k_is)
    (case l_law_copy => k_is)
    (case c_law_copy => k_is)
    (case k_law_copy => k_is)
    (case a_law_ask => k_is)
    (case l_law_ask => k_is)
    (case c_law_ask => k_is)
    (case k_law_ask => k_is)
    (case a_law_refused => k_is)
    (case l_law_refused => k_is)
    (case c_law_refused => k_is)
    (case k_law_refused => k_is)
    (case a_law_spoiled => k_is)
    (case l_law_spoiled => k_is)
    (case c_law_spoiled => k_is)
    (case k_law_spoiled => k_is)
    (case a_law => k_is)
    (case l_law => k_is)
    (case c_law => k_is)
    (case k_law => k_is)
    (case xc_FloorError => k_exc)
    (case xc_BadStrip => k_exc)
    (case mr_BadStrip_FloorError => k_is)
    (case gi_most => k_is)
    (case gi_rows => k_is)
    (case z_len => k_is)
    (case z_int => k_is)
    (case z_bool => k_is)
    (case z_list => k_is)
    (case z_tuple => k_is)
    (case z_range => k_is)
    (case z_min => k_is)
    (case z_max => k_is)
    (case z_sum => k_is)
    (case z_zip => k_is)
    (case z_any => k_is)
    (case z_enumerate => k_is)
    (case z_abs => k_is)
    (case z_isinstance => k_is)

