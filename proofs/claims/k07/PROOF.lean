import PyProof.Rows.All
import Wide.All
import OpenK.AllK
import Wide.FinOn
import Lean
import PyProof.EqAt
import PyProof.EqKinds
import PyProof.TupleCall
import PySem.Challenge.RW_spinfloor_k07_what_follows_a_dart
set_option Elab.async false
set_option linter.all false
set_option maxRecDepth 100000
/-! THE HAND LAYER, for ints, bools, texts, own classes, LISTS and tuples (index, slices, in, append, pop ..), calls, loops. Paste it whole ahead of your own text; what your proof does not reach may be deleted. -/
namespace L2
open PySem PySem.Spec PyProof.Rows

/-- a key: an int or a str -/
abbrev Key := Sum Int Str
def keyIs : Key → Value → Bool
  | .inl k, v => Value.isInt k v
  | .inr x, v => Value.isStrOf x v
def keyH (w : World) : Key → Int
  | .inl k => hashInt k
  | .inr x => hashStr w x
theorem keyIs_shape : ∀ {k : Key} {v : Value}, keyIs k v = true → (∃ i t, k = Sum.inl i ∧ v = Value.int i t) ∨ (∃ x t, k = Sum.inr x ∧ v = Value.str x t)
  | .inl i, v, h => by
    obtain ⟨t, e⟩ := Value.isInt_shape (k := i) (v := v) h
    exact .inl ⟨i, t, rfl, e⟩
  | .inr x, v, h => by
    obtain ⟨t, e⟩ := Value.isStrOf_shape (x := x) (v := v) h
    exact .inr ⟨x, t, rfl, e⟩
theorem key_ll (a b : Int) : decide ((Sum.inl a : Key) = Sum.inl b) = (a == b) := by
  by_cases e : a = b
  · subst e; simp
  · have h : ¬ (Sum.inl a : Key) = Sum.inl b := fun q => e (Sum.inl.inj q)
    rw [decide_eq_false h]
    exact (beq_eq_false_iff_ne.mpr e).symm
theorem key_rr (a b : Str) : decide ((Sum.inr a : Key) = Sum.inr b) = decide (a = b) := by
  by_cases e : a = b
  · subst e; simp
  · have h : ¬ (Sum.inr a : Key) = Sum.inr b := fun q => e (Sum.inr.inj q)
    rw [decide_eq_false h, decide_eq_false e]
theorem key_lr (a : Int) (b : Str) : decide ((Sum.inl a : Key) = Sum.inr b) = false := decide_eq_false (fun q => nomatch q)
theorem key_rl (a : Str) (b : Int) : decide ((Sum.inr a : Key) = Sum.inl b) = false := decide_eq_false (fun q => nomatch q)

def mixKind (prog : Program) (w : World) : PySem.KeyKind prog w Key where
  is := keyIs
  hash := keyH w
  inj := fun v a b ha hb => by
    rcases keyIs_shape ha with ⟨i, t, rfl, rfl⟩ | ⟨x, t, rfl, rfl⟩
    · rcases keyIs_shape hb with ⟨j, u, rfl, e⟩ | ⟨y, u, rfl, e⟩
      · injection e with e1 _; rw [e1]
      · exact nomatch e
    · rcases keyIs_shape hb with ⟨j, u, rfl, e⟩ | ⟨y, u, rfl, e⟩
      · exact nomatch e
      · injection e with e1 _; rw [e1]
  byValue := fun k v h => by
    rcases keyIs_shape h with ⟨i, t, rfl, rfl⟩ | ⟨x, t, rfl, rfl⟩ <;> rfl
  pyHash := fun hv h => by
    rcases keyIs_shape hv with ⟨i, t, rfl, rfl⟩ | ⟨x, t, rfl, rfl⟩
    · exact wpAny_pyHash_int h
    · exact wpAny_pyHash_str h
  eqBool := fun hu hv h => by
    rcases keyIs_shape hu with ⟨i, t, rfl, rfl⟩ | ⟨x, t, rfl, rfl⟩
    · rcases keyIs_shape hv with ⟨j, u, rfl, rfl⟩ | ⟨y, u, rfl, rfl⟩
      · rw [key_ll] at h; exact wpAny_eqBool_int h
      · rw [key_lr] at h; exact SeqAt.EqAt.int_str i t y u _ _ _ _ h
    · rcases keyIs_shape hv with ⟨j, u, rfl, rfl⟩ | ⟨y, u, rfl, rfl⟩
      · rw [key_rl] at h; exact SeqAt.EqAt.str_int x t j u _ _ _ _ h
      · rw [key_rr] at h; exact wpAny_eqBool_str h
  «strs» := fun k x t v h => by
    rcases keyIs_shape h with ⟨i, u, rfl, e⟩ | ⟨y, u, rfl, e⟩
    · exact nomatch e
    · injection e with e1 _
      subst e1
      cases v <;> rfl

end L2

namespace L2
open PySem PySem.Spec PyProof.Rows

/-- a value, without the heap -/
inductive V where
  | non | bl (b : Bool) | int (i : Int) | str (x : Str) | byt (b : Array UInt8) | flt (b : UInt64) | ref (a : Addr) | ty (n : String)
  deriving DecidableEq

def RelV : V → Value → Prop
  | .non, u => u = Value.none
  | .bl b, u => u = Value.bool b
  | .int i, u => ∃ t, u = Value.int i t
  | .str x, u => ∃ t, u = Value.str x t
  | .byt b, u => ∃ t, u = Value.bytes b t
  | .flt b, u => ∃ t, u = Value.float b t
  | .ref a, u => u = Value.ref a
  | .ty n, u => u = Value.type n

abbrev Vals : List V → List Value → Prop := Paired RelV
theorem Vals.length {xs : List V} {us : List Value} (r : Vals xs us) : xs.length = us.length := Paired.length r
theorem Vals.get : ∀ {xs : List V} {us : List Value} {i : Nat} {x : V}, Vals xs us → xs[i]? = some x → ∃ u, us[i]? = some u ∧ RelV x u
  | _, _, _, _, .nil, e => by simp at e
  | _, _, 0, _, .cons r _, e => by simp at e; subst e; exact ⟨_, rfl, r⟩
  | _, _, i + 1, x, .cons _ t, e => by
    obtain ⟨u, h1, h2⟩ := Vals.get (i := i) (x := x) t (by simpa using e)
    exact ⟨u, by simpa using h1, h2⟩
theorem Vals.append : ∀ {xs ys : List V} {us ws : List Value}, Vals xs us → Vals ys ws → Vals (xs ++ ys) (us ++ ws)
  | _, _, _, _, .nil, s => s
  | _, _, _, _, .cons r t, s => .cons r (Vals.append t s)
theorem Vals.take : ∀ {xs : List V} {us : List Value} (n : Nat), Vals xs us → Vals (xs.take n) (us.take n)
  | _, _, 0, _ => .nil
  | _, _, _ + 1, .nil => .nil
  | _, _, n + 1, .cons r t => .cons r (Vals.take n t)
theorem Vals.drop : ∀ {xs : List V} {us : List Value} (n : Nat), Vals xs us → Vals (xs.drop n) (us.drop n)
  | _, _, 0, r => r
  | _, _, _ + 1, .nil => .nil
  | _, _, n + 1, .cons _ t => Vals.drop n t

def RelO : Option V → Option Value → Prop
  | some v, some u => RelV v u
  | none, none => True
  | _, _ => False
def KV {κ : Type} : List (κ × V) → List (κ × Value) → Prop := Paired fun (p : κ × V) (q : κ × Value) => p.1 = q.1 ∧ RelV p.2 q.2

/-- a key of a dict (00_mix): an int or a text -/
def kV : Key → V
  | .inl i => .int i
  | .inr x => .str x

/-- what stands at a tracked address -/
inductive HO where
  /-- a list -/
  | lst (xs : List V)
  /-- a tuple (never changes) -/
  | tup (xs : List V)
  /-- a dict whose keys are ints and texts; one whose keys are tuples of ints and texts (the empty one is both) -/
  | dK (kvs : List (Key × V)) | dT (kvs : List (List Key × V))
  /-- a set of ints: its members, its size -/
  | set (S : Int → Bool) (n : Nat)
  /-- an instance of the class at C, its dict at dx, its attributes -/
  | ins (C dx : Addr) (fs : List (Str × V))
  /-- the dict of the instance at x -/
  | own (x : Addr)
  /-- the dict of an exception -/
  | xd (fs : List (Str × V))
  /-- a bound method, f of x -/
  | met (f x : Addr)
  /-- a range object lo, lo + 1, .. below hi -/
  | rng (lo hi : Int)
  /-- a thing that is known to the object (the script; a dict while a loop walks it): read, never written while it is so -/
  | frz (o : Obj) (u : HO)
  /-- a code object's table -/
  | tbl (ps : Array Value)
  /-- any other thing, by what is true of its one object (a def of one's own: SetO a S n := HO.ext fun h => ..) -/
  | ext (φ : Heap → Prop)

abbrev Hp := Addr → Option HO
def upd (H : Hp) (a : Addr) (o : HO) : Hp := fun b => if b = a then some o else H b
theorem upd_same {H : Hp} {a : Addr} {o : HO} : upd H a o a = some o := by unfold upd; rw [if_pos rfl]
theorem upd_ne {H : Hp} {a b : Addr} {o : HO} (h : b ≠ a) : upd H a o b = H b := by unfold upd; rw [if_neg h]
theorem ne_of_none {H : Hp} {a b : Addr} {o : HO} (h : H a = some o) (h' : H b = none) : a ≠ b := by
  intro e; subst e; rw [h] at h'; cases h'

section
variable (P : Program) (w : World)
def ObjOk (H : Hp) (h : Heap) (a : Addr) : HO → Prop
  | .lst xs => xs.length ≤ sizeLine ∧ ∃ (its : List Value) (n : Nat), Vals xs its ∧ h.get? a = some { cls := .type "list", data := .seq its.toArray n }
  | .tup xs => xs.length ≤ sizeLine ∧ ∃ its : List Value, Vals xs its ∧ IsTup h a its.toArray
  | .dK kvs => kvs.length ≤ sizeLine ∧ (a == sysModules) = false ∧ ∃ vs, KV kvs vs ∧ h.DictOf (mixKind P w) a vs
  | .dT kvs => kvs.length ≤ sizeLine ∧ (a == sysModules) = false ∧ ∃ xs : List (List Key × Addr × Value),
      Paired (fun (p : List Key × V) (q : List Key × Addr × Value) => p.1 = q.1 ∧ H q.2.1 = some (.tup (p.1.map kV)) ∧ RelV p.2 q.2.2) kvs xs ∧
      ∃ o es ep, h.get? a = some o ∧ o.ExactDict ∧ o.data = .dict es ep ∧ es.toList = xs.map (entryOfKey (tupleKind (mixKind P w))) ∧ (xs.map (·.1)).Nodup
  | .set S n => h.SetOf (intKind P w) a S n
  | .ins C dx fs => H dx = some (.own a) ∧ fs.length ≤ 1000 ∧ dx ≠ a ∧ h.get? a = some (PySem.W.instObj C dx) ∧
      ∃ mA, h.Ns1 dx mA ∧ (∀ f, RelO (fs.lookup f) (mA f)) ∧ PySem.Within mA (fs.map (·.1))
  | .own _ => ∃ o, h.get? a = some o
  | .xd fs => ∃ mA, h.Ns1 a mA ∧ ∀ f, RelO (fs.lookup f) (mA f)
  | .rng lo hi => ∃ t u v, h.get? a = some { cls := .type "range", data := .fields #[.int lo t, .int hi u, .int 1 v] }
  | .frz o u => h.get? a = some o ∧ ObjOk H h a u
  | .tbl ps => h.get? a = some { cls := .none, data := .fields ps }
  | .met f x => h.get? a = some (PySem.W.methodObj (.ref f) (.ref x))
  | .ext φ => φ h ∧ (∃ o, h.get? a = some o) ∧ ∀ h1 h2 : Heap, φ h1 → (∀ o, h1.get? a = some o → h2.get? a = some o) → φ h2
/-- the abstract heap is held -/
def HOk (H : Hp) (h : Heap) : Prop := ∀ a o, H a = some o → ObjOk P w H h a o
end

section
variable {P : Program} {w : World} {H H' : Hp} {h h' : Heap} {a : Addr} {o : HO}
theorem ObjOk.lt (x : ObjOk P w H h a o) : a < h.objs.size := by
  cases o with
  | lst xs => obtain ⟨_, _, _, _, e⟩ := x; exact Heap.lt_size e
  | tup xs => obtain ⟨_, _, _, p⟩ := x; exact p.lt
  | dK kvs => obtain ⟨_, _, _, _, o, _, _, e, _⟩ := x; exact Heap.lt_size e
  | dT kvs => obtain ⟨_, _, _, _, o, _, _, e, _⟩ := x; exact Heap.lt_size e
  | set S n => obtain ⟨o, _, _, _, e, _⟩ := x; exact Heap.lt_size e
  | ins C dx fs => obtain ⟨_, _, _, e, _⟩ := x; exact Heap.lt_size e
  | own y => obtain ⟨_, e⟩ := x; exact Heap.lt_size e
  | xd fs => obtain ⟨_, ⟨_, _, _, e, _⟩, _⟩ := x; exact Heap.lt_size e
  | rng lo hi => obtain ⟨_, _, _, e⟩ := x; exact Heap.lt_size e
  | frz ob u => obtain ⟨e, _⟩ := x; exact Heap.lt_size e
  | tbl ps => exact Heap.lt_size (show h.get? a = some _ from x)
  | met f y => exact Heap.lt_size (show h.get? a = some _ from x)
  | ext φ => obtain ⟨_, ⟨_, e⟩, _⟩ := x; exact Heap.lt_size e
theorem Paired.mapP {α β : Type} {F G : α → β → Prop} : ∀ {l₁ : List α} {l₂ : List β}, Paired F l₁ l₂ → (∀ a b, F a b → G a b) → Paired G l₁ l₂
  | _, _, .nil, _ => .nil
  | _, _, .cons r t, f => .cons (f _ _ r) (Paired.mapP t f)
/-- what an object's description leans on: its own object, its own dict, the tuples -/
theorem ObjOk.stay (x : ObjOk P w H h a o) (k : ∀ b u, (b = a ∨ H b = some (.own a)) → h.get? b = some u → h'.get? b = some u)
    (ho : ∀ b, H b = some (.own a) → H' b = some (.own a)) (ht : ∀ b xs, H b = some (.tup xs) → H' b = some (.tup xs)) : ObjOk P w H' h' a o := by
  induction o with
  | lst xs => obtain ⟨z, its, n, r, e⟩ := x; exact ⟨z, its, n, r, k _ _ (.inl rfl) e⟩
  | tup xs => obtain ⟨z, its, r, ob, e, c⟩ := x; exact ⟨z, its, r, ob, k _ _ (.inl rfl) e, c⟩
  | dK kvs => obtain ⟨z, y, vs, r, ob, es, ep, e, c⟩ := x; exact ⟨z, y, vs, r, ob, es, ep, k _ _ (.inl rfl) e, c⟩
  | dT kvs =>
    obtain ⟨z, y, xs, r, ob, es, ep, e, c⟩ := x
    exact ⟨z, y, xs, Paired.mapP r fun p q z => ⟨z.1, ht _ _ z.2.1, z.2.2⟩, ob, es, ep, k _ _ (.inl rfl) e, c⟩
  | set S n => obtain ⟨ob, es, ep, t, e, c⟩ := x; exact ⟨ob, es, ep, t, k _ _ (.inl rfl) e, c⟩
  | ins C dx fs =>
    obtain ⟨d, z, ne, e, mA, ⟨od, es, ep, e2, c⟩, r⟩ := x
    exact ⟨ho _ d, z, ne, k _ _ (.inl rfl) e, mA, ⟨od, es, ep, k _ _ (.inr d) e2, c⟩, r⟩
  | own y => obtain ⟨ob, e⟩ := x; exact ⟨ob, k _ _ (.inl rfl) e⟩
  | xd fs => obtain ⟨mA, ⟨od, es, ep, e, c⟩, r⟩ := x; exact ⟨mA, ⟨od, es, ep, k _ _ (.inl rfl) e, c⟩, r⟩
  | rng lo hi => obtain ⟨t, u, v, e⟩ := x; exact ⟨t, u, v, k _ _ (.inl rfl) e⟩
  | frz ob u ih => obtain ⟨e, q⟩ := x; exact ⟨k _ _ (.inl rfl) e, ih q⟩
  | tbl ps =>
    have e : h.get? a = some { cls := .none, data := .fields ps } := x
    show h'.get? a = some { cls := .none, data := .fields ps }
    exact k a _ (.inl rfl) e
  | met f y =>
    have e : h.get? a = some (PySem.W.methodObj (.ref f) (.ref y)) := x
    show h'.get? a = some (PySem.W.methodObj (.ref f) (.ref y))
    exact k a _ (.inl rfl) e
  | ext φ => obtain ⟨p, ⟨o, e⟩, st⟩ := x; exact ⟨st _ _ p fun o q => k _ _ (.inl rfl) q, ⟨o, k _ _ (.inl rfl) e⟩, st⟩
theorem HOk.lt (x : HOk P w H h) (e : H a = some o) : a < h.objs.size := (x a o e).lt
theorem HOk.fresh (x : HOk P w H h) (e : h.objs.size ≤ a) : H a = none := by
  cases q : H a with
  | none => rfl
  | some u => exact absurd (Nat.lt_of_lt_of_le (x.lt q) e) (Nat.lt_irrefl _)
/-- every object of the heap is kept -/
theorem HOk.kept (x : HOk P w H h) (k : ∀ b u, h.get? b = some u → h'.get? b = some u) : HOk P w H h' := fun a o e =>
  (x a o e).stay (fun b u _ q => k b u q) (fun _ q => q) fun _ _ q => q
/-- a new object is laid and tracked -/
theorem HOk.laid (x : HOk P w H h) (k : ∀ b u, h.get? b = some u → h'.get? b = some u) (hp : h.objs.size ≤ a) (new : ObjOk P w (upd H a o) h' a o) : HOk P w (upd H a o) h' := fun b u e => by
  have hn := x.fresh hp
  by_cases hb : b = a
  · subst hb; rw [upd_same] at e; cases e; exact new
  · rw [upd_ne hb] at e
    exact (x b u e).stay (fun c v _ q => k c v q) (fun c q => by rw [upd_ne (ne_of_none q hn)]; exact q) fun c xs q => by rw [upd_ne (ne_of_none q hn)]; exact q
end

/-- what may be read as u: it is u, or a known u -/
def Rd (H : Hp) (a : Addr) (u : HO) : Prop := H a = some u ∨ ∃ o, H a = some (.frz o u)
theorem Rd.ok {P : Program} {w : World} {H : Hp} {h : Heap} {a : Addr} {u : HO} (r : Rd H a u) (x : HOk P w H h) : ObjOk P w H h a u := by
  rcases r with r | ⟨o, r⟩
  · exact x a u r
  · obtain ⟨_, q⟩ := x a _ r
    exact q
/-- what may be written -/
def Mut : Option HO → Prop
  | some (.lst _) => True
  | some (.dK _) => True
  | some (.dT _) => True
  | some (.set _ _) => True
  | some (.ins _ _ _) => True
  | some (.ext _) => True
  | _ => False
section
variable {P : Program} {w : World} {H : Hp} {h h' : Heap} {x e : Addr} {o' : HO}
/-- the object at e is changed: x itself, or the dict of the instance x -/
theorem HOk.write (ok : HOk P w H h) (mu : Mut (H x)) (he : e = x ∨ H e = some (.own x)) (k : ∀ b u, b ≠ e → h.get? b = some u → h'.get? b = some u) (heo : ∃ u, h'.get? e = some u)
    (new : ObjOk P w (upd H x o') h' x o') : HOk P w (upd H x o') h' := fun b u q => by
  have nown : ∀ c y, H c = some (.own y) → c ≠ x := fun c y r z => by subst z; rw [r] at mu; exact mu
  have ntup : ∀ c xs, H c = some (.tup xs) → c ≠ x := fun c xs r z => by subst z; rw [r] at mu; exact mu
  by_cases hb : b = x
  · subst hb; rw [upd_same] at q; cases q; exact new
  · rw [upd_ne hb] at q
    by_cases hbe : b = e
    · have q' : H b = some (.own x) := by
        rcases he with z | z
        · exact absurd (hbe.trans z) hb
        · rw [hbe]; exact z
      rw [q] at q'; cases q'
      obtain ⟨v, hv⟩ := heo
      exact ⟨v, by rw [hbe]; exact hv⟩
    · refine (ok b u q).stay (fun c v hc r => k c v ?_ r) (fun c r => by rw [upd_ne (nown c b r)]; exact r) fun c xs r => by rw [upd_ne (ntup c xs r)]; exact r
      rcases hc with rfl | hc
      · exact hbe
      · rintro rfl
        rcases he with z | z
        · exact nown c b hc z
        · rw [hc] at z; cases z; exact hb rfl
end

/-! ### kept unless tracked; of the frames at fs (the callers') the slots may change (an exception that passes writes there); of the records at ex (iterators) nothing is said -/
structure Un (fs ex : List Addr) (H H' : Hp) (h h' : Heap) : Prop where
  keep : ∀ b o, h.get? b = some o → H b = none → b ∉ fs → b ∉ ex → h'.get? b = some o
  slot : ∀ b o, h.get? b = some o → H b = none → b ∈ fs → b ∉ ex → ∃ sl, h'.get? b = some { o with slots := sl }
  free : ∀ b o, h.get? b = some o → H b = none → b ∉ ex → H' b = none
  there : ∀ b o, h.get? b = some o → b ∉ ex → ∃ o', h'.get? b = some o'
  tups : ∀ b xs, H b = some (.tup xs) → H' b = some (.tup xs)
  frzs : ∀ b o u, H b = some (.frz o u) → H' b = some (.frz o u)
  tbls : ∀ b ps, H b = some (.tbl ps) → ∃ more, H' b = some (.tbl (ps ++ more))
section
variable {fs fs' ex ex' : List Addr} {H H1 H2 : Hp} {h h1 h2 h' : Heap} {a x e : Addr} {o : HO}
theorem Un.any (u : Un fs ex H H1 h h1) {b : Addr} {ob : Obj} (q : h.get? b = some ob) (n : H b = none) (hx : b ∉ ex) : ∃ sl, h1.get? b = some { ob with slots := sl } := by
  by_cases hb : b ∈ fs
  · exact u.slot b ob q n hb hx
  · exact ⟨ob.slots, u.keep b ob q n hb hx⟩
theorem Un.kept (k : ∀ b u, h.get? b = some u → h'.get? b = some u) : Un fs ex H H h h' :=
  ⟨fun b ob q _ _ _ => k b ob q, fun b ob q _ _ _ => ⟨ob.slots, k b ob q⟩, fun _ _ _ n _ => n, fun b ob q _ => ⟨ob, k b ob q⟩, fun _ _ q => q, fun _ _ _ q => q, fun _ ps q => ⟨#[], by rw [q]; simp⟩⟩
theorem Un.refl : Un fs ex H H h h := Un.kept fun _ _ q => q
theorem Un.laid (k : ∀ b u, h.get? b = some u → h'.get? b = some u) (hp : h.objs.size ≤ a) (hn : H a = none) : Un fs ex H (upd H a o) h h' where
  keep := fun b u q _ _ _ => k b u q
  slot := fun b u q _ _ _ => ⟨u.slots, k b u q⟩
  free := fun b u q n _ => by rw [upd_ne (Nat.ne_of_lt (Nat.lt_of_lt_of_le (Heap.lt_size q) hp))]; exact n
  there := fun b u q _ => ⟨u, k b u q⟩
  tups := fun b xs q => by rw [upd_ne (ne_of_none q hn)]; exact q
  frzs := fun b u xs q => by rw [upd_ne (ne_of_none q hn)]; exact q
  tbls := fun b ps q => ⟨#[], by rw [upd_ne (ne_of_none q hn), q]; simp⟩
theorem Un.write (mu : Mut (H x)) (he : e = x ∨ H e = some (.own x)) (k : ∀ b u, b ≠ e → h.get? b = some u → h'.get? b = some u) (heo : ∃ u, h'.get? e = some u) : Un fs ex H (upd H x o) h h' := by
  have hx : ∀ b, H b = none → b ≠ x := fun b n z => by subst z; rw [n] at mu; exact mu
  have hb : ∀ b, H b = none → b ≠ e := fun b n z => by
    subst z
    rcases he with r | r
    · exact hx b n r
    · rw [n] at r; cases r
  have hm : ∀ b u, H b = some u → ¬ Mut (some u) → b ≠ x := fun b u q nm z => by subst z; rw [q] at mu; exact nm mu
  refine ⟨fun b u q n _ _ => k b u (hb b n) q, fun b u q n _ _ => ⟨u.slots, k b u (hb b n) q⟩, fun b u q n _ => by rw [upd_ne (hx b n)]; exact n, fun b u q _ => ?_,
    fun b xs q => by rw [upd_ne (hm b _ q fun z => z)]; exact q, fun b u xs q => by rw [upd_ne (hm b _ q fun z => z)]; exact q, fun b ps q => ⟨#[], by rw [upd_ne (hm b _ q fun z => z), q]; simp⟩⟩
  by_cases hbe : b = e
  · subst hbe; exact heo
  · exact ⟨u, k b u hbe q⟩
end

/-! ### the heap without what is tracked -/
def trk (h : Heap) (H : Hp) : List Addr := (List.range h.objs.size).filter fun a => (H a).isSome
def hidT (h : Heap) (H : Hp) : Heap := PySem.W.hideAll h (trk h H)
theorem hidT_size (h : Heap) (H : Hp) : (hidT h H).objs.size = h.objs.size := PySem.W.hideAll_size _ _
theorem hidT_get {h : Heap} {H : Hp} {b : Addr} {o : Obj} (e : h.get? b = some o) (n : H b = none) : (hidT h H).get? b = some o :=
  PySem.W.hideAll_get _ e fun hm => by
    have q : (H b).isSome = true := (List.mem_filter.mp hm).2
    rw [n] at q; simp at q
theorem of_hidT {h : Heap} {H : Hp} {b : Addr} {o : Obj} (e : (hidT h H).get? b = some o) : h.get? b = some o ∧ H b = none := by
  have e' : h.get? b = some o := PySem.W.of_hideAll (trk h H) e
  refine ⟨e', ?_⟩
  cases q : H b with
  | none => rfl
  | some x =>
    have hm : b ∈ trk h H := List.mem_filter.mpr ⟨List.mem_range.mpr (Heap.lt_size e'), by simp [q]⟩
    have z : (hidT h H).get? b = none := PySem.W.hideAll_none (trk h H) hm
    rw [z] at e; cases e

/-! ### OpenK's ledger, filled with every new object but one -/
end L2

namespace L2
open PySem PySem.Spec PyProof.Rows

/-- the module's facts, over the base: the heap at the law's entry without what is tracked there -/
structure Mod (K : PySem.W.Frag) (mg : Str → Option Value) (base : Heap) : Prop where
  kin : K.In base
  glob : base.Ns mainGlobals mg
  blt : ∃ mb, base.Ns builtinsNs mb ∧ ∀ x : Str, x ≠ "__name__" → mb x = bootBuiltins x
  nolimit : base.NoLimit

/-- the context: a def's body (or a comprehension's block) running. base: fixed through the whole law; s₀, H₀: the entry; outer: the frames whose slots others may change (a def's callers); stack: all frames that run;
   ex: iterators that were made ahead of the entry and are walked here (a comprehension's); fn: the names whose cells were made at the entry (a def: all; a comprehension's block: its own); calm: not within an except suite; pn: pins that every state bears; xe: what is wanted of an exception that leaves the code -/
structure Cx where
  prog : Program
  w : World
  K : PySem.W.Frag
  mg : Str → Option Value
  base : Heap
  A : Around
  N : List Str
  s₀ : Shared
  H₀ : Hp
  env : Env
  outer : List Env
  stack : List Env
  ex : List Addr
  fn : Str → Bool
  calm : Bool
  pn : List (Addr × Obj)
  xe : Value → Shared → Prop
/-- the callers' frames -/
def frs (l : List Env) : List Addr := l.filterMap (·.frame)
abbrev Cx.fs (X : Cx) : List Addr := frs X.outer

def Vis (sc : Scope) (x : Str) : Prop := sc.names.lookup x = some .local ∨ sc.names.lookup x = some .cell ∨ sc.names.lookup x = some .free
def Loc (sc : Scope) (x : Str) : Prop := sc.names.lookup x = some .local ∨ sc.names.lookup x = some .cell
def Look (env : Env) (h : Heap) (m : Str → Option Value) (x : Str) (u : Value) : Prop :=
  (env.kindOf x = some .local ∧ m x = some u) ∨ ((env.kindOf x = some .cell ∨ env.kindOf x = some .free) ∧ ∃ c, env.cells.lookup x = some c ∧ h.IsCell c (some u))

structure Cx.Ok (X : Cx) : Prop where
  mod : Mod X.K X.mg X.base
  kind : X.env.scope.kind = .function
  glob : X.env.globals = mainGlobals
  blt : X.env.builtins = builtinsNs
  above : X.s₀.heap.objs.size ≤ X.env.locals
  inj : ∀ x y c, X.env.cells.lookup x = some c → X.env.cells.lookup y = some c → x = y
  has : ∀ x, (X.env.kindOf x = some .cell ∨ X.env.kindOf x = some .free) → ∃ c, X.env.cells.lookup x = some c
  cab : ∀ x c, X.fn x = true → X.env.cells.lookup x = some c → X.s₀.heap.objs.size ≤ c
  hd : X.calm = true → X.A.handled = none
  frames : X.A.frames = some X.stack
  stk : X.stack = X.outer ∨ (X.stack = X.env :: X.outer ∧ X.env.frame = some X.env.locals)
  exf : ∀ b ∈ X.ex, b ≠ X.env.locals ∧ ∀ x c, X.env.cells.lookup x = some c → c ≠ b
  bs : ∀ b o, X.base.get? b = some o → X.s₀.heap.get? b = some o ∧ X.H₀ b = none
  bsz : X.base.objs.size ≤ X.s₀.heap.objs.size
  noex : ∀ b o, X.base.get? b = some o → b ∉ X.ex
  exfs : ∀ b ∈ X.ex, b ∉ X.fs
  funs : X.s₀.heap.FunFrames X.base X.outer
  frf : ∀ b ∈ X.fs, X.H₀ b = none

structure Inv (X : Cx) (pins : List (Addr × Obj)) (σ : List (Option V)) (H : Hp) (s : Shared) : Prop where
  ok : X.Ok
  os : s.os = X.s₀.os
  bare : AllBare s.gens
  base : Un X.fs X.ex X.H₀ H X.s₀.heap s.heap
  loc : ∃ m, s.heap.Ns X.env.locals m ∧ ∀ (i : Nat) (x : Str) (v : V), X.N[i]? = some x → σ[i]? = some (some v) → Vis X.env.scope x → ∃ u, RelV v u ∧ Look X.env s.heap m x u
  cell : ∀ x c, X.env.cells.lookup x = some c → ∃ v, s.heap.IsCell c v
  free : H X.env.locals = none
  freeC : ∀ x c, X.env.cells.lookup x = some c → H c = none
  pin : ∀ p ∈ X.pn ++ pins, s.heap.get? p.1 = some p.2 ∧ H p.1 = none ∧ p.1 ≠ X.env.locals ∧ p.1 ∉ X.fs ∧ ∀ v, p.2.data ≠ .cell v
  hok : HOk X.prog X.w H s.heap
  len : σ.length = X.N.length

section
variable {X : Cx} {pins : List (Addr × Obj)} {σ : List (Option V)} {H H' : Hp} {s : Shared} {h' : Heap}

theorem Cx.Ok.nofr (ok : X.Ok) {b : Addr} {o : Obj} (e : X.base.get? b = some o) : b ∉ X.fs := fun hb => by
  have := (ok.funs.mem hb).1
  rw [e] at this; cases this
theorem Inv.bs (I : Inv X pins σ H s) : ∀ b o, X.base.get? b = some o → s.heap.get? b = some o ∧ H b = none := fun b o e =>
  ⟨I.base.keep b o (I.ok.bs b o e).1 (I.ok.bs b o e).2 (I.ok.nofr e) (I.ok.noex b o e), I.base.free b o (I.ok.bs b o e).1 (I.ok.bs b o e).2 (I.ok.noex b o e)⟩
theorem Inv.bk (I : Inv X pins σ H s) : ∀ b o, X.base.get? b = some o → s.heap.get? b = some o := fun b o e => (I.bs b o e).1
theorem Inv.mod (I : Inv X pins σ H s) : Mod X.K X.mg X.base := I.ok.mod
theorem Inv.kIn (I : Inv X pins σ H s) : X.K.In s.heap := I.ok.mod.kin.keeps I.bk
theorem Inv.lt (I : Inv X pins σ H s) : X.env.locals < s.heap.objs.size := let ⟨_, hn, _⟩ := I.loc; hn.lt
theorem Inv.sz (I : Inv X pins σ H s) : X.s₀.heap.objs.size ≤ s.heap.objs.size := Nat.le_trans I.ok.above (Nat.le_of_lt I.lt)
theorem Inv.nofs (I : Inv X pins σ H s) {a : Addr} (h : s.heap.objs.size ≤ a) : a ∉ X.fs := fun hb => by
  obtain ⟨_, o, ho, _⟩ := I.ok.funs.mem hb
  exact absurd (Nat.lt_of_lt_of_le (Heap.lt_size ho) (Nat.le_trans I.sz h)) (Nat.lt_irrefl _)
theorem Inv.cne (I : Inv X pins σ H s) : ∀ x c, X.env.cells.lookup x = some c → c ≠ X.env.locals := fun x c e z => by
  obtain ⟨v, o, ho, hd⟩ := I.cell x c e
  obtain ⟨m, ⟨o', es, ep, ho', hd', _⟩, _⟩ := I.loc
  rw [z, ho'] at ho; cases ho; rw [hd'] at hd; cases hd
theorem Inv.funs (I : Inv X pins σ H s) : s.heap.FunFrames X.base X.outer := by
  have all : ∀ (l : List Env), (∀ b ∈ frs l, b ∈ X.fs) → X.s₀.heap.FunFrames X.base l → s.heap.FunFrames X.base l := by
    intro l
    induction l with
    | nil => intro _ _; trivial
    | cons env r ih =>
      intro hs hl
      obtain ⟨hk, ⟨L, o, hf, hn, ho, hd⟩, hr⟩ := hl
      have hL : L ∈ X.fs := hs L (by unfold frs; rw [List.filterMap_cons, hf]; exact List.mem_cons_self)
      obtain ⟨sl, e⟩ := I.base.slot L o ho (I.ok.frf L hL) hL fun z => I.ok.exfs L z hL
      exact ⟨hk, ⟨L, _, hf, hn, e, hd⟩, ih (fun b hb => hs b (by unfold frs; rw [List.filterMap_cons, hf]; exact List.mem_cons_of_mem _ hb)) hr⟩
  exact all X.outer (fun _ hb => hb) I.ok.funs

/-- the frames that run, for a call -/
theorem Inv.stack (I : Inv X pins σ H s) : s.heap.FunFrames X.base X.stack := by
  rcases I.ok.stk with e | ⟨e, hf⟩
  · rw [e]; exact I.funs
  · rw [e]
    obtain ⟨m, hn, _⟩ := I.loc
    refine .cons (by rw [I.ok.kind]; decide) hf hn ?_ I.funs
    exact Heap.get?_none_of_le (Nat.le_trans I.ok.bsz I.ok.above)
theorem Inv.stkSub (I : Inv X pins σ H s) : ∀ b ∈ frs X.stack, b ∈ X.env.locals :: X.fs := fun b hb => by
  rcases I.ok.stk with e | ⟨e, hf⟩
  · rw [e] at hb; exact List.mem_cons_of_mem _ hb
  · rw [e] at hb
    unfold frs at hb
    rw [List.filterMap_cons, hf] at hb
    exact hb
theorem Inv.stkFree (I : Inv X pins σ H s) : ∀ b ∈ frs X.stack, H b = none := fun b hb => by
  rcases List.mem_cons.mp (I.stkSub b hb) with e | hb
  · rw [e]; exact I.free
  · obtain ⟨_, o, ho, _⟩ := I.ok.funs.mem hb
    exact I.base.free b o ho (I.ok.frf b hb) fun z => I.ok.exfs b z hb

/-- THE STEP: the untracked objects but the frame and the records at ch are kept (the callers' frames up to slots), the frame's map is kept, the new abstract heap is held -/
theorem Inv.step {g' : Array GenState} {t' : Nat} {d' : Drawn} {ch : List Addr} (I : Inv X pins σ H s)
    (hch : ∀ b ∈ ch, (b ∈ X.ex ∨ X.s₀.heap.objs.size ≤ b) ∧ b ≠ X.env.locals ∧ (∀ x c, X.env.cells.lookup x = some c → c ≠ b) ∧ ∀ p ∈ X.pn ++ pins, p.1 ≠ b)
    (keep : ∀ b o, b ≠ X.env.locals → b ∉ X.fs → b ∉ ch → s.heap.get? b = some o → H b = none → h'.get? b = some o)
    (slot : ∀ b o, b ≠ X.env.locals → b ∈ X.fs → b ∉ ch → s.heap.get? b = some o → H b = none → ∃ sl, h'.get? b = some { o with slots := sl }) (free : ∀ b o, b ∉ ch → s.heap.get? b = some o → H b = none → H' b = none)
    (there : ∀ b o, b ∉ ch → s.heap.get? b = some o → ∃ o', h'.get? b = some o')
    (tups : ∀ b xs, H b = some (.tup xs) → H' b = some (.tup xs)) (frzs : ∀ b o u, H b = some (.frz o u) → H' b = some (.frz o u)) (tbls : ∀ b ps, H b = some (.tbl ps) → ∃ more, H' b = some (.tbl (ps ++ more)))
    (ns : ∀ m, s.heap.Ns X.env.locals m → h'.Ns X.env.locals m) (hok : HOk X.prog X.w H' h') (hg : AllBare g') :
    Inv X pins σ H' { s with heap := h', gens := g', drawn := d', toks := t' } := by
  have neL : ∀ b o, X.s₀.heap.get? b = some o → b ≠ X.env.locals := fun b o e => Nat.ne_of_lt (Nat.lt_of_lt_of_le (Heap.lt_size e) I.ok.above)
  have neC : ∀ b o, X.s₀.heap.get? b = some o → b ∉ X.ex → b ∉ ch := fun b o e hx hb => by
    rcases (hch b hb).1 with z | z
    · exact hx z
    · exact absurd (Nat.lt_of_lt_of_le (Heap.lt_size e) z) (Nat.lt_irrefl _)
  have cellK : ∀ x c, X.env.cells.lookup x = some c → ∀ v, s.heap.IsCell c v → h'.IsCell c v := fun x c e v ⟨o, ho, hd⟩ => by
    have nch : c ∉ ch := fun z => (hch c z).2.2.1 x c e rfl
    by_cases hc : c ∈ X.fs
    · obtain ⟨sl, q⟩ := slot c o (I.cne x c e) hc nch ho (I.freeC x c e)
      exact ⟨_, q, hd⟩
    · exact ⟨o, keep c o (I.cne x c e) hc nch ho (I.freeC x c e), hd⟩
  refine ⟨I.ok, I.os, hg, ⟨fun b o e n hb hx => ?_, fun b o e n hb hx => ?_, fun b o e n hx => ?_, fun b o e hx => ?_, fun b xs e => tups b xs (I.base.tups b xs e), fun b o xs e => frzs b o xs (I.base.frzs b o xs e), fun b ps e => ?_⟩, ?_, fun x c e => ?_, ?_, fun x c e => ?_, fun p hp => ?_, hok, I.len⟩
  · exact keep b o (neL b o e) hb (neC b o e hx) (I.base.keep b o e n hb hx) (I.base.free b o e n hx)
  · obtain ⟨sl, e1⟩ := I.base.slot b o e n hb hx
    obtain ⟨sl', e2⟩ := slot b _ (neL b o e) hb (neC b o e hx) e1 (I.base.free b o e n hx)
    exact ⟨sl', e2⟩
  · obtain ⟨o', e1⟩ := I.base.there b o e hx
    exact free b o' (neC b o e hx) e1 (I.base.free b o e n hx)
  · obtain ⟨o', e1⟩ := I.base.there b o e hx
    exact there b o' (neC b o e hx) e1
  · obtain ⟨m1, e1⟩ := I.base.tbls b ps e
    obtain ⟨m2, e2⟩ := tbls b _ e1
    exact ⟨m1 ++ m2, by rw [e2, Array.append_assoc]⟩
  · obtain ⟨m, hn, hl⟩ := I.loc
    refine ⟨m, ns m hn, fun i x v e1 e2 e3 => ?_⟩
    obtain ⟨u, r, l⟩ := hl i x v e1 e2 e3
    refine ⟨u, r, ?_⟩
    rcases l with l | ⟨k, c, e, z⟩
    · exact .inl l
    · exact .inr ⟨k, c, e, cellK x c e _ z⟩
  · obtain ⟨v, z⟩ := I.cell x c e
    exact ⟨v, cellK x c e v z⟩
  · obtain ⟨m, ⟨o, _, _, ho, _⟩, _⟩ := I.loc
    exact free _ o (fun z => (hch _ z).2.1 rfl) ho I.free
  · obtain ⟨v, o, ho, hd⟩ := I.cell x c e
    exact free c o (fun z => (hch c z).2.2.1 x c e rfl) ho (I.freeC x c e)
  · obtain ⟨e, n, ne, nf, d⟩ := I.pin p hp
    have nch : p.1 ∉ ch := fun z => (hch p.1 z).2.2.2 p hp rfl
    exact ⟨keep p.1 p.2 ne nf nch e n, free p.1 p.2 nch e n, ne, nf, d⟩
/-- .. where the frame's own object is kept too -/
theorem Inv.un {t' : Nat} (I : Inv X pins σ H s) (u : Un X.fs [] H H' s.heap h') (hok : HOk X.prog X.w H' h') : Inv X pins σ H' { s with heap := h', toks := t' } := by
  obtain ⟨m, ⟨o, es, ep, ho, r⟩, _⟩ := id I.loc
  obtain ⟨sl, hL⟩ := u.any ho I.free (by simp)
  exact I.step (g' := s.gens) (d' := s.drawn) (ch := []) (fun _ z => nomatch z) (fun b o _ hb _ e n => u.keep b o e n hb (by simp)) (fun b o _ hb _ e n => u.slot b o e n hb (by simp)) (fun b o _ e n => u.free b o e n (by simp)) (fun b o _ e => u.there b o e (by simp)) u.tups u.frzs u.tbls (fun m' hm => by
    obtain ⟨o', es', ep', ho', r'⟩ := hm
    rw [ho] at ho'; cases ho'
    exact ⟨_, es', ep', hL, r'⟩) hok I.bare
/-- behind a call (or a comprehension's block): the slots of this frame may have changed too, the records at ch may have turned -/
theorem Inv.call {g' : Array GenState} {t' : Nat} {d' : Drawn} {ch : List Addr} (I : Inv X pins σ H s) (u : Un (frs X.stack) ch H H' s.heap h') (hok : HOk X.prog X.w H' h') (hg : AllBare g')
    (hch : ∀ b ∈ ch, (b ∈ X.ex ∨ X.s₀.heap.objs.size ≤ b) ∧ b ≠ X.env.locals ∧ (∀ x c, X.env.cells.lookup x = some c → c ≠ b) ∧ ∀ p ∈ X.pn ++ pins, p.1 ≠ b) :
    Inv X pins σ H' { s with heap := h', gens := g', drawn := d', toks := t' } := by
  obtain ⟨m, ⟨o, es, ep, ho, r⟩, _⟩ := id I.loc
  obtain ⟨sl, hL⟩ := u.any ho I.free fun z => (hch _ z).2.1 rfl
  exact I.step (ch := ch) hch (fun b o hL hb hc e n => u.keep b o e n (fun z => (List.mem_cons.mp (I.stkSub b z)).elim hL hb) hc) (fun b o _ _ hc e n => u.any e n hc) (fun b o hc e n => u.free b o e n hc) (fun b o hc e => u.there b o e hc) u.tups u.frzs u.tbls (fun m' hm => by
    obtain ⟨o', es', ep', ho', r'⟩ := hm
    rw [ho] at ho'; cases ho'
    exact ⟨_, es', ep', hL, r'⟩) hok hg
/-- an untracked record of ours (an iterator) has turned -/
theorem Inv.turned {t' : Nat} {it : Addr} (I : Inv X pins σ H s) (k : ∀ b o, b ≠ it → s.heap.get? b = some o → h'.get? b = some o) (hn : H it = none) (hL : it ≠ X.env.locals)
    (h1 : it ∈ X.ex ∨ X.s₀.heap.objs.size ≤ it) (h2 : ∀ x c, X.env.cells.lookup x = some c → c ≠ it) (h3 : ∀ p ∈ X.pn ++ pins, p.1 ≠ it) : Inv X pins σ H { s with heap := h', toks := t' } := by
  have nit : ∀ b u, H b = some u → b ≠ it := fun b u e z => by rw [z, hn] at e; cases e
  refine I.step (g' := s.gens) (d' := s.drawn) (ch := [it]) (fun b hb => ?_) (fun b o _ _ hc e _ => k b o (fun z => hc (by simp [z])) e) (fun b o _ _ hc e _ => ⟨o.slots, k b o (fun z => hc (by simp [z])) e⟩) (fun _ _ _ _ n => n)
    (fun b o hc e => ⟨o, k b o (fun z => hc (by simp [z])) e⟩) (fun _ _ e => e) (fun _ _ _ e => e) (fun b ps e => ⟨#[], by rw [e]; simp⟩) (fun m hm => ?_) (fun b u e => ?_) I.bare
  · have e : b = it := by simpa using hb
    subst e
    exact ⟨h1, hL, h2, h3⟩
  · obtain ⟨o, es, ep, ho, r⟩ := hm
    exact ⟨o, es, ep, k _ o (Ne.symm hL) ho, r⟩
  · refine (I.hok b u e).stay (fun c v hc q => k c v ?_ q) (fun _ q => q) fun _ _ q => q
    rcases hc with z | z
    · rw [z]; exact nit b u e
    · exact nit c _ z
theorem Inv.tok (I : Inv X pins σ H s) (t : Nat) : Inv X pins σ H { s with toks := t } := I.un (h' := s.heap) (t' := t) Un.refl I.hok
/-- all objects kept -/
theorem Inv.kept {t' : Nat} (I : Inv X pins σ H s) (k : ∀ b u, s.heap.get? b = some u → h'.get? b = some u) : Inv X pins σ H { s with heap := h', toks := t' } := I.un (Un.kept k) (I.hok.kept k)
/-- a new object laid and tracked -/
theorem Inv.laid {a : Addr} {o : HO} {t' : Nat} (I : Inv X pins σ H s) (k : ∀ b u, s.heap.get? b = some u → h'.get? b = some u) (hp : s.heap.objs.size ≤ a) (new : ObjOk X.prog X.w (upd H a o) h' a o) :
    Inv X pins σ (upd H a o) { s with heap := h', toks := t' } := I.un (Un.laid k hp (I.hok.fresh hp)) (I.hok.laid k hp new)
/-- an object written -/
theorem Inv.write {x e : Addr} {o : HO} {t' : Nat} (I : Inv X pins σ H s) (mu : Mut (H x)) (he : e = x ∨ H e = some (.own x)) (k : ∀ b u, b ≠ e → s.heap.get? b = some u → h'.get? b = some u) (heo : ∃ u, h'.get? e = some u)
    (new : ObjOk X.prog X.w (upd H x o) h' x o) : Inv X pins σ (upd H x o) { s with heap := h', toks := t' } := I.un (Un.write mu he k heo) (I.hok.write mu he k heo new)
/-- forgetting slots, pins -/
theorem Inv.weak {σ' : List (Option V)} (I : Inv X pins σ H s) (hl : σ'.length = σ.length) (w : ∀ (i : Nat) v, σ'[i]? = some (some v) → σ[i]? = some (some v)) : Inv X pins σ' H s :=
  ⟨I.ok, I.os, I.bare, I.base, let ⟨m, hn, hl'⟩ := I.loc; ⟨m, hn, fun i x v e1 e2 e3 => hl' i x v e1 (w i v e2) e3⟩, I.cell, I.free, I.freeC, I.pin, I.hok, hl.trans I.len⟩
theorem Inv.pins_of {pins' : List (Addr × Obj)} (I : Inv X pins σ H s) (h : ∀ p ∈ pins', s.heap.get? p.1 = some p.2 ∧ H p.1 = none ∧ p.1 ≠ X.env.locals ∧ p.1 ∉ X.fs ∧ ∀ v, p.2.data ≠ .cell v) : Inv X pins' σ H s :=
  ⟨I.ok, I.os, I.bare, I.base, I.loc, I.cell, I.free, I.freeC, fun p hp => (List.mem_append.mp hp).elim (fun z => I.pin p (List.mem_append_left _ z)) (h p), I.hok, I.len⟩

theorem nodup_ix {N : List Str} (hN : N.Nodup) {i j : Nat} {x : Str} (a : N[i]? = some x) (b : N[j]? = some x) : i = j := by
  obtain ⟨h1, e1⟩ := List.getElem?_eq_some_iff.mp a
  obtain ⟨h2, e2⟩ := List.getElem?_eq_some_iff.mp b
  exact (List.getElem_inj hN).mp (e1.trans e2.symm)

/-- a name is stored; what changed -/
theorem store_ok2 {M : Model} {A : Around} {E : Value → Shared → Prop} {i : Nat} {x : Str} {v : V} {u : Value} {Q : Unit → Shared → Prop} (I : Inv X pins σ H s) (hN : X.N.Nodup) (hi : X.N[i]? = some x) (hx : Loc X.env.scope x) (r : RelV v u)
    (h : ∀ s', Inv X pins (σ.set i (some v)) H s' → (∃ a, Heap.SameBut a s.heap s'.heap ∧ (a = X.env.locals ∨ X.env.cells.lookup x = some a)) → Q () s') (hf : X.fn x = true ∨ X.env.scope.names.lookup x = some .local := by first | exact .inl rfl | exact .inr rfl | assumption) : wpAny M A (storeName X.env x u) Q E s := by
  obtain ⟨m, hn, hl⟩ := id I.loc
  have hcls : (X.env.scope.kind == .class || (X.env.scope.kind == .module && X.env.locals != X.env.globals)) = false := by rw [I.ok.kind]; rfl
  have hiσ : i < σ.length := by rw [I.len]; exact (List.getElem?_eq_some_iff.mp hi).1
  have cne := I.cne
  have tracked : ∀ {a : Addr} {h' : Heap}, (∃ o, s.heap.get? a = some o ∧ H a = none) → Heap.SameBut a s.heap h' → HOk X.prog X.w H h' := fun {a h'} ha hs b ob e => by
    obtain ⟨_, _, hfree⟩ := ha
    refine (I.hok b ob e).stay (fun c w' hc q => (hs.2 c ?_).trans q) (fun _ q => q) fun _ _ q => q
    rintro rfl
    rcases hc with rfl | hc
    · rw [hfree] at e; cases e
    · rw [hfree] at hc; cases hc
  rcases hx with hk | hk
  · refine wpAny_storeName_local hk hn (fun h' hn' hs => ?_) hcls
    obtain ⟨oL, _, _, hoL, _⟩ := id hn
    refine h _ ⟨I.ok, I.os, I.bare, ⟨fun b o e n hb hx => ?_, fun b o e n hb hx => ?_, I.base.free, fun b o e hx => ?_, I.base.tups, I.base.frzs, I.base.tbls⟩, ⟨_, hn', fun j y v' e1 e2 e3 => ?_⟩, fun y c e => ?_, I.free, I.freeC, fun p hp => ?_, tracked ⟨oL, hoL, I.free⟩ hs, by simpa using I.len⟩ ⟨_, hs, .inl rfl⟩
    · exact (hs.2 b (Nat.ne_of_lt (Nat.lt_of_lt_of_le (Heap.lt_size e) I.ok.above))).trans (I.base.keep b o e n hb hx)
    · obtain ⟨sl, e1⟩ := I.base.slot b o e n hb hx
      exact ⟨sl, (hs.2 b (Nat.ne_of_lt (Nat.lt_of_lt_of_le (Heap.lt_size e) I.ok.above))).trans e1⟩
    · obtain ⟨o', e1⟩ := I.base.there b o e hx
      exact ⟨o', (hs.2 b (Nat.ne_of_lt (Nat.lt_of_lt_of_le (Heap.lt_size e) I.ok.above))).trans e1⟩
    · by_cases hj : j = i
      · subst hj
        rw [hi] at e1; cases e1
        rw [List.getElem?_set_self hiσ] at e2
        cases e2
        exact ⟨u, r, .inl ⟨hk, by simp⟩⟩
      · rw [List.getElem?_set_ne (Ne.symm hj)] at e2
        obtain ⟨u', r', q⟩ := hl j y v' e1 e2 e3
        refine ⟨u', r', ?_⟩
        rcases q with ⟨k, e⟩ | ⟨k, c, e, z⟩
        · refine .inl ⟨k, ?_⟩
          have : y ≠ x := fun e => hj (nodup_ix hN e1 (e ▸ hi))
          simp [this, e]
        · exact .inr ⟨k, c, e, z.sameBut hs (cne y c e)⟩
    · obtain ⟨w', z⟩ := I.cell y c e
      exact ⟨w', z.sameBut hs (cne y c e)⟩
    · obtain ⟨e, n, ne, nf, d⟩ := I.pin p hp
      exact ⟨(hs.2 p.1 ne).trans e, n, ne, nf, d⟩
  · have hfn : X.fn x = true := by
      rcases hf with z | z
      · exact z
      · rw [z] at hk; cases hk
    obtain ⟨c, hc⟩ := I.ok.has x (.inl hk)
    obtain ⟨w', z⟩ := I.cell x c hc
    refine wpAny_storeName_cell I.ok.kind hk hc z (fun h' hc' hs => ?_)
    obtain ⟨oc, hoc, hocd⟩ := id z
    refine h { s with heap := h' } ⟨I.ok, I.os, I.bare, ⟨fun b o e n hb hx => ?_, fun b o e n hb hx => ?_, I.base.free, fun b o e hx => ?_, I.base.tups, I.base.frzs, I.base.tbls⟩, ⟨m, hn.sameBut hs (Ne.symm (cne x c hc)), fun j y v' e1 e2 e3 => ?_⟩, fun y c' e => ?_, I.free, I.freeC, fun p hp => ?_, tracked ⟨oc, hoc, I.freeC x c hc⟩ hs, by simpa using I.len⟩ ⟨c, hs, .inr hc⟩
    · exact (hs.2 b (Nat.ne_of_lt (Nat.lt_of_lt_of_le (Heap.lt_size e) (I.ok.cab x c hfn hc)))).trans (I.base.keep b o e n hb hx)
    · obtain ⟨sl, e1⟩ := I.base.slot b o e n hb hx
      exact ⟨sl, (hs.2 b (Nat.ne_of_lt (Nat.lt_of_lt_of_le (Heap.lt_size e) (I.ok.cab x c hfn hc)))).trans e1⟩
    · obtain ⟨o', e1⟩ := I.base.there b o e hx
      exact ⟨o', (hs.2 b (Nat.ne_of_lt (Nat.lt_of_lt_of_le (Heap.lt_size e) (I.ok.cab x c hfn hc)))).trans e1⟩
    · by_cases hj : j = i
      · subst hj
        rw [hi] at e1; cases e1
        rw [List.getElem?_set_self hiσ] at e2
        cases e2
        exact ⟨u, r, .inr ⟨.inl hk, c, hc, hc'⟩⟩
      · rw [List.getElem?_set_ne (Ne.symm hj)] at e2
        obtain ⟨u', r', q⟩ := hl j y v' e1 e2 e3
        refine ⟨u', r', ?_⟩
        rcases q with q | ⟨k, c', e, z'⟩
        · exact .inl q
        · refine .inr ⟨k, c', e, z'.sameBut hs ?_⟩
          rintro rfl
          exact hj (nodup_ix hN e1 (I.ok.inj _ _ _ e hc ▸ hi))
    · by_cases hcc : c' = c
      · subst hcc; exact ⟨_, hc'⟩
      · obtain ⟨w2, z2⟩ := I.cell y c' e
        exact ⟨w2, z2.sameBut hs hcc⟩
    · obtain ⟨e, n, ne, nf, d⟩ := I.pin p hp
      refine ⟨(hs.2 p.1 ?_).trans e, n, ne, nf, d⟩
      intro q
      rw [q, hoc] at e
      have q' : oc = p.2 := Option.some.inj e
      exact d w' (by rw [← q']; exact hocd)
theorem store_ok {M : Model} {A : Around} {E : Value → Shared → Prop} {i : Nat} {x : Str} {v : V} {u : Value} {Q : Unit → Shared → Prop} (I : Inv X pins σ H s) (hN : X.N.Nodup) (hi : X.N[i]? = some x) (hx : Loc X.env.scope x) (r : RelV v u)
    (h : ∀ s', Inv X pins (σ.set i (some v)) H s' → Q () s') (hf : X.fn x = true ∨ X.env.scope.names.lookup x = some .local := by first | exact .inl rfl | exact .inr rfl | assumption) : wpAny M A (storeName X.env x u) Q E s :=
  store_ok2 I hN hi hx r (fun s' I' _ => h s' I') hf
/-- behind a call or a block, the state as it is -/
theorem Inv.call' {s' : Shared} {ch : List Addr} (I : Inv X pins σ H s) (ho : s'.os = s.os) (u : Un (frs X.stack) ch H H' s.heap s'.heap) (hok : HOk X.prog X.w H' s'.heap) (hg : AllBare s'.gens)
    (hch : ∀ b ∈ ch, (b ∈ X.ex ∨ X.s₀.heap.objs.size ≤ b) ∧ b ≠ X.env.locals ∧ (∀ x c, X.env.cells.lookup x = some c → c ≠ b) ∧ ∀ p ∈ X.pn ++ pins, p.1 ≠ b) : Inv X pins σ H' s' := by
  obtain ⟨h', g', d', t', o'⟩ := s'
  have e : o' = s.os := ho
  subst e
  exact I.call (g' := g') (t' := t') (d' := d') u hok hg hch
end

/-! ### the judgements -/
/-- an exception: its class, its own dict's address (where it has one), the abstract heap behind it -/
abbrev XK := Value → Option Addr → Hp → Prop
abbrev St := List (Option V)
abbrev VK := V → Hp → Prop
/-- an expression's reading; a test's; an argument list's -/
abbrev TE := St → Hp → VK → Prop
abbrev TT := St → Hp → (Bool → Hp → Prop) → Prop
abbrev TA := St → Hp → (List V → Hp → Prop) → Prop
/-- what is wanted behind a statement -/
structure Ends where
  nx : St → Hp → Prop
  rt : VK
  bk : St → Hp → Prop := fun _ _ => False
  ct : St → Hp → Prop := fun _ _ => False
abbrev TS := Ends → St → Hp → Prop

def EP (X : Cx) (pins : List (Addr × Obj)) (σ : St) (Q : VK) (u : Value) (s' : Shared) : Prop := ∃ v H', Inv X pins σ H' s' ∧ RelV v u ∧ Q v H'
def TP (X : Cx) (pins : List (Addr × Obj)) (σ : St) (Q : Bool → Hp → Prop) (b : Bool) (s' : Shared) : Prop := ∃ H', Inv X pins σ H' s' ∧ Q b H'
def AP (X : Cx) (pins : List (Addr × Obj)) (σ : St) (Q : List V → Hp → Prop) (us : List Value) (s' : Shared) : Prop := ∃ vs H', Inv X pins σ H' s' ∧ Vals vs us ∧ Q vs H'
def SP (X : Cx) (pins : List (Addr × Obj)) (D : Ends) (f : Flow) (s' : Shared) : Prop :=
  match f with
  | .next => ∃ σ' H', Inv X pins σ' H' s' ∧ D.nx σ' H'
  | .brk => ∃ σ' H', Inv X pins σ' H' s' ∧ D.bk σ' H'
  | .cont => ∃ σ' H', Inv X pins σ' H' s' ∧ D.ct σ' H'
  | .ret u => ∃ v σ' H', Inv X pins σ' H' s' ∧ RelV v u ∧ D.rt v H'

def PE (X : Cx) (e : Expr) (t : TE) : Prop :=
  ∀ (pins : List (Addr × Obj)) (s : Shared) (σ : St) (H : Hp) (Q : VK), Inv X pins σ H s → t σ H Q → wpAny (model X.prog X.w) X.A (eval e X.env) (EP X pins σ Q) X.xe s
def PT (X : Cx) (e : Expr) (t : TT) : Prop :=
  ∀ (pins : List (Addr × Obj)) (s : Shared) (σ : St) (H : Hp) (Q : Bool → Hp → Prop), Inv X pins σ H s → t σ H Q → wpAny (model X.prog X.w) X.A (isTrue e X.env (eval e X.env)) (TP X pins σ Q) X.xe s
/-- a test whatever its 'whole' is (and, or) -/
def PW (X : Cx) (e : Expr) (t : TT) : Prop :=
  ∀ (whole : Sem Value) (pins : List (Addr × Obj)) (s : Shared) (σ : St) (H : Hp) (Q : Bool → Hp → Prop), Inv X pins σ H s → t σ H Q → wpAny (model X.prog X.w) X.A (isTrue e X.env whole) (TP X pins σ Q) X.xe s
theorem PW.pt {X : Cx} {e : Expr} {t : TT} (h : PW X e t) : PT X e t := h _
/-- an argument list (no star), from the left -/
def PA (X : Cx) (es : List Expr) (t : TA) : Prop :=
  ∀ (pos : Pos) (pins : List (Addr × Obj)) (s : Shared) (σ : St) (H : Hp) (Q : List V → Hp → Prop), Inv X pins σ H s → t σ H Q → wpAny (model X.prog X.w) X.A (spliced (backTo pos (starEach es X.env))) (AP X pins σ Q) X.xe s
def PS (X : Cx) (st : Stmt) (t : TS) : Prop :=
  ∀ (pins : List (Addr × Obj)) (s : Shared) (σ : St) (H : Hp) (D : Ends), Inv X pins σ H s → t D σ H → wpAny (model X.prog X.w) X.A (exec st X.env) (SP X pins D) X.xe s
def PSs (X : Cx) (st : List Stmt) (t : TS) : Prop :=
  ∀ (pins : List (Addr × Obj)) (s : Shared) (σ : St) (H : Hp) (D : Ends), Inv X pins σ H s → t D σ H → wpAny (model X.prog X.w) X.A (execs st X.env) (SP X pins D) X.xe s
/-- weaken the end -/
theorem thn {α : Type} {t : Sem α} {Q Q' : α → Shared → Prop} {M : Model} {A : Around} {E : Value → Shared → Prop} {s : Shared} (h : wpAny M A t Q E s) (hQ : ∀ a s, Q a s → Q' a s) : wpAny M A t Q' E s := wpAny_mono h hQ fun _ _ x => x
end L2

namespace L2
open PySem PySem.Spec PyProof.Rows
section
variable {X : Cx}


/-! ### names and constants -/
def tVar (i : Nat) : TE := fun σ H Q => ∃ v, σ[i]? = some (some v) ∧ Q v H
def tC (v : V) : TE := fun _ H Q => Q v H
theorem pe_var {i : Nat} {x : Str} {pos : Pos} (hN : X.N[i]? = some x) (hv : Vis X.env.scope x) (hd : (x == ("__debug__" : Str)) = false := by decide) (hcd : (x == ("__classdict__" : Str)) = false := by decide) : PE X (.Name x pos) (tVar i) := by
  intro pins s σ H Q I h
  obtain ⟨v, e, h⟩ := h
  obtain ⟨m, hn, hl⟩ := I.loc
  obtain ⟨u, r, l⟩ := hl i x v hN e hv
  have fin : EP X pins σ Q u s := ⟨v, H, I, r, h⟩
  rcases l with ⟨hk, hm⟩ | ⟨hk, c, hc, hcell⟩
  · exact wpAny_Name (wpAny_loadName_local I.ok.kind hk hn hm fin) hd
  · rcases hk with hk | hk
    · exact wpAny_Name (wpAny_loadName_cell I.ok.kind hk hc hcell fin) hd
    · exact wpAny_Name (wpAny_loadName_free I.ok.kind hk hc hcell fin hcd) hd
theorem pe_int {i j pos} : PE X (.Constant (.int i) j pos) (tC (.int i)) := fun _ _ _ H _ I h => wpAny_Constant_int ⟨.int i, H, I.tok _, ⟨_, rfl⟩, h⟩
theorem pe_bl {b j pos} : PE X (.Constant (.bool b) j pos) (tC (.bl b)) := fun _ _ _ H _ I h => Constant_bool ⟨.bl b, H, I, rfl, h⟩

/-- a global name of the def -/
def Gl (X : Cx) (x : Str) : Prop := X.env.kindOf x = some .globalImplicit
theorem ld_glob {E : Value → Shared → Prop} {pins : List (Addr × Obj)} {s : Shared} {σ : St} {H : Hp} {x : Str} {u : Value} {pos : Pos} {Q : Value → Shared → Prop} (I : Inv X pins σ H s) (hg : Gl X x) (hm : X.mg x = some u) (h : Q u s)
    (hd : (x == ("__debug__" : Str)) = false := by decide) : wpAny (model X.prog X.w) X.A (eval (.Name x pos) X.env) Q E s :=
  Calls.Name_function_global I.ok.kind hg (Calls.loadGlobal_global (by rw [I.ok.glob]; exact I.mod.glob.keeps I.bk) hm h) hd
theorem ld_blt {E : Value → Shared → Prop} {pins : List (Addr × Obj)} {s : Shared} {σ : St} {H : Hp} {x : Str} {u : Value} {pos : Pos} {Q : Value → Shared → Prop} (I : Inv X pins σ H s) (hg : Gl X x) (hm : X.mg x = none) (hv : bootBuiltins x = some u) (h : Q u s)
    (hn : x ≠ "__name__" := by decide) (hd : (x == ("__debug__" : Str)) = false := by decide) : wpAny (model X.prog X.w) X.A (eval (.Name x pos) X.env) Q E s := by
  obtain ⟨mb, h1, h2⟩ := I.mod.blt
  exact Calls.Name_function_global I.ok.kind hg (Calls.loadGlobal_builtin (by rw [I.ok.glob]; exact I.mod.glob.keeps I.bk) hm (by rw [I.ok.blt]; exact h1.keeps I.bk) ((h2 x hn).trans hv) h) hd
theorem pe_bltn {x : Str} {v : V} {u : Value} {pos : Pos} (hg : Gl X x) (hm : X.mg x = none) (hv : bootBuiltins x = some u) (r : RelV v u) (hn : x ≠ "__name__" := by decide) (hd : (x == ("__debug__" : Str)) = false := by decide) : PE X (.Name x pos) (tC v) :=
  fun _ _ _ H _ I h => ld_blt I hg hm hv ⟨v, H, I, r, h⟩ hn hd

/-! ### arithmetic -/
variable {a b : Expr} {ta tb : TE} {pos : Pos}

/-! ### comparisons -/
/-- a comparison as a value, as a test -/
def tB (t : TE) : TT := fun σ H Q => t σ H fun x H1 => ∃ c, x = .bl c ∧ Q c H1
/-- an expression whose value is a bool, as a test -/
theorem pt_val {e : Expr} {t : TE} (h : PE X e t) (he : ∀ whole, isTrue e X.env whole = (do let v ← whole; standAt e.pos; holding [v] (truthy v)) := by intro _; rfl) : PT X e (tB t) := by
  intro pins s σ H Q I hw
  refine isTrue_plain (thn (h pins s σ H _ I hw) fun v s1 ⟨x, H1, I1, r1, q1⟩ => ?_) (he _)
  obtain ⟨d, rfl, q⟩ := q1
  cases r1
  exact wpAny_truthy_bool ⟨H1, I1, q⟩

/-! ### and, or, not -/
variable {tA tB' : TT} {rest : List Expr}
def tOr (t u : TT) : TT := fun σ H Q => t σ H fun c H1 => if c = true then Q true H1 else u σ H1 Q
def tNot (t : TT) : TT := fun σ H Q => t σ H fun c H1 => Q (!c) H1
theorem pw_or1 (ha : PT X a tA) : PW X (.BoolOp .Or [a] pos) tA := by
  intro wh pins s σ H Q I h
  refine isTrue_or (thn (ha pins s σ H Q I h) fun c s1 e => ?_)
  cases c with
  | false => exact isTrue_or_nil e
  | true => exact e
theorem pw_or (ha : PT X a tA) (hb : PW X (.BoolOp .Or (b :: rest) pos) tB') : PW X (.BoolOp .Or (a :: b :: rest) pos) (tOr tA tB') := by
  intro wh pins s σ H Q I h
  refine isTrue_or (thn (ha pins s σ H _ I h) fun c s1 ⟨H1, I1, q1⟩ => ?_)
  cases c with
  | true => exact ⟨H1, I1, q1⟩
  | false => exact hb wh pins s1 σ H1 Q I1 q1
theorem pt_not (ha : PT X a tA) : PT X (.UnaryOp .Not a pos) (tNot tA) := by
  intro pins s σ H Q I h
  exact isTrue_not (ha pins s σ H (fun c H1 => Q (!c) H1) I h)
/-- .. as values (bools) -/
def tAndV (ta tb : TE) : TE := fun σ H Q => ta σ H fun x H1 => ∃ c, x = .bl c ∧ if c = true then tb σ H1 Q else Q (.bl false) H1
def tNotV (ta : TE) : TE := fun σ H Q => ta σ H fun x H1 => ∃ c, x = .bl c ∧ Q (.bl (!c)) H1
theorem pe_one {op} {t : TE} (h : PE X a t) : PE X (.BoolOp op [a] pos) t := fun pins s σ H Q I hw => BoolOp_one (h pins s σ H Q I hw)
theorem pe_and (ha : PE X a ta) (hb : PE X (.BoolOp .And (b :: rest) pos) tb) : PE X (.BoolOp .And (a :: b :: rest) pos) (tAndV ta tb) := by
  intro pins s σ H Q I h
  refine BoolOp_and (thn (ha pins s σ H _ I h) fun v s1 ⟨x, H1, I1, r1, q1⟩ => ?_)
  obtain ⟨c, rfl, q1⟩ := q1
  cases r1
  refine wpAny_truthy_bool ?_
  cases c with
  | true => exact hb pins s1 σ H1 Q I1 q1
  | false => exact ⟨.bl false, H1, I1, rfl, q1⟩
theorem pe_not (ha : PE X a ta) : PE X (.UnaryOp .Not a pos) (tNotV ta) := by
  intro pins s σ H Q I h
  refine UnaryOp_ (thn (ha pins s σ H _ I h) fun v s1 ⟨x, H1, I1, r1, q1⟩ => ?_)
  obtain ⟨c, rfl, q1⟩ := q1
  cases r1
  exact not_of (wpAny_truthy_bool ⟨.bl (!c), H1, I1, rfl, q1⟩)
/-- a if t else b -/
def tIf (t : TT) (ta tb : TE) : TE := fun σ H Q => t σ H fun c H1 => if c = true then ta σ H1 Q else tb σ H1 Q
theorem pe_ifExp {c : Expr} (hc : PT X c tA) (ha : PE X a ta) (hb : PE X b tb) : PE X (.IfExp c a b pos) (tIf tA ta tb) := by
  intro pins s σ H Q I h
  refine wpAny_IfExp (thn (hc pins s σ H _ I h) fun d s1 ⟨H1, I1, q1⟩ => ?_)
  cases d with
  | true => exact ha pins s1 σ H1 Q I1 q1
  | false => exact hb pins s1 σ H1 Q I1 q1
end
end L2

namespace L2
open PySem PySem.Spec PyProof.Rows

/-! ### a list, a tuple that is read: tracked, frozen, or an object of the module -/
def SqL (K : PySem.W.Frag) (H : Hp) (a : Addr) (xs : List V) : Prop :=
  Rd H a (.lst xs) ∨
    ∃ (o : Obj) (its : Array Value) (n : Nat), K.lookup a = some o ∧ o.cls = .type "list" ∧ o.dict = none ∧ o.data = .seq its n ∧ its.size ≤ sizeLine ∧ Vals xs its.toList
def SqT (K : PySem.W.Frag) (H : Hp) (a : Addr) (xs : List V) : Prop :=
  Rd H a (.tup xs) ∨
    ∃ (o : Obj) (its : Array Value) (n : Nat), K.lookup a = some o ∧ o.cls = .type "tuple" ∧ o.data = .seq its n ∧ its.size ≤ sizeLine ∧ Vals xs its.toList
def absV : Value → Option V
  | .none => some .non
  | .bool b => some (.bl b)
  | .int i _ => some (.int i)
  | .str x _ => some (.str x)
  | .bytes b _ => some (.byt b)
  | .float b _ => some (.flt b)
  | .ref a => some (.ref a)
  | .type n => some (.ty n)
  | _ => none
theorem RelV.abs {x : V} {u : Value} (r : RelV x u) : absV u = some x := by
  cases x with
  | non => cases r; rfl
  | bl _ => cases r; rfl
  | int _ => obtain ⟨t, rfl⟩ := r; rfl
  | str _ => obtain ⟨t, rfl⟩ := r; rfl
  | byt _ => obtain ⟨t, rfl⟩ := r; rfl
  | flt _ => obtain ⟨t, rfl⟩ := r; rfl
  | ref _ => cases r; rfl
  | ty _ => cases r; rfl
theorem RelV.inj {x y : V} {u : Value} (r : RelV x u) (q : RelV y u) : x = y := Option.some.inj (r.abs.symm.trans q.abs)
theorem Vals.inj : ∀ {xs ys : List V} {us : List Value}, Vals xs us → Vals ys us → xs = ys
  | _, _, _, .nil, .nil => rfl
  | _, _, _, .cons r t, .cons r' t' => by rw [r.inj r', Vals.inj t t']
section
variable {X : Cx} {pins : List (Addr × Obj)} {σ : St} {H : Hp} {s : Shared} {a : Addr} {xs ys : List V}
theorem SqL.of {K : PySem.W.Frag} (h : H a = some (.lst xs)) : SqL K H a xs := .inl (.inl h)
theorem SqT.of {K : PySem.W.Frag} (h : H a = some (.tup xs)) : SqT K H a xs := .inl (.inl h)
theorem Inv.list (I : Inv X pins σ H s) (h : SqL X.K H a xs) : ∃ its : List Value, Vals xs its ∧ PlainL s.heap a its.toArray ∧ xs.length ≤ sizeLine := by
  rcases h with h | ⟨o, its, n, hk, hc, hd, hs, hz, r⟩
  · obtain ⟨z, its, n, r, e⟩ := h.ok I.hok
    exact ⟨its, r, ⟨_, n, e, rfl, rfl, rfl⟩, z⟩
  · refine ⟨its.toList, r, ⟨o, n, I.kIn a o hk, hc, hd, by simpa using hs⟩, ?_⟩
    have e := r.length
    simp only [Array.length_toList] at e
    omega
theorem Inv.tuple (I : Inv X pins σ H s) (h : SqT X.K H a xs) : ∃ its : List Value, Vals xs its ∧ IsTup s.heap a its.toArray ∧ xs.length ≤ sizeLine := by
  rcases h with h | ⟨o, its, n, hk, hc, hs, hz, r⟩
  · obtain ⟨z, its, r, p⟩ := h.ok I.hok
    exact ⟨its, r, p, z⟩
  · refine ⟨its.toList, r, ⟨o, I.kIn a o hk, hc, n, by simpa using hs⟩, ?_⟩
    have e := r.length
    simp only [Array.length_toList] at e
    omega
theorem Inv.list_inj (I : Inv X pins σ H s) (h : SqL X.K H a xs) (h' : SqL X.K H a ys) : xs = ys := by
  obtain ⟨its, r, ⟨o, n, e, _, _, d⟩, _⟩ := I.list h
  obtain ⟨its', r', ⟨o', n', e', _, _, d'⟩, _⟩ := I.list h'
  rw [e] at e'; cases e'
  rw [d] at d'
  injection d' with d1 _
  have : its = its' := by simpa using congrArg Array.toList d1
  subst this
  exact r.inj r'
end

/-! ### another wish about exceptions -/
abbrev Cx.wish (X : Cx) (E : Value → Shared → Prop) : Cx := { X with xe := E }
/-- no exception leaves -/
abbrev Cx.nox (X : Cx) : Cx := X.wish fun _ _ => False
theorem Cx.Ok.wish {X : Cx} (ok : X.Ok) (E : Value → Shared → Prop) : (X.wish E).Ok :=
  ⟨ok.mod, ok.kind, ok.glob, ok.blt, ok.above, ok.inj, ok.has, ok.cab, ok.hd, ok.frames, ok.stk, ok.exf, ok.bs, ok.bsz, ok.noex, ok.exfs, ok.funs, ok.frf⟩
theorem Cx.Ok.unwish {X : Cx} {E : Value → Shared → Prop} (ok : (X.wish E).Ok) : X.Ok :=
  ⟨ok.mod, ok.kind, ok.glob, ok.blt, ok.above, ok.inj, ok.has, ok.cab, ok.hd, ok.frames, ok.stk, ok.exf, ok.bs, ok.bsz, ok.noex, ok.exfs, ok.funs, ok.frf⟩
section
variable {X : Cx} {pins : List (Addr × Obj)} {σ : St} {H : Hp} {s : Shared} {E : Value → Shared → Prop}
theorem Inv.wish (I : Inv X pins σ H s) (E : Value → Shared → Prop) : Inv (X.wish E) pins σ H s := ⟨I.ok.wish E, I.os, I.bare, I.base, I.loc, I.cell, I.free, I.freeC, I.pin, I.hok, I.len⟩
theorem Inv.unwish (I : Inv (X.wish E) pins σ H s) : Inv X pins σ H s := ⟨I.ok.unwish, I.os, I.bare, I.base, I.loc, I.cell, I.free, I.freeC, I.pin, I.hok, I.len⟩
theorem SP.unwish {D : Ends} {f : Flow} {s' : Shared} (h : SP (X.wish E) pins D f s') : SP X pins D f s' := by
  cases f with
  | next => obtain ⟨σ', H', I, q⟩ := h; exact ⟨σ', H', I.unwish, q⟩
  | brk => obtain ⟨σ', H', I, q⟩ := h; exact ⟨σ', H', I.unwish, q⟩
  | cont => obtain ⟨σ', H', I, q⟩ := h; exact ⟨σ', H', I.unwish, q⟩
  | ret u => obtain ⟨v, σ', H', I, r, q⟩ := h; exact ⟨v, σ', H', I.unwish, r, q⟩
theorem PSs.nox {st : List Stmt} {t : TS} (h : PSs X.nox st t) : PSs X st t := fun pins s σ H D I hw =>
  wpAny_mono (h pins s σ H D (I.wish _) hw) (fun _ _ q => q.unwish) fun _ _ z => False.elim z
end

/-! ### blocks and small statements -/
section
variable {X : Cx} {st : Stmt} {rest : List Stmt} {t u : TS} {e : Expr} {te : TE} {pos : Pos}
def tNext : TS := fun D σ H => D.nx σ H
def tSeq (t u : TS) : TS := fun D σ H => t { D with nx := u D } σ H
theorem pss_nil : PSs X [] tNext := fun _ _ σ H _ I h => wpAny_execs_nil ⟨σ, H, I, h⟩
theorem pss_cons (h1 : PS X st t) (h2 : PSs X rest u) : PSs X (st :: rest) (tSeq t u) := by
  intro pins s σ H D I h
  refine wpAny_execs_cons (thn (h1 pins s σ H { D with nx := u D } I h) fun f s1 q => ?_)
  cases f with
  | next =>
    obtain ⟨σ', H', I', q⟩ := q
    exact h2 pins s1 σ' H' D I' q
  | ret v => exact q
  | brk => exact q
  | cont => exact q
theorem pss_one (h1 : PS X st t) : PSs X [st] t := by
  intro pins s σ H D I h
  refine wpAny_execs_cons (thn (h1 pins s σ H D I h) fun f s1 q => ?_)
  cases f with
  | next => exact wpAny_execs_nil q
  | ret v => exact q
  | brk => exact q
  | cont => exact q
/-- in a def's body nothing is shown -/
theorem Inv.quiet {pins : List (Addr × Obj)} {σ : St} {H : Hp} {s : Shared} (I : Inv X pins σ H s) : interactive X.env = false := by simp [interactive, I.ok.kind]
/-- an expression whose value is dropped -/
def tDrop (te : TE) : TS := fun D σ H => te σ H fun _ H1 => D.nx σ H1
theorem ps_expr (he : PE X e te) (hs : swapsWith e none pos.line X.env = pure false := by rfl) : PS X (.Expr e pos) (tDrop te) := by
  intro pins s σ H D I h
  exact wpAny_Expr_any (thn (he pins s σ H _ I h) fun v s1 ⟨x, H1, I1, r1, q1⟩ => ⟨σ, H1, I1, q1⟩) I.quiet hs
def tRet (te : TE) : TS := fun D σ H => te σ H D.rt
theorem ps_ret (he : PE X e te) : PS X (.Return (some e) pos) (tRet te) := by
  intro pins s σ H D I h
  exact wpAny_Return_some (thn (he pins s σ H _ I h) fun v s1 ⟨x, H1, I1, r1, q1⟩ => ⟨x, σ, H1, I1, r1, q1⟩)
def tIfS (c : TT) (t u : TS) : TS := fun D σ H => c σ H fun b H1 => if b = true then t D σ H1 else u D σ H1
theorem ps_if {c : Expr} {a b : List Stmt} {tc : TT} (hc : PT X c tc) (ha : PSs X a t) (hb : PSs X b u) : PS X (.If c a b pos) (tIfS tc t u) := by
  intro pins s σ H D I h
  refine wpAny_If (thn (hc pins s σ H _ I h) fun d s1 ⟨H1, I1, q1⟩ => ?_)
  cases d with
  | true => exact ha pins s1 σ H1 D I1 q1
  | false => exact hb pins s1 σ H1 D I1 q1
/-- code that the proof never comes to -/
def tNever : TS := fun _ _ _ => False
theorem ps_never : PS X st tNever := fun _ _ _ _ _ _ h => h.elim
end

/-! ### targets -/
abbrev TG := V → St → Hp → (St → Hp → Prop) → Prop
def PG (X : Cx) (target : Expr) (t : TG) : Prop :=
  ∀ (pins : List (Addr × Obj)) (s : Shared) (σ : St) (H : Hp) (v : V) (u : Value) (Q : St → Hp → Prop), Inv X pins σ H s → RelV v u → t v σ H Q →
    wpAny (model X.prog X.w) X.A (assign target X.env u) (fun _ s' => ∃ σ' H', Inv X pins σ' H' s' ∧ Q σ' H') X.xe s
section
variable {X : Cx} {pos : Pos}
def gName (i : Nat) : TG := fun v σ H Q => Q (σ.set i (some v)) H
theorem pg_name {i : Nat} {x : Str} (hN : X.N.Nodup) (hi : X.N[i]? = some x) (hx : Loc X.env.scope x) (hf : X.fn x = true ∨ X.env.scope.names.lookup x = some .local := by first | exact .inl rfl | exact .inr rfl | assumption) : PG X (.Name x pos) (gName i) := by
  intro pins s σ H v u Q I r h
  exact wpAny_assign_Name (store_ok I hN hi hx r (fun s' I' => ⟨_, H, I', h⟩) hf)
/-- target = value -/
def tAsg (te : TE) (g : TG) : TS := fun D σ H => te σ H fun x H1 => g x σ H1 D.nx
/-- name = value -/
theorem ps_set {i : Nat} {x : Str} {e : Expr} {te : TE} {pos' : Pos} (hN : X.N.Nodup) (hi : X.N[i]? = some x) (hx : Loc X.env.scope x) (he : PE X e te) (hs : swapsWith e (some (.Name x pos')) pos.line X.env = pure false := by rfl) (hf : X.fn x = true ∨ X.env.scope.names.lookup x = some .local := by first | exact .inl rfl | exact .inr rfl | assumption) :
    PS X (.Assign [.Name x pos'] e pos) (tAsg te (gName i)) := by
  intro pins s σ H D I h
  refine wpAny_Assign_Name (thn (he pins s σ H _ I h) fun v s1 ⟨y, H1, I1, r1, q1⟩ => ?_) hs
  exact store_ok I1 hN hi hx r1 (fun s2 I2 => ⟨_, H1, I2, q1⟩) hf
end

/-! ### while -/
section
variable {X : Cx} {pos : Pos}
/-- the invariant W with its measure -/
def tWhile (c : TT) (tb : TS) : TS := fun D σ H => ∃ W : Nat → St → Hp → Prop, (∃ m, W m σ H) ∧ ∀ m σ H, W m σ H →
  c σ H fun b H1 => if b = true then ∃ N : St → Hp → Prop, (∀ σ' H', N σ' H' → ∃ m', m' < m ∧ W m' σ' H') ∧ tb { D with nx := N, ct := N, bk := D.nx } σ H1 else D.nx σ H1
theorem ps_while {c : Expr} {body : List Stmt} {tc : TT} {tb : TS} (hp : PassesOwn (model X.prog X.w) X.A X.env X.xe) (hc : PT X c tc) (hb : PSs X body tb) : PS X (.While c body [] pos) (tWhile tc tb) := by
  intro pins s σ H D I h
  obtain ⟨W, ⟨m0, w0⟩, turn⟩ := h
  refine wpAny_While (codeAny_whileLoop (fun n s' => ∃ σ' H', Inv X pins σ' H' s' ∧ W n σ' H') ?_ m0 ⟨σ, H, I, w0⟩)
  rintro n s1 ⟨σ1, H1, I1, w1⟩
  refine wpAny_passesOwn hp (thn (hc pins s1 σ1 H1 _ I1 (turn n σ1 H1 w1)) fun b s2 ⟨H2, I2, q2⟩ => ?_)
  cases b with
  | true =>
    obtain ⟨N, hN, q2⟩ := q2
    rw [if_pos rfl]
    refine wpAny_passesOwn hp (thn (hb pins s2 σ1 H2 _ I2 q2) fun f s3 q3 => ?_)
    cases f with
    | next =>
      obtain ⟨σ3, H3, I3, n3⟩ := q3
      obtain ⟨m', hm, w3⟩ := hN σ3 H3 n3
      exact ⟨m', hm, σ3, H3, I3, w3⟩
    | cont =>
      obtain ⟨σ3, H3, I3, n3⟩ := q3
      obtain ⟨m', hm, w3⟩ := hN σ3 H3 n3
      exact ⟨m', hm, σ3, H3, I3, w3⟩
    | brk => exact q3
    | ret v => exact q3
  | false =>
    rw [if_neg Bool.false_ne_true]
    exact wpAny_execs_nil ⟨σ1, H2, I2, q2⟩
end

/-! ### what a loop or a comprehension walks -/
/-- at turn i: it yields x (the heap may grow), or it stops -/
structure It where
  go : Nat → Hp → Prop
  yld : Nat → Hp → V → Hp → Prop
  stop : Nat → Hp → Prop
/-- the iterator's own objects may turn: they are not the frame's, not pinned, younger than the entry (or a comprehension's own) -/
def FpOk (X : Cx) (pins : List (Addr × Obj)) (H : Hp) (b : Addr) : Prop :=
  H b = none ∧ b ≠ X.env.locals ∧ b ∉ X.fs ∧ (b ∈ X.ex ∨ X.s₀.heap.objs.size ≤ b) ∧ (∀ x c, X.env.cells.lookup x = some c → c ≠ b) ∧ ∀ p ∈ X.pn ++ pins, p.1 ≠ b
theorem Inv.fpOk {X : Cx} {pins : List (Addr × Obj)} {σ : St} {H H' : Hp} {s : Shared} {b : Addr} (I : Inv X pins σ H s) (hb : s.heap.objs.size ≤ b) (hn : H' b = none) : FpOk X pins H' b := by
  refine ⟨hn, Nat.ne_of_gt (Nat.lt_of_lt_of_le I.lt hb), I.nofs hb, .inr (Nat.le_trans I.sz hb), fun x c e z => ?_, fun p hp z => ?_⟩
  · obtain ⟨v, q⟩ := I.cell x c e
    exact absurd (Nat.lt_of_lt_of_le q.lt (by rw [z]; exact hb)) (Nat.lt_irrefl _)
  · exact absurd (Nat.lt_of_lt_of_le (Heap.lt_size (I.pin p hp).1) (by rw [z]; exact hb)) (Nat.lt_irrefl _)
structure Turn (P : Program) (w : World) (K : PySem.W.Frag) (tg : Expr) (J : It) (fp : List Addr) (it : Addr) (tn : Nat → Heap → Prop) : Prop where
  mem : it ∈ fp
  obj : ∀ i h, tn i h → ∀ b ∈ fp, ∃ o, h.get? b = some o ∧ ∀ v, o.data ≠ .cell v
  keep : ∀ i h h', tn i h → (∀ b ∈ fp, ∀ o, h.get? b = some o → h'.get? b = some o) → tn i h'
  item : ∀ (X : Cx), X.prog = P → X.w = w → X.K = K → X.calm = true → ∀ (i : Nat) (pins : List (Addr × Obj)) (s : Shared) (σ : St) (H : Hp) (E : Value → Shared → Prop), Inv X pins σ H s → (∀ b ∈ fp, FpOk X pins H b) → tn i s.heap → J.go i H →
    wpAny (model P w) X.A (pyNext (.ref it)) (fun r s1 => ∃ u, r = some u ∧
      wpAny (model P w) X.A (letOwnedTupleGo tg (.ref it) u) (fun _ s2 => ∃ x H', Inv X pins σ H' s2 ∧ RelV x u ∧ J.yld i H x H' ∧ tn (i + 1) s2.heap ∧ ∀ b ∈ fp, H' b = none) E s1) E s
  done : ∀ (X : Cx), X.prog = P → X.w = w → X.K = K → X.calm = true → ∀ (i : Nat) (pins : List (Addr × Obj)) (s : Shared) (σ : St) (H : Hp) (E : Value → Shared → Prop), Inv X pins σ H s → (∀ b ∈ fp, FpOk X pins H b) → tn i s.heap → J.stop i H →
    wpAny (model P w) X.A (pyNext (.ref it)) (fun r s1 => r = none ∧ Inv X pins σ H s1) E s
  self : ∀ (A : Around) (i : Nat) (s : Shared) (Q : Value → Shared → Prop) (E : Value → Shared → Prop), tn i s.heap → Q (.ref it) s → wpAny (model P w) A (pyIter (.ref it)) Q E s
abbrev TI := St → Hp → (It → Hp → Prop) → Prop
/-- an iterator has come -/
def PIE (X : Cx) (pins : List (Addr × Obj)) (σ : St) (tg : Expr) (R : It → Hp → Prop) (itv : Value) (s2 : Shared) : Prop :=
  ∃ (it : Addr) (fp : List Addr) (tn : Nat → Heap → Prop) (J : It) (H' : Hp), itv = .ref it ∧ Inv X pins σ H' s2 ∧ Turn X.prog X.w X.K tg J fp it tn ∧ tn 0 s2.heap ∧ (∀ b ∈ fp, FpOk X pins H' b) ∧ R J H'
def PI (X : Cx) (tg iter : Expr) (wi : TI) : Prop :=
  ∀ (pins : List (Addr × Obj)) (s : Shared) (σ : St) (H : Hp) (R : It → Hp → Prop), Inv X pins σ H s → wi σ H R →
    wpAny (model X.prog X.w) X.A (eval iter X.env) (fun v s1 => wpAny (model X.prog X.w) X.A (pyIter v) (PIE X pins σ tg R) X.xe s1) X.xe s

/-- the step ahead of the store is nothing for an iterator that keeps no tuple -/
theorem go_of {M : Model} {A : Around} {E : Value → Shared → Prop} {s : Shared} {tg : Expr} {it : Addr} {u : Value} {o : Obj} {n : String} {vs : Array Value} {Q : Unit → Shared → Prop} (ho : s.heap.get? it = some o) (hc : o.cls = .type n) (hd : o.data = .fields vs)
    (hn : ["enumerate", "zip", "dict_itemiterator", "dict_reverseitemiterator", "odict_iterator", "itertools.zip_longest", "itertools.pairwise"].contains n = false) (hQ : Q () s) : wpAny M A (letOwnedTupleGo tg (.ref it) u) Q E s := by
  unfold letOwnedTupleGo
  cases tg <;> first
    | exact wpAny_pure hQ
    | (cases u <;> first
        | exact wpAny_pure hQ
        | (refine wpAny_bind (wpAny_load ho ?_)
           rw [hc, hd]
           show wpAny M A (if (["enumerate", "zip", "dict_itemiterator", "dict_reverseitemiterator", "odict_iterator", "itertools.zip_longest", "itertools.pairwise"].contains n && vs[0]? == some (rawInt _)) = true then _ else _) Q E s
           rw [if_neg (by intro h; rw [hn, Bool.false_and] at h; cases h)]
           exact wpAny_pure hQ))

/-- the list at a, as it stands at each turn (a loop may append to it) -/
def Itl (K : PySem.W.Frag) (a : Addr) : It :=
  ⟨fun i H => ∃ xs x, SqL K H a xs ∧ xs[i]? = some x, fun i H x H' => H' = H ∧ ∀ xs, SqL K H a xs → xs[i]? = some x, fun i H => ∃ xs, SqL K H a xs ∧ xs.length ≤ i⟩
/-- lo, lo + 1, .. (n of them) -/
def Itr (lo : Int) (n : Nat) : It := ⟨fun i _ => i < n, fun i H x H' => H' = H ∧ x = .int (lo + i), fun i _ => n ≤ i⟩
theorem turn_list {P : Program} {w : World} {K : PySem.W.Frag} {tg : Expr} (a it : Addr) : Turn P w K tg (Itl K a) [it] it (fun i h => h.IsListIter it a i) where
  mem := by simp
  obj := fun i h st b hb => by
    have e : b = it := by simpa using hb
    subst e
    obtain ⟨o, e, c, d⟩ := st
    exact ⟨o, e, fun v z => by rw [d] at z; cases z⟩
  keep := fun i h h' st k => st.at fun o e => k it (by simp) o e
  item := by
    intro X hP hw hK hc i pins s σ H E I hf st hg
    subst hP hw hK
    obtain ⟨xs, x, hq, hx⟩ := hg
    obtain ⟨its, rv, p, hz⟩ := I.list hq
    obtain ⟨u, hu, ru⟩ := rv.get hx
    obtain ⟨f0, f1, f2, f3, f4, f5⟩ := hf it (by simp)
    refine wpAny_pyNext_list_item st p.isList (x := u) (by simpa using hu) fun h' st' sb => ?_
    have I1 : Inv X pins σ H { s with heap := h' } := I.turned (t' := s.toks) (fun b o hb e => (sb.2 b hb).trans e) f0 f1 f3 f4 f5
    obtain ⟨o, e, c, d⟩ := id st'
    exact ⟨u, rfl, go_of (s := { s with heap := h' }) e c d (by decide) ⟨x, H, I1, ru, ⟨rfl, fun ys hy => by rw [I.list_inj hy hq]; exact hx⟩, st', fun b hb => (hf b hb).1⟩⟩
  done := by
    intro X hP hw hK hc i pins s σ H E I hf st hg
    subst hP hw hK
    obtain ⟨xs, hq, hx⟩ := hg
    obtain ⟨its, rv, p, hz⟩ := I.list hq
    obtain ⟨f0, f1, f2, f3, f4, f5⟩ := hf it (by simp)
    have hl := rv.length
    exact wpAny_pyNext_list_end (I.ok.hd hc) st p.isList (by simp; omega) fun h' eb => ⟨rfl, I.turned (t' := s.toks) (fun b o hb e => eb b o hb e) f0 f1 f3 f4 f5⟩
  self := fun _ _ _ _ _ st h => wpAny_pyIter_listiter st h
theorem turn_range {P : Program} {w : World} {K : PySem.W.Frag} {tg : Expr} (it : Addr) (lo : Int) (n : Nat) : Turn P w K tg (Itr lo n) [it] it (fun i h => IsRangeIter h it (lo + (i : Nat) * 1) ((n : Int) - (i : Nat)) 1) where
  mem := by simp
  obj := fun i h st b hb => by
    have e : b = it := by simpa using hb
    subst e
    exact ⟨_, st, fun v z => by
      have z' : Data.fields _ = Data.cell v := z
      cases z'⟩
  keep := fun i h h' st k => k it (by simp) _ st
  item := by
    intro X hP hw hK hc i pins s σ H E I hf st hg
    subst hP hw hK
    obtain ⟨f0, f1, f2, f3, f4, f5⟩ := hf it (by simp)
    have W := Walks.range (prog := X.prog) (w := X.w) (I.ok.hd hc) it lo 1 n
    refine W.item i s _ _ hg st fun v h' tk hv st' kk => ?_
    obtain ⟨t, rfl⟩ := hv
    have I1 : Inv X pins σ H { s with heap := h', toks := tk } := I.turned (fun b o hb e => kk b o (by simpa using hb) e) f0 f1 f3 f4 f5
    refine ⟨_, rfl, go_of (s := { s with heap := h', toks := tk }) (n := "range_iterator") st' rfl rfl (by decide) ⟨.int (lo + i), H, I1, ⟨t, ?_⟩, ⟨rfl, rfl⟩, st', fun b hb => (hf b hb).1⟩⟩
    rw [Int.mul_one]
  done := by
    intro X hP hw hK hc i pins s σ H E I hf st hg
    subst hP hw hK
    obtain ⟨f0, f1, f2, f3, f4, f5⟩ := hf it (by simp)
    exact wpAny_pyNext_range_end (I.ok.hd hc) st (by have : n ≤ i := hg; omega) fun h' eb => ⟨rfl, I.turned (t' := s.toks) (fun b o hb e => eb b o hb e) f0 f1 f3 f4 f5⟩
  self := fun _ _ _ _ _ st h => wpAny_pyIter_rangeiter st h
end L2

namespace L2
open PySem PySem.Spec PyProof.Rows
section
variable {X : Cx} {tg : Expr}
def iList (K : PySem.W.Frag) (tl : TE) : TI := fun σ H R => tl σ H fun x H1 => ∃ a, x = .ref a ∧ (∃ xs, SqL K H1 a xs) ∧ R (Itl K a) H1
theorem pi_list {l : Expr} {tl : TE} (hl : PE X l tl) : PI X tg l (iList X.K tl) := by
  intro pins s σ H R I h
  refine thn (hl pins s σ H _ I h) fun v s1 ⟨x, H1, I1, r1, q1⟩ => ?_
  obtain ⟨a, e, ⟨xs, hq⟩, q⟩ := q1
  subst e
  cases r1
  obtain ⟨its, rv, p, hz⟩ := I1.list hq
  refine wpAny_pyIter_list p.isList ?_
  refine ⟨s1.heap.objs.size, [s1.heap.objs.size], _, _, H1, rfl, I1.kept (t' := s1.toks) fun b o e => Heap.get?_push_of_some _ e, turn_list a _, ⟨_, Heap.get?_push_size _ rfl, rfl, rfl⟩, fun b hb => ?_, q⟩
  have e : b = s1.heap.objs.size := by simpa using hb
  subst e
  exact I1.fpOk (Nat.le_refl _) (I1.hok.fresh (Nat.le_refl _))
/-- a range object just made, walked -/
theorem range_it {pins : List (Addr × Obj)} {σ : St} {H : Hp} {s : Shared} {R : It → Hp → Prop} {E : Value → Shared → Prop} {lo hi : Int} {t u v : Tok} {tk : Nat} (I : Inv X pins σ H s) (h1 : -(2 ^ 62) ≤ lo) (h2 : lo < 2 ^ 62) (h3 : -(2 ^ 62) ≤ hi) (h4 : hi < 2 ^ 62)
    (q : R (Itr lo (hi - lo).toNat) H) : wpAny (model X.prog X.w) X.A (pyIter (.ref s.heap.objs.size)) (PIE X pins σ tg R) E { s with heap := s.heap.push { cls := .type "range", data := .fields #[.int lo t, .int hi u, .int 1 v] }, toks := tk } := by
  refine wpAny_pyIter_range (IsRange.new ..) (small_one h1 h2 h3 h4) ?_
  have I1 : Inv X pins σ H { s with heap := s.heap.push { cls := .type "range", data := .fields #[.int lo t, .int hi u, .int 1 v] }, toks := tk } := I.kept fun b o e => Heap.get?_push_of_some _ e
  refine ⟨(s.heap.push { cls := .type "range", data := .fields #[.int lo t, .int hi u, .int 1 v] }).objs.size, [(s.heap.push { cls := .type "range", data := .fields #[.int lo t, .int hi u, .int 1 v] }).objs.size], _, _, H, rfl,
    I1.kept (t' := tk) fun b o e => Heap.get?_push_of_some _ e, turn_range _ lo (hi - lo).toNat, ?_, fun b hb => ?_, q⟩
  · have e1 : lo + ((0 : Nat) : Int) * 1 = lo := by simp
    have e2 : (((hi - lo).toNat : Nat) : Int) - ((0 : Nat) : Int) = Builtin.Range.rangeSize lo hi 1 := by rw [rangeSize_one]; split <;> omega
    show IsRangeIter _ _ (lo + ((0 : Nat) : Int) * 1) ((((hi - lo).toNat : Nat) : Int) - ((0 : Nat) : Int)) 1
    rw [e1, e2]
    exact Heap.get?_push_size _ rfl
  · have e : b = (s.heap.push { cls := .type "range", data := .fields #[.int lo t, .int hi u, .int 1 v] }).objs.size := by simpa using hb
    subst e
    exact I1.fpOk (Nat.le_refl _) (I1.hok.fresh (Nat.le_refl _))
def iRng1 (ta : TA) : TI := fun σ H R => ta σ H fun vs H1 => ∃ j : Int, vs = [.int j] ∧ -(2 ^ 62) ≤ j ∧ j < 2 ^ 62 ∧ R (Itr 0 j.toNat) H1
theorem pi_range1 {a : Expr} {ta : TA} {p pos : Pos} (hg : Gl X "range") (hm : X.mg "range" = none) (ha : PA X [a] ta) (hs : starEach [a] X.env = [(false, eval a X.env)] := by rfl) : PI X tg (.Call (.Name "range" p) [a] [] pos) (iRng1 ta) := by
  intro pins s σ H R I h
  refine Call_ (ld_blt I hg hm boot_range (PyProof.Rows.callWith_type1 (thn (ha pos pins s σ H _ I h) fun us s1 ⟨vs, H1, I1, r1, q1⟩ => ?_) hs rfl))
  obtain ⟨j, e, q1, q2, q⟩ := q1
  subst e
  cases r1 with
  | cons r rr =>
    cases rr
    obtain ⟨t, rfl⟩ := r
    exact call_range_1 (range_it I1 (by omega) (by omega) q1 q2 (by simpa using q))

/-! ### for -/
/-- W: the invariant by the turn and a measure; N: what the body is to reach -/
def tFor (wi : TI) (g : TG) (tb : TS) : TS := fun D σ H => wi σ H fun J H1 => ∃ W : Nat → Nat → St → Hp → Prop, (∃ m, W 0 m σ H1) ∧ ∀ i m σ H, W i m σ H →
  (J.stop i H ∧ D.nx σ H) ∨ (J.go i H ∧ ∃ N : St → Hp → Prop, (∀ σ' H', N σ' H' → ∃ m', m' < m ∧ W (i + 1) m' σ' H') ∧ ∀ x H', J.yld i H x H' → g x σ H' fun σ2 H2 => tb { D with nx := N, ct := N, bk := D.nx } σ2 H2)
/-- the records at fp as they stand -/
def pinsAt (fp : List Addr) (h : Heap) : List (Addr × Obj) := fp.filterMap fun b => (h.get? b).map fun o => (b, o)
theorem mem_pinsAt {fp : List Addr} {h : Heap} {b : Addr} {o : Obj} (hb : b ∈ fp) (e : h.get? b = some o) : (b, o) ∈ pinsAt fp h := List.mem_filterMap.mpr ⟨b, hb, by rw [e]; rfl⟩
theorem of_pinsAt {fp : List Addr} {h : Heap} {p : Addr × Obj} (hp : p ∈ pinsAt fp h) : p.1 ∈ fp ∧ h.get? p.1 = some p.2 := by
  obtain ⟨b, hb, e⟩ := List.mem_filterMap.mp hp
  cases q : h.get? b with
  | none => rw [q] at e; cases e
  | some o =>
    rw [q] at e
    have e' : (b, o) = p := Option.some.inj e
    subst e'
    exact ⟨hb, q⟩
theorem Inv.pinned {pins : List (Addr × Obj)} {σ : St} {H : Hp} {s : Shared} {fp : List Addr} (I : Inv X pins σ H s) (hf : ∀ b ∈ fp, FpOk X pins H b) (ho : ∀ b ∈ fp, ∃ o, s.heap.get? b = some o ∧ ∀ v, o.data ≠ .cell v) : Inv X (pins ++ pinsAt fp s.heap) σ H s :=
  I.pins_of fun p hp => (List.mem_append.mp hp).elim (fun z => I.pin p (List.mem_append_right _ z)) fun z => by
    obtain ⟨hb, e⟩ := of_pinsAt z
    obtain ⟨f0, f1, f2, _⟩ := hf p.1 hb
    obtain ⟨o, e', d⟩ := ho p.1 hb
    rw [e] at e'; cases e'
    exact ⟨e, f0, f1, f2, d⟩
theorem Inv.unpinned {pins pl : List (Addr × Obj)} {σ : St} {H : Hp} {s : Shared} (I : Inv X (pins ++ pl) σ H s) : Inv X pins σ H s := I.pins_of fun p hp => I.pin p (List.mem_append_right _ (List.mem_append_left _ hp))
theorem ps_for {iter : Expr} {body : List Stmt} {wi : TI} {g : TG} {tb : TS} {pos : Pos} (hp : PassesOwn (model X.prog X.w) X.A X.env X.xe) (hc : X.calm = true) (hi : PI X tg iter wi) (hg : PG X tg g) (hb : PSs X body tb)
    (hs : ∀ x, foldedSetIterable iter X.env x = pure x := by intro _; rfl) : PS X (.For tg iter body [] pos) (tFor wi g tb) := by
  intro pins s σ H D I h
  refine wpAny_For (thn (hi pins s σ H _ I h) fun v s1 h1 => thn h1 fun itv s2 h2 => ?_) hs
  obtain ⟨it, fp, tn, J, H2, e, I2, T, st2, f2, W, ⟨m0, w0⟩, turn⟩ := h2
  subst e
  -- what stays true of the iterator's objects through the loop
  have stat : ∀ {H' : Hp}, (∀ b ∈ fp, H' b = none) → ∀ b ∈ fp, FpOk X pins H' b := fun hn b hb => ⟨hn b hb, (f2 b hb).2⟩
  refine codeAny_forLoop_any (fun n s' => ∃ i σ' H', Inv X pins σ' H' s' ∧ tn i s'.heap ∧ (∀ b ∈ fp, H' b = none) ∧ W i n σ' H') ?_ m0 ⟨0, σ, H2, I2, st2, fun b hb => (f2 b hb).1, w0⟩
  rintro n s3 ⟨i, σ3, H3, I3, st3, fr3, w3⟩
  rcases turn i n σ3 H3 w3 with ⟨stop, qn⟩ | ⟨go, N, hN, step⟩
  · refine wpAny_passesOwn hp (thn (T.done X rfl rfl rfl hc i pins s3 σ3 H3 X.xe I3 (stat fr3) st3 stop) fun r s4 ⟨hr, I4⟩ => ?_)
    subst hr
    exact wpAny_execs_nil ⟨σ3, H3, I4, qn⟩
  · refine wpAny_passesOwn hp (thn (T.item X rfl rfl rfl hc i pins s3 σ3 H3 X.xe I3 (stat fr3) st3 go) fun r s4 ⟨u, hr, h4⟩ => ?_)
    subst hr
    refine wpAny_passesOwn hp (thn h4 fun _ s5 ⟨x, H5, I5, r5, y5, st5, fr5⟩ => ?_)
    have I5' := I5.pinned (stat fr5) (T.obj _ _ st5)
    refine wpAny_passesOwn hp (thn (hg _ s5 σ3 H5 x u _ I5' r5 (step x H5 y5)) fun _ s6 ⟨σ6, H6, I6, q6⟩ => ?_)
    refine wpAny_passesOwn hp (thn (hb _ s6 σ6 H6 _ I6 q6) fun f s7 q7 => ?_)
    have again : ∀ {σ7 : St} {H7 : Hp}, Inv X (pins ++ pinsAt fp s5.heap) σ7 H7 s7 → N σ7 H7 → ∃ m, m < n ∧ ∃ i σ' H', Inv X pins σ' H' s7 ∧ tn i s7.heap ∧ (∀ b ∈ fp, H' b = none) ∧ W i m σ' H' := fun {σ7 H7} I7 n7 => by
      obtain ⟨m', hm, w7⟩ := hN σ7 H7 n7
      refine ⟨m', hm, i + 1, σ7, H7, I7.unpinned, T.keep _ _ _ st5 fun b hb o e => (I7.pin (b, o) (List.mem_append_right _ (List.mem_append_right _ (mem_pinsAt hb e)))).1, fun b hb => ?_, w7⟩
      obtain ⟨o, e, d⟩ := T.obj _ _ st5 b hb
      exact (I7.pin (b, o) (List.mem_append_right _ (List.mem_append_right _ (mem_pinsAt hb e)))).2.1
    cases f with
    | next => obtain ⟨σ7, H7, I7, n7⟩ := q7; exact again I7 n7
    | cont => obtain ⟨σ7, H7, I7, n7⟩ := q7; exact again I7 n7
    | brk => obtain ⟨σ7, H7, I7, q7⟩ := q7; exact ⟨σ7, H7, I7.unpinned, q7⟩
    | ret v => obtain ⟨x7, σ7, H7, I7, r7, q7⟩ := q7; exact ⟨x7, σ7, H7, I7.unpinned, r7, q7⟩
end

/-! ### the forms one uses -/
/-- over a list that the body leaves as it is -/
theorem for_list {K : PySem.W.Frag} {a : Addr} {xs : List V} {g : TG} {tb : TS} {D : Ends} {σ : St} {H : Hp} (Pv : Nat → St → Hp → Prop) (h0 : Pv 0 σ H) (hl : ∀ i σ H, i ≤ xs.length → Pv i σ H → SqL K H a xs)
    (hs : ∀ i x σ H, xs[i]? = some x → Pv i σ H → g x σ H fun σ2 H2 => tb { D with nx := Pv (i + 1), ct := Pv (i + 1), bk := D.nx } σ2 H2) (hd : ∀ σ H, Pv xs.length σ H → D.nx σ H) :
    ∃ W : Nat → Nat → St → Hp → Prop, (∃ m, W 0 m σ H) ∧ ∀ i m σ H, W i m σ H →
      ((Itl K a).stop i H ∧ D.nx σ H) ∨ ((Itl K a).go i H ∧ ∃ N : St → Hp → Prop, (∀ σ' H', N σ' H' → ∃ m', m' < m ∧ W (i + 1) m' σ' H') ∧ ∀ x H', (Itl K a).yld i H x H' → g x σ H' fun σ2 H2 => tb { D with nx := N, ct := N, bk := D.nx } σ2 H2) := by
  refine ⟨fun i m σ H => m = xs.length - i ∧ i ≤ xs.length ∧ Pv i σ H, ⟨xs.length, by simp, Nat.zero_le _, h0⟩, ?_⟩
  rintro i m σ H ⟨rfl, hi, p⟩
  have q := hl i σ H hi p
  by_cases hlt : i < xs.length
  · refine .inr ⟨⟨xs, xs[i], q, by simp [hlt]⟩, Pv (i + 1), fun σ' H' p' => ⟨xs.length - (i + 1), by omega, rfl, hlt, p'⟩, fun x H' y => ?_⟩
    obtain ⟨e, y⟩ := y
    subst e
    exact hs i x σ _ (y xs q) p
  · have e : i = xs.length := by omega
    subst e
    exact .inl ⟨⟨xs, q, Nat.le_refl _⟩, hd σ H p⟩
theorem for_range {lo : Int} {n : Nat} {g : TG} {tb : TS} {D : Ends} {σ : St} {H : Hp} (Pv : Nat → St → Hp → Prop) (h0 : Pv 0 σ H)
    (hs : ∀ i σ H, i < n → Pv i σ H → g (.int (lo + i)) σ H fun σ2 H2 => tb { D with nx := Pv (i + 1), ct := Pv (i + 1), bk := D.nx } σ2 H2) (hd : ∀ σ H, Pv n σ H → D.nx σ H) :
    ∃ W : Nat → Nat → St → Hp → Prop, (∃ m, W 0 m σ H) ∧ ∀ i m σ H, W i m σ H →
      ((Itr lo n).stop i H ∧ D.nx σ H) ∨ ((Itr lo n).go i H ∧ ∃ N : St → Hp → Prop, (∀ σ' H', N σ' H' → ∃ m', m' < m ∧ W (i + 1) m' σ' H') ∧ ∀ x H', (Itr lo n).yld i H x H' → g x σ H' fun σ2 H2 => tb { D with nx := N, ct := N, bk := D.nx } σ2 H2) := by
  refine ⟨fun i m σ H => m = n - i ∧ i ≤ n ∧ Pv i σ H, ⟨n, by simp, Nat.zero_le _, h0⟩, ?_⟩
  rintro i m σ H ⟨rfl, hi, p⟩
  by_cases hlt : i < n
  · refine .inr ⟨hlt, Pv (i + 1), fun σ' H' p' => ⟨n - (i + 1), by omega, rfl, hlt, p'⟩, fun x H' y => ?_⟩
    obtain ⟨e, y⟩ := y
    subst e y
    exact hs i σ _ hlt p
  · have e : i = n := by omega
    subst e
    exact .inl ⟨Nat.le_refl _, hd σ H p⟩
/-- while, by a word and a measure of the state -/
theorem while_by {c : TT} {tb : TS} {D : Ends} {σ : St} {H : Hp} (Pv : St → Hp → Prop) (μ : St → Hp → Nat) (h0 : Pv σ H)
    (hs : ∀ σ H, Pv σ H → c σ H fun b H1 => if b = true then tb { D with nx := fun σ' H' => Pv σ' H' ∧ μ σ' H' < μ σ H, ct := fun σ' H' => Pv σ' H' ∧ μ σ' H' < μ σ H, bk := D.nx } σ H1 else D.nx σ H1)
    (mono : ∀ σ H Q Q', (∀ b H1, Q b H1 → Q' b H1) → c σ H Q → c σ H Q') : tWhile c tb D σ H := by
  refine ⟨fun m σ H => m = μ σ H ∧ Pv σ H, ⟨_, rfl, h0⟩, ?_⟩
  rintro m σ H ⟨rfl, p⟩
  refine mono σ H _ _ (fun b H1 q => ?_) (hs σ H p)
  cases b with
  | true => exact ⟨_, fun σ' H' ⟨p', l⟩ => ⟨_, l, rfl, p'⟩, q⟩
  | false => exact q
end L2

namespace L2
open PySem PySem.Spec PyProof.Rows

abbrev R2 := V → V → Hp → VK → Prop
/-- a two-place operation on values: f is binaryOp op, inplaceOp op or compareOp op -/
def OpR (X : Cx) (f : Value → Value → Sem Value) (r : R2) : Prop :=
  ∀ (pins : List (Addr × Obj)) (s : Shared) (σ : St) (H : Hp) (x y : V) (v u : Value) (Q : VK), Inv X pins σ H s → RelV x v → RelV y u → r x y H Q →
    wpAny (model X.prog X.w) X.A (f v u) (EP X pins σ Q) X.xe s
/-- a call of a value that is known (a builtin, a type) with values -/
def CallR (X : Cx) (f : Value) (r : List V → Hp → VK → Prop) : Prop :=
  ∀ (pins : List (Addr × Obj)) (s : Shared) (σ : St) (H : Hp) (xs : List V) (us : List Value) (Q : VK), Inv X pins σ H s → Vals xs us → r xs H Q →
    wpAny (model X.prog X.w) X.A (call f us) (EP X pins σ Q) X.xe s

def tOp (r : R2) (ta tb : TE) : TE := fun σ H Q => ta σ H fun x H1 => tb σ H1 fun y H2 => r x y H2 Q
/-- ints in, under C, and a value out -/
def rI (C : Int → Int → Prop) (g : Int → Int → V) : R2 := fun x y H Q => ∃ i j, x = .int i ∧ y = .int j ∧ C i j ∧ Q (g i j) H
def rI0 (g : Int → Int → V) : R2 := fun x y H Q => ∃ i j, x = .int i ∧ y = .int j ∧ Q (g i j) H

section
variable {X : Cx} {a b c : Expr} {ta tb tc : TE} {pos : Pos}

theorem binT (ha : PE X a ta) (hb : PE X b tb) {pins : List (Addr × Obj)} {s : Shared} {σ : St} {H : Hp} {R : V → V → Hp → Prop} (I : Inv X pins σ H s)
    (h : ta σ H fun x H1 => tb σ H1 fun y H2 => R x y H2) {Q : Value → Shared → Prop} {f : Value → Value → Sem Value}
    (hf : ∀ v u s2 x y H2, Inv X pins σ H2 s2 → RelV x v → RelV y u → R x y H2 → wpAny (model X.prog X.w) X.A (f v u) Q X.xe s2) :
    wpAny (model X.prog X.w) X.A (eval a X.env) (fun v s₁ => wpAny (model X.prog X.w) X.A (eval b X.env) (fun u s₂ => wpAny (model X.prog X.w) X.A (f v u) Q X.xe s₂) X.xe s₁) X.xe s := by
  refine thn (ha pins s σ H _ I h) fun v s1 ⟨x, H1, I1, r1, q1⟩ => ?_
  refine thn (hb pins s1 σ H1 _ I1 q1) fun u s2 ⟨y, H2, I2, r2, q2⟩ => ?_
  exact hf v u s2 x y H2 I2 r1 r2 q2

theorem pe_op {op : Operator} {r : R2} (ho : OpR X (binaryOp op) r) (ha : PE X a ta) (hb : PE X b tb) : PE X (.BinOp a op b pos) (tOp r ta tb) := by
  intro pins s σ H Q I h
  exact wpAny_BinOp (binT ha hb I h fun v u s2 x y H2 I2 rx ry q => ho pins s2 σ H2 x y v u Q I2 rx ry q)

/-! ### ints -/
theorem opI {f : Value → Value → Sem Value} {C : Int → Int → Prop} {g : Int → Int → Int}
    (rule : ∀ (i j : Int) (t u : Tok) (s : Shared) (Q : Value → Shared → Prop) (E : Value → Shared → Prop), C i j → Q (.int (g i j) s.toks) { s with toks := s.toks + 1 } → wpAny (model X.prog X.w) X.A (f (.int i t) (.int j u)) Q E s) :
    OpR X f (rI C fun i j => .int (g i j)) := by
  intro pins s σ H x y v u Q I rx ry h
  obtain ⟨i, j, rfl, rfl, hc, q⟩ := h
  obtain ⟨t, rfl⟩ := rx
  obtain ⟨t', rfl⟩ := ry
  exact rule i j t t' s _ _ hc ⟨.int (g i j), H, I.tok _, ⟨_, rfl⟩, q⟩
theorem opI0 {f : Value → Value → Sem Value} {g : Int → Int → Int}
    (rule : ∀ (i j : Int) (t u : Tok) (s : Shared) (Q : Value → Shared → Prop) (E : Value → Shared → Prop), Q (.int (g i j) s.toks) { s with toks := s.toks + 1 } → wpAny (model X.prog X.w) X.A (f (.int i t) (.int j u)) Q E s) :
    OpR X f (rI0 fun i j => .int (g i j)) := by
  intro pins s σ H x y v u Q I rx ry h
  obtain ⟨i, j, rfl, rfl, q⟩ := h
  obtain ⟨t, rfl⟩ := rx
  obtain ⟨t', rfl⟩ := ry
  exact rule i j t t' s _ _ ⟨.int (g i j), H, I.tok _, ⟨_, rfl⟩, q⟩
theorem opB0 {f : Value → Value → Sem Value} {g : Int → Int → Bool}
    (rule : ∀ (i j : Int) (t u : Tok) (s : Shared) (Q : Value → Shared → Prop) (E : Value → Shared → Prop), Q (.bool (g i j)) s → wpAny (model X.prog X.w) X.A (f (.int i t) (.int j u)) Q E s) :
    OpR X f (rI0 fun i j => .bl (g i j)) := by
  intro pins s σ H x y v u Q I rx ry h
  obtain ⟨i, j, rfl, rfl, q⟩ := h
  obtain ⟨t, rfl⟩ := rx
  obtain ⟨t', rfl⟩ := ry
  exact rule i j t t' s _ _ ⟨.bl (g i j), H, I, rfl, q⟩

def CDiv (i j : Int) : Prop := 0 < j ∧ j < 1073741824
def CMul (i j : Int) : Prop := (-(2 ^ 64) < i ∧ i < 2 ^ 64) ∨ (-(2 ^ 64) < j ∧ j < 2 ^ 64)
theorem CMul.ok {i j : Int} (h : CMul i j) : IntMulOk i j := by
  rcases h with ⟨h1, h2⟩ | ⟨h1, h2⟩
  · exact .of_left (intBits_le_64 h1 h2)
  · exact .of_right (intBits_le_64 h1 h2)

theorem op_add : OpR X (binaryOp .Add) (rI0 fun i j => .int (i + j)) := opI0 fun _ _ _ _ _ _ _ q => add_int q
theorem op_sub : OpR X (binaryOp .Sub) (rI0 fun i j => .int (i - j)) := opI0 fun _ _ _ _ _ _ _ q => sub_int q
theorem op_mul : OpR X (binaryOp .Mult) (rI CMul fun i j => .int (i * j)) := opI fun _ _ _ _ _ _ _ hc q => mul_int q hc.ok
/-- // by a positive divisor -/
theorem op_fdiv : OpR X (binaryOp .FloorDiv) (rI CDiv fun i j => .int (i / j)) := opI fun i j _ _ _ _ _ hc q => by
  have h1 : (0 : Int) < j := hc.1
  have h2 : j < 1073741824 := hc.2
  exact floordiv_int (by omega) (by rw [Int.fdiv_eq_ediv_of_nonneg i (by omega)]; exact q) (.inl (PyProof.noPylong_small (by omega)))
/-- % by a positive divisor of any size -/
theorem op_mod : OpR X (binaryOp .Mod) (rI (fun _ j => 0 < j) fun i j => .int (i % j)) := opI fun i j _ _ _ _ _ hc q => by
  have h1 : (0 : Int) < j := hc
  exact mod_int' (by omega) (by rw [Int.fmod_eq_emod_of_nonneg i (by omega)]; exact q)



/-! ### bools among ints: n += (a < b) -/
end

/-! ### comparisons -/
/-- the scalars that == tells apart as data does -/
def scal : V → V → Bool
  | .non, .non => true | .non, .int _ => true | .int _, .non => true | .non, .bl _ => true | .bl _, .non => true | .non, .str _ => true | .str _, .non => true
  | .int _, .int _ => true | .bl _, .bl _ => true | .str _, .str _ => true | .byt _, .byt _ => true
  | .int _, .str _ => true | .str _, .int _ => true | .bl _, .str _ => true | .str _, .bl _ => true
  | _, _ => false
def rEq : R2 := fun x y H Q => scal x y = true ∧ Q (.bl (decide (x = y))) H
def rNe : R2 := fun x y H Q => scal x y = true ∧ Q (.bl (!decide (x = y))) H

theorem dec_int {i j : Int} : decide (V.int i = V.int j) = (i == j) := by
  rw [Bool.eq_iff_iff]
  simp
theorem dec_bl {i j : Bool} : decide (V.bl i = V.bl j) = (i == j) := by
  rw [Bool.eq_iff_iff]
  simp
theorem dec_str {i j : Str} : decide (V.str i = V.str j) = (i == j) := by
  rw [Bool.eq_iff_iff]
  simp
theorem dec_byt {i j : Array UInt8} : decide (V.byt i = V.byt j) = (i.toList == j.toList) := by
  rw [Bool.eq_iff_iff]
  cases i
  cases j
  simp

section
variable {X : Cx} {a b c : Expr} {ta tb tc : TE} {pos : Pos}
theorem fin_bl {pins : List (Addr × Obj)} {σ : St} {H : Hp} {s : Shared} {Q : VK} {k k' : Bool} (I : Inv X pins σ H s) (q : Q (.bl k) H) (e : k = k') : EP X pins σ Q (.bool k') s := by
  subst e
  exact ⟨.bl k, H, I, rfl, q⟩
theorem op_eq : OpR X (compareOp .Eq) rEq := by
  intro pins s σ H x y v u Q I rx ry h
  obtain ⟨hs, q⟩ := h
  cases x with
  | non =>
    cases rx
    cases y with
    | non => cases ry; exact PySem.EqNone.eq_none_none (fin_bl I q (by simp))
    | bl j => cases ry; exact PySem.EqNone.eq_none_bool (fin_bl I q (by simp))
    | int j => obtain ⟨t', rfl⟩ := ry; exact PySem.EqNone.eq_none_int (fin_bl I q (by simp))
    | str j => obtain ⟨t', rfl⟩ := ry; exact PySem.EqNone.eq_none_str (fin_bl I q (by simp))
    | _ => exact absurd (show false = true from hs) Bool.false_ne_true
  | bl i =>
    cases rx
    cases y with
    | non => cases ry; exact PySem.EqNone.eq_bool_none (fin_bl I q (by simp))
    | bl j => cases ry; exact eq_bool (fin_bl I q dec_bl)
    | str j => obtain ⟨t', rfl⟩ := ry; exact PySem.EqMixed.eq_bool_str (fin_bl I q (by simp))
    | _ => exact absurd (show false = true from hs) Bool.false_ne_true
  | int i =>
    obtain ⟨t, rfl⟩ := rx
    cases y with
    | non => cases ry; exact PySem.EqNone.eq_int_none (fin_bl I q (by simp))
    | int j => obtain ⟨t', rfl⟩ := ry; exact eq_int (fin_bl I q dec_int)
    | str j => obtain ⟨t', rfl⟩ := ry; exact PySem.EqMixed.eq_int_str (fin_bl I q (by simp))
    | _ => exact absurd (show false = true from hs) Bool.false_ne_true
  | str i =>
    obtain ⟨t, rfl⟩ := rx
    cases y with
    | non => cases ry; exact PySem.EqNone.eq_str_none (fin_bl I q (by simp))
    | bl j => cases ry; exact PySem.EqMixed.eq_str_bool (fin_bl I q (by simp))
    | int j => obtain ⟨t', rfl⟩ := ry; exact PySem.EqMixed.eq_str_int (fin_bl I q (by simp))
    | str j => obtain ⟨t', rfl⟩ := ry; exact eq_str (fin_bl I q dec_str)
    | _ => exact absurd (show false = true from hs) Bool.false_ne_true
  | byt i =>
    obtain ⟨t, rfl⟩ := rx
    cases y with
    | byt j => obtain ⟨t', rfl⟩ := ry; exact PySem.W.eq_bytes (fin_bl I q dec_byt)
    | _ => exact absurd (show false = true from hs) Bool.false_ne_true
  | _ => cases y <;> exact absurd (show false = true from hs) Bool.false_ne_true
theorem op_ne : OpR X (compareOp .NotEq) rNe := by
  intro pins s σ H x y v u Q I rx ry h
  obtain ⟨hs, q⟩ := h
  cases x with
  | non =>
    cases rx
    cases y with
    | non => cases ry; exact PySem.EqNone.ne_none_none (fin_bl I q (by simp))
    | bl j => cases ry; exact PySem.EqNone.ne_none_bool (fin_bl I q (by simp))
    | int j => obtain ⟨t', rfl⟩ := ry; exact PySem.EqNone.ne_none_int (fin_bl I q (by simp))
    | str j => obtain ⟨t', rfl⟩ := ry; exact PySem.EqNone.ne_none_str (fin_bl I q (by simp))
    | _ => exact absurd (show false = true from hs) Bool.false_ne_true
  | bl i =>
    cases rx
    cases y with
    | non => cases ry; exact PySem.EqNone.ne_bool_none (fin_bl I q (by simp))
    | bl j => cases ry; exact ne_bool (fin_bl I q (congrArg not dec_bl))
    | str j => obtain ⟨t', rfl⟩ := ry; exact PySem.EqMixed.ne_bool_str (fin_bl I q (by simp))
    | _ => exact absurd (show false = true from hs) Bool.false_ne_true
  | int i =>
    obtain ⟨t, rfl⟩ := rx
    cases y with
    | non => cases ry; exact PySem.EqNone.ne_int_none (fin_bl I q (by simp))
    | int j => obtain ⟨t', rfl⟩ := ry; exact ne_int (fin_bl I q (congrArg not dec_int))
    | str j => obtain ⟨t', rfl⟩ := ry; exact PySem.EqMixed.ne_int_str (fin_bl I q (by simp))
    | _ => exact absurd (show false = true from hs) Bool.false_ne_true
  | str i =>
    obtain ⟨t, rfl⟩ := rx
    cases y with
    | non => cases ry; exact PySem.EqNone.ne_str_none (fin_bl I q (by simp))
    | bl j => cases ry; exact PySem.EqMixed.ne_str_bool (fin_bl I q (by simp))
    | int j => obtain ⟨t', rfl⟩ := ry; exact PySem.EqMixed.ne_str_int (fin_bl I q (by simp))
    | str j => obtain ⟨t', rfl⟩ := ry; exact ne_str (fin_bl I q (congrArg not dec_str))
    | _ => exact absurd (show false = true from hs) Bool.false_ne_true
  | byt i =>
    obtain ⟨t, rfl⟩ := rx
    cases y with
    | byt j => obtain ⟨t', rfl⟩ := ry; exact PySem.W.ne_bytes (fin_bl I q (congrArg not dec_byt))
    | _ => exact absurd (show false = true from hs) Bool.false_ne_true
  | _ => cases y <;> exact absurd (show false = true from hs) Bool.false_ne_true

theorem op_lt : OpR X (compareOp .Lt) (rI0 fun i j => .bl (decide (i < j))) := opB0 fun _ _ _ _ _ _ _ q => lt_int q




theorem nomark (b : Expr) {op : CmpOp} (h : op ≠ .In := by decide) (h2 : op ≠ .NotIn := by decide) : behindInMarks op b = false := by
  have e1 : (op == CmpOp.In) = false := by cases op <;> first | rfl | exact absurd rfl h
  have e2 : (op == CmpOp.NotIn) = false := by cases op <;> first | rfl | exact absurd rfl h2
  cases b <;> simp [behindInMarks, e1, e2]
/-- a comparison as a value; hm: nomark b, or (for in, not in) by with_unfolding_all rfl -/
theorem pe_cmpR {op : CmpOp} {r : R2} (ho : OpR X (compareOp op) r) (ha : PE X a ta) (hb : PE X b tb) (hm : behindInMarks op b = false) : PE X (.Compare a [op] [b] pos) (tOp r ta tb) := by
  intro pins s σ H Q I h
  exact wpAny_Compare1 (binT ha hb I h fun v u s2 x y H2 I2 rx ry q => ho pins s2 σ H2 x y v u Q I2 rx ry q) hm
/-- a reading of a value as a test -/
def tTest (t : TE) : TT := fun σ H Q => t σ H fun x H' => ∃ k, x = .bl k ∧ Q k H'
theorem pt_cmpR {op : CmpOp} {r : R2} (ho : OpR X (compareOp op) r) (ha : PE X a ta) (hb : PE X b tb) (hm : behindInMarks op b = false) : PT X (.Compare a [op] [b] pos) (tTest (tOp r ta tb)) := by
  intro pins s σ H Q I h
  refine wpAny_isTrue_Compare1 (thn (ha pins s σ H _ I h) fun v s1 ⟨x, H1, I1, r1, q1⟩ => thn (hb pins s1 σ H1 _ I1 q1) fun u s2 ⟨y, H2, I2, r2, q2⟩ =>
    thn (ho pins s2 σ H2 x y v u _ I2 r1 r2 q2) fun c s3 ⟨z, H3, I3, r3, k, e, q3⟩ => ?_) hm
  subst e
  cases r3
  exact wpAny_truthy_bool ⟨H3, I3, q3⟩

/-! ### truth -/
theorem line63 : (sizeLine : Nat) < 2 ^ 63 := by rw [sizeLine_eq]; decide

/-! ### strs and bytes -/


/-! ### scalar builtins, by CallR -/
theorem vals1 {x : V} {us : List Value} (r : Vals [x] us) : ∃ u, us = [u] ∧ RelV x u := by
  cases r with
  | cons r1 r2 => cases r2; exact ⟨_, rfl, r1⟩
theorem vals2 {x y : V} {us : List Value} (r : Vals [x, y] us) : ∃ u w', us = [u, w'] ∧ RelV x u ∧ RelV y w' := by
  cases r with
  | cons r1 r2 =>
    cases r2 with
    | cons r3 r4 => cases r4; exact ⟨_, _, rfl, r1, r3⟩
end
end L2

namespace L2
open PySem PySem.Spec PyProof.Rows

/-! ### an instance, its attributes a map -/
structure ObjM (h : Heap) (x dx C : Addr) (mA : Str → Option Value) : Prop where
  obj : h.get? x = some (PySem.W.instObj C dx)
  ns : h.Ns1 dx mA
  ne : dx ≠ x

theorem lookIn_ns {h : Heap} {dx : Addr} {mA : Str → Option Value} (n : h.Ns1 dx mA) : ∃ od, h.get? dx = some od ∧ ∀ name, PySem.W.lookIn name od = some (mA name) := by
  obtain ⟨o, es, ep, ho, hd, hk, _, hm⟩ := n
  refine ⟨o, ho, fun name => ?_⟩
  have e := hm name
  unfold nsFind findBy at e
  rw [← Array.find?_toList] at e
  unfold PySem.W.lookIn
  rw [hd]
  dsimp only
  split
  · rename_i y q
    rw [q] at e
    exact congrArg some e
  · rename_i q
    rw [q] at e
    have a : es.toList.any (·.refKey) = false := by
      rw [List.any_eq_false]
      intro y hy
      obtain ⟨z, t, hkey⟩ := hk y (Array.mem_toList_iff.mp hy)
      simp [DictEntry.refKey, hkey]
    have a' : ¬ es.toList.any (·.refKey) = true := by rw [a]; exact Bool.false_ne_true
    rw [if_neg a']
    exact congrArg some e

theorem ObjM.look {h : Heap} {x dx C : Addr} {mA : Str → Option Value} (I : ObjM h x dx C mA) : ∃ od, PySem.W.InstAt h x (PySem.W.instObj C dx) C (some od) ∧ ∀ name, PySem.W.lookIn name od = some (mA name) :=
  let ⟨od, ho, hl⟩ := lookIn_ns I.ns
  ⟨od, ⟨I.obj, rfl, rfl, ho⟩, hl⟩

section
variable {prog : Program} {w : World} {A : Around} {E : Value → Shared → Prop} {s : Shared} {K : PySem.W.Frag} {x dx C f : Addr} {mA : Str → Option Value} {name : Str} {v : Value}

theorem get_map {expr : Bool} {Q : Value → Shared → Prop} (X : K.In s.heap) (I : ObjM s.heap x dx C mA) (hg : PySem.W.plainGet K C name = true) (hh : PySem.W.hasDictIn K C = true)
    (ha : PySem.W.findIn K (.ref C) name = some none) (hv : mA name = some v) (hv' : PySem.W.handedIn v = true) (h : Q v { s with toks := s.toks + 1 }) :
    wpAny (model prog w) A (getAttr (.ref x) name expr) Q E s := by
  obtain ⟨od, J, hl⟩ := I.look
  exact PySem.W.get_value X J (PySem.W.plainGet_of hg).1 (PySem.W.findObj_own hh ha rfl (by rw [hl, hv])) hv' h



theorem set_map {ns : List Str} {Q : Unit → Shared → Prop} (X : K.In s.heap) (I : ObjM s.heap x dx C mA)
    (hs : PySem.W.findIn K (.ref C) "__setattr__" = some (some (.builtin "object.__setattr__"))) (hp : PySem.W.plainOver K C = true) (ht : PySem.W.takerIn K C name = some none) (hh : PySem.W.hasDictIn K C = true)
    (hw : PySem.Within mA ns) (hsz : ns.length ≤ sizeLine)
    (h : ∀ h', ObjM h' x dx C (fun y => if y = name then some v else mA y) → Heap.SameBut dx s.heap h' → Q () { s with heap := h', toks := s.toks + 2 }) :
    wpAny (model prog w) A (setAttr (.ref x) name v) Q E s := by
  obtain ⟨od, J, hl⟩ := I.look
  refine PySem.W.set_plain X J hs (PySem.W.osa_open (s := { s with toks := s.toks + 1 }) (r := none) X J hp ht fun b => ?_)
  obtain ⟨cd, hc, hd'⟩ := PySem.W.any_some hh
  have hx : s.heap.get? x = some ⟨.ref C, some dx, .plain, #[]⟩ := I.obj
  refine wpAny_bind (wpAny_pure (wpAny_bind (wpAny_bind (wpAny_loadPart hx (wpAny_bind (PySem.W.Looks.here (s := { s with toks := s.toks + 1 }) (PySem.W.looks_clsIn X hc) ?_))))))
  rw [hd']
  refine wpAny_pure (a := some dx) (wpAny_bind (wpAny_pure (wpAny_bind ?_)))
  refine wpAny_nsSet1 (s := { s with toks := s.toks + 1 }) I.ns fun h' hn2 hs2 => ?_
  obtain ⟨oD, esD, epD, hoD, hdD, hcD⟩ := hn2.count (PySem.Within.cons name v hw)
  refine wpAny_bind (wpAny_lookBehind hoD (by rw [hdD]; exact pastItsLine_dict (Nat.le_trans hcD (by rw [List.length_cons]; omega))) ?_)
  exact wpAny_pure (h _ ⟨(hs2.2 _ (Ne.symm I.ne)).trans I.obj, hn2, I.ne⟩ hs2)

/-- C(..): the dict at the heap's end, the instance behind it; then its __init__ -/
theorem make_map {R : Result → Shared → Prop} {vs : List Value} {kw : List (Str × Value)} (X : K.In s.heap) (hm : PySem.W.makesIn K C = true)
    (hi : PySem.W.findIn K (.ref C) "__init__" = some (some (.ref f))) (hf : PySem.W.typeIn K (.ref f) = some (.type "function"))
    (h : codeAny (model prog w) (A.under (.builtin "type.__call__" ⟨.ref C :: vs, kw⟩)) (.call (.ref f) ⟨.ref (s.heap.objs.size + 1) :: vs, kw⟩) (PySem.W.InitBack (s.heap.objs.size + 1) R)
      { s with heap := (s.heap.push PySem.W.emptyDict).push (PySem.W.instObj C s.heap.objs.size) }) :
    codeAny (model prog w) A (.call (.ref C) ⟨vs, kw⟩) R s := by
  obtain ⟨hh, g, d, t, os⟩ := s
  exact PySem.W.make_core (PySem.W.makes_of X hm) (PySem.W.looks_findIn X hi) (fun self => PySem.W.bind_fn X self hf) (.inl rfl) h
end

/-! ### the attributes as a list of pairs -/
def putF (f : Str) (v : V) : List (Str × V) → List (Str × V)
  | [] => [(f, v)]
  | (g, x) :: r => if g = f then (g, v) :: r else (g, x) :: putF f v r
theorem lookup_putF (f g : Str) (v : V) : ∀ fs : List (Str × V), (putF f v fs).lookup g = if g = f then some v else fs.lookup g
  | [] => by
    show List.lookup g [(f, v)] = _
    by_cases h : g = f
    · have hb : (g == f) = true := beq_iff_eq.mpr h
      simp only [List.lookup, hb, if_pos h]
    · have hb : (g == f) = false := beq_eq_false_iff_ne.mpr h
      simp only [List.lookup, hb, if_neg h]
  | (k, x) :: r => by
    have ih := lookup_putF f g v r
    rw [show putF f v ((k, x) :: r) = (if k = f then (k, v) :: r else (k, x) :: putF f v r) from rfl]
    by_cases hk : k = f
    · rw [if_pos hk]
      by_cases h : g = k
      · have hb : (g == k) = true := beq_iff_eq.mpr h
        simp only [List.lookup, hb, if_pos (h.trans hk)]
      · have hb : (g == k) = false := beq_eq_false_iff_ne.mpr h
        simp only [List.lookup, hb, if_neg (fun e : g = f => h (e.trans hk.symm))]
    · rw [if_neg hk]
      by_cases h : g = k
      · have hb : (g == k) = true := beq_iff_eq.mpr h
        simp only [List.lookup, hb, if_neg (fun e : g = f => hk (h.symm.trans e))]
      · have hb : (g == k) = false := beq_eq_false_iff_ne.mpr h
        simp only [List.lookup, hb]
        exact ih
theorem keys_putF (f : Str) (v : V) : ∀ fs : List (Str × V), f ∈ (putF f v fs).map (·.1) ∧ ∀ g, g ∈ fs.map (·.1) → g ∈ (putF f v fs).map (·.1)
  | [] => ⟨by simp [putF], fun g h => by simp at h⟩
  | (k, x) :: r => by
    obtain ⟨i1, i2⟩ := keys_putF f v r
    rw [show putF f v ((k, x) :: r) = (if k = f then (k, v) :: r else (k, x) :: putF f v r) from rfl]
    by_cases hk : k = f
    · rw [if_pos hk]
      subst hk
      exact ⟨by simp, fun g h => by simpa using h⟩
    · rw [if_neg hk]
      refine ⟨?_, fun g h => ?_⟩
      · rw [List.map_cons]
        exact List.mem_cons_of_mem _ i1
      · rw [List.map_cons] at h ⊢
        rcases List.mem_cons.mp h with e | e
        · exact List.mem_cons.mpr (.inl e)
        · exact List.mem_cons_of_mem _ (i2 g e)
theorem length_putF (f : Str) (v : V) : ∀ fs : List (Str × V), (putF f v fs).length ≤ fs.length + 1
  | [] => by simp [putF]
  | (k, x) :: r => by
    have ih := length_putF f v r
    rw [show putF f v ((k, x) :: r) = (if k = f then (k, v) :: r else (k, x) :: putF f v r) from rfl]
    by_cases hk : k = f
    · rw [if_pos hk, List.length_cons, List.length_cons]; omega
    · rw [if_neg hk, List.length_cons, List.length_cons]; omega

theorem RelO.some_of {v : V} {o : Option Value} (r : RelO (some v) o) : ∃ u, o = some u ∧ RelV v u := by
  cases o with
  | none => exact (show False from r).elim
  | some u => exact ⟨u, rfl, r⟩
theorem handed_of {v : V} {u : Value} (r : RelV v u) : PySem.W.handedIn u = true := by
  cases v with
  | non => cases (show u = Value.none from r); rfl
  | bl b => cases (show u = Value.bool b from r); rfl
  | int i => obtain ⟨t, e⟩ := (show ∃ t, u = Value.int i t from r); cases e; rfl
  | str x => obtain ⟨t, e⟩ := (show ∃ t, u = Value.str x t from r); cases e; rfl
  | byt b => obtain ⟨t, e⟩ := (show ∃ t, u = Value.bytes b t from r); cases e; rfl
  | flt b => obtain ⟨t, e⟩ := (show ∃ t, u = Value.float b t from r); cases e; rfl
  | ref a => cases (show u = Value.ref a from r); rfl
  | ty n => cases (show u = Value.type n from r); rfl

section
variable {P : Program} {w : World} {H H' : Hp} {h h' : Heap} {a C dx : Addr} {fs fs' : List (Str × V)}
theorem ins_get (hok : HOk P w H h) (e : H a = some (.ins C dx fs)) : ∃ mA, ObjM h a dx C mA ∧ (∀ f, RelO (fs.lookup f) (mA f)) ∧ PySem.Within mA (fs.map (·.1)) ∧ fs.length ≤ 1000 ∧ H dx = some (.own a) := by
  obtain ⟨d, z, ne, ob, mA, n, r, q⟩ := (show ObjOk P w H h a (.ins C dx fs) from hok a _ e)
  exact ⟨mA, ⟨ob, n, ne⟩, r, q, z, d⟩
end

/-! ### what of the text a class must have -/
structure Cls (K : PySem.W.Frag) (C : Addr) : Prop where
  pg : PySem.W.plainGet K C Str.empty = true
  hd : PySem.W.hasDictIn K C = true
  po : PySem.W.plainOver K C = true
  sa : PySem.W.findIn K (.ref C) "__setattr__" = some (some (.builtin "object.__setattr__"))
theorem Cls.get {K : PySem.W.Frag} {C : Addr} (c : Cls K C) (f : Str) : PySem.W.plainGet K C f = true := c.pg
/-- no class of it has the name -/
def NoAttr (K : PySem.W.Frag) (C : Addr) (f : Str) : Prop := PySem.W.findIn K (.ref C) f = some none
theorem NoAttr.taker {K : PySem.W.Frag} {C : Addr} {f : Str} (n : NoAttr K C f) : PySem.W.takerIn K C f = some none := by
  unfold PySem.W.takerIn
  rw [show PySem.W.findIn K (.ref C) f = some none from n]
  rfl

section
variable {X : Cx} {pins : List (Addr × Obj)} {σ : St} {H : Hp} {s : Shared} {a C dx : Addr} {fs : List (Str × V)} {f : Str} {v : V} {A : Around} {E : Value → Shared → Prop}

theorem getattr_ok {b : Bool} {Q : Value → Shared → Prop} (I : Inv X pins σ H s) (e : H a = some (.ins C dx fs)) (c : Cls X.K C) (n : NoAttr X.K C f) (l : fs.lookup f = some v)
    (h : ∀ u s', Inv X pins σ H s' → RelV v u → Q u s') : wpAny (model X.prog X.w) A (getAttr (.ref a) f b) Q E s := by
  obtain ⟨mA, O, r, _, _, _⟩ := ins_get I.hok e
  obtain ⟨u, hu, ru⟩ := RelO.some_of (v := v) (o := mA f) (by rw [← l]; exact r f)
  exact get_map I.kIn O (c.get f) c.hd n hu (handed_of ru) (h u _ (I.tok _) ru)



theorem setattr_ok {y : V} {u : Value} {Q : Unit → Shared → Prop} (I : Inv X pins σ H s) (e : H a = some (.ins C dx fs)) (c : Cls X.K C) (n : NoAttr X.K C f) (hl : fs.length < 1000) (ry : RelV y u)
    (h : ∀ s', Inv X pins σ (upd H a (.ins C dx (putF f y fs))) s' → Q () s') : wpAny (model X.prog X.w) A (setAttr (.ref a) f u) Q E s := by
  obtain ⟨mA, O, r, wi, _, ho⟩ := ins_get I.hok e
  have hz : (fs.map (·.1)).length ≤ sizeLine := by rw [List.length_map, sizeLine_eq]; omega
  refine set_map I.kIn O c.sa c.po n.taker c.hd wi hz fun h' O' sb => h _ ?_
  have hd : ∃ o, h'.get? dx = some o := let ⟨o, _, _, e', _⟩ := O'.ns; ⟨o, e'⟩
  refine I.write (x := a) (e := dx) (by rw [e]; exact True.intro) (.inr ho) (fun b q hb z => (sb.2 b hb).trans z) hd ?_
  refine ⟨by rw [upd_ne O.ne]; exact ho, ?_, O.ne, O'.obj, _, O'.ns, fun g => ?_, fun g hg => ?_⟩
  · have := length_putF f y fs; omega
  · show RelO ((putF f y fs).lookup g) (if g = f then some u else mA g)
    rw [lookup_putF]
    by_cases q : g = f
    · rw [if_pos q, if_pos q]; exact ry
    · rw [if_neg q, if_neg q]; exact r g
  · by_cases q : g = f
    · rw [q]; exact (keys_putF f y fs).1
    · refine (keys_putF f y fs).2 g (wi g fun z => hg ?_)
      show (if g = f then some u else mA g) = none
      rw [if_neg q]; exact z

/-- a new instance, tracked, without attributes -/
theorem Inv.made (I : Inv X pins σ H s) : Inv X pins σ (upd (upd H s.heap.objs.size (.own (s.heap.objs.size + 1))) (s.heap.objs.size + 1) (.ins C s.heap.objs.size []))
    { s with heap := (s.heap.push PySem.W.emptyDict).push (PySem.W.instObj C s.heap.objs.size) } := by
  have e1 : (s.heap.push PySem.W.emptyDict).get? s.heap.objs.size = some PySem.W.emptyDict := Heap.get?_push_size s.heap rfl
  have e2 : ((s.heap.push PySem.W.emptyDict).push (PySem.W.instObj C s.heap.objs.size)).get? (s.heap.objs.size + 1) = some (PySem.W.instObj C s.heap.objs.size) := by
    have := Heap.get?_push_size (s.heap.push PySem.W.emptyDict) (o := PySem.W.instObj C s.heap.objs.size) rfl
    rwa [Heap.size_push] at this
  have e3 : (s.heap.push PySem.W.emptyDict).Ns s.heap.objs.size (fun _ => none) := ⟨PySem.W.emptyDict, #[], _, e1, rfl, (fun e he => absurd he (by simp)), fun _ => rfl⟩
  have I1 := I.laid (a := s.heap.objs.size) (o := .own (s.heap.objs.size + 1)) (h' := s.heap.push PySem.W.emptyDict) (t' := s.toks) (fun b u q => Heap.get?_push_of_some _ q) (Nat.le_refl _) ⟨_, e1⟩
  refine I1.laid (a := s.heap.objs.size + 1) (o := .ins C s.heap.objs.size []) (t' := s.toks) (fun b u q => Heap.get?_push_of_some _ q) (Nat.le_of_eq (Heap.size_push _ _)) ?_
  have ne : s.heap.objs.size ≠ s.heap.objs.size + 1 := Nat.ne_of_lt (Nat.lt_succ_self _)
  refine ⟨by rw [upd_ne ne, upd_same], Nat.zero_le _, ne, e2, fun _ => none, (Heap.Ns1.of_empty e3).at fun o q => Heap.get?_push_of_some _ q, fun _ => True.intro, fun y hy => absurd rfl hy⟩

/-- e.f where nothing but the object is asked: through attributeBase (super) and the last hold -/
theorem attr_of {prog : Program} {w : World} {env : Env} {e : Expr} {f : Str} {pos : Pos} {s : Shared} {Q : Value → Shared → Prop} (hb : attributeBase e f env (eval e env) = eval e env)
    (h : wpAny (model prog w) A (eval e env) (fun o s₁ => wpAny (model prog w) A (getAttr o f true) Q E s₁) E s) : wpAny (model prog w) A (eval (.Attribute e f pos) env) Q E s :=
  Attribute_any_ h (by rw [arm_eval_Attribute, hb])
end

/-! ### readings and rules -/
/-- e.f, an attribute of the instance -/
def tFld (K : PySem.W.Frag) (ta : TE) (f : Str) : TE := fun σ H Q => ta σ H fun x H1 => ∃ a C dx fs v, x = .ref a ∧ H1 a = some (.ins C dx fs) ∧ Cls K C ∧ NoAttr K C f ∧ fs.lookup f = some v ∧ Q v H1
/-- e.f = value -/
def sFld (K : PySem.W.Frag) (ta tv : TE) (f : Str) : TS := fun D σ H => tv σ H fun y H1 => ta σ H1 fun x H2 => ∃ a C dx fs, x = .ref a ∧ H2 a = some (.ins C dx fs) ∧ Cls K C ∧ NoAttr K C f ∧ fs.length < 1000 ∧
  D.nx σ (upd H2 a (.ins C dx (putF f y fs)))

section
variable {X : Cx} {o e value : Expr} {f : Str} {pos pos' tpos : Pos} {ta tv : TE}
theorem pe_fld (he : PE X e ta) (hb : attributeBase e f X.env (eval e X.env) = eval e X.env) : PE X (.Attribute e f pos) (tFld X.K ta f) := by
  intro pins s σ H Q I h
  refine attr_of hb (thn (he pins s σ H _ I h) fun u s1 ⟨x, H1, I1, rx, a, C, dx, fs, v, ex, ea, c, n, l, q⟩ => ?_)
  subst ex
  obtain rfl : u = Value.ref a := rx
  exact getattr_ok I1 ea c n l fun u' s2 I2 ru => ⟨v, H1, I2, ru, q⟩
theorem ps_fld (ha : PE X o ta) (hv : PE X value tv) (hs : swapsWith value (some (.Attribute o f pos')) pos.line X.env = pure false) : PS X (.Assign [.Attribute o f pos'] value pos) (sFld X.K ta tv f) := by
  intro pins s σ H D I h
  refine plainObj_wpAny_Assign_Attribute (thn (hv pins s σ H _ I h) fun u s1 ⟨y, H1, I1, ry, q⟩ => thn (ha pins s1 σ H1 _ I1 q) fun ov s2 ⟨x, H2, I2, rx, a, C, dx, fs, ex, ea, c, n, l, q2⟩ => ?_) hs
  subst ex
  obtain rfl : ov = Value.ref a := rx
  exact setattr_ok I2 ea c n l ry fun s3 I3 => ⟨σ, _, I3, q2⟩

end

/-! ### isinstance -/
section
variable {X : Cx} {pins : List (Addr × Obj)} {σ : St} {H : Hp} {s : Shared} {A : Around} {E : Value → Shared → Prop} {Q : Value → Shared → Prop} {c : Value} {b : Bool}
/-- the type of a value, as the fragment's deciders take it; for an instance its class -/
inductive TyOf (K : PySem.W.Frag) (H : Hp) : V → Value → Prop where
  | non : TyOf K H .non (.type "NoneType")
  | bl (x : Bool) : TyOf K H (.bl x) (.type "bool")
  | int (i : Int) : TyOf K H (.int i) (.type "int")
  | str (x : Str) : TyOf K H (.str x) (.type "str")
  | flt (x : UInt64) : TyOf K H (.flt x) (.type "float")
  | lst {a : Addr} {xs : List V} (e : H a = some (.lst xs)) : TyOf K H (.ref a) (.type "list")
  | frz {a : Addr} {o : Obj} {xs : List V} (e : H a = some (.frz o (.lst xs))) : TyOf K H (.ref a) (.type "list")
  | tup {a : Addr} {xs : List V} (e : H a = some (.tup xs)) : TyOf K H (.ref a) (.type "tuple")
  | dK {a : Addr} {kvs : List (Key × V)} (e : H a = some (.dK kvs)) : TyOf K H (.ref a) (.type "dict")
  | dT {a : Addr} {kvs : List (List Key × V)} (e : H a = some (.dT kvs)) : TyOf K H (.ref a) (.type "dict")
  | ins {a C dx : Addr} {fs : List (Str × V)} (e : H a = some (.ins C dx fs)) (cl : Cls K C) (ha : PySem.W.findIn K (.ref C) "__class__" = some (some (.builtin "object.__class__")))
      (hn : PySem.W.specialIn K (.builtin "object.__class__") "__get__" = some (some (.builtin "getset_descriptor.__get__"))) (htk : PySem.W.takesIn K (.builtin "object.__class__") = some true)
      (hm : PySem.W.mroIn K C (.type "object") = some true) : TyOf K H (.ref a) (.ref C)
/-- isinstance(x, c) for one class c, a built-in or an own one: kitOne's answer -/
theorem isinst_ok {x : V} {u t : Value} (I : Inv X pins σ H s) (rx : RelV x u) (ty : TyOf X.K H x t) (e : PySem.W.kitOne X.K t c = some b) (h : ∀ tk, Q (.bool b) { s with toks := tk }) :
    wpAny (model X.prog X.w) A (call (.builtin "isinstance") [u, c]) Q E s := by
  cases ty with
  | non => cases (show u = Value.none from rx); exact PySem.W.kia_one PySem.W.kitx_none I.kIn True.intro e (fun z => nomatch z) h
  | bl y => cases (show u = Value.bool y from rx); exact PySem.W.kia_one PySem.W.kitx_bool I.kIn True.intro e (fun z => nomatch z) h
  | int i => obtain ⟨t, q⟩ := (show ∃ t, u = Value.int i t from rx); cases q; exact PySem.W.kia_one PySem.W.kitx_int I.kIn True.intro e (fun z => nomatch z) h
  | str y => obtain ⟨t, q⟩ := (show ∃ t, u = Value.str y t from rx); cases q; exact PySem.W.kia_one PySem.W.kitx_str I.kIn True.intro e (fun z => nomatch z) h
  | flt y => obtain ⟨t, q⟩ := (show ∃ t, u = Value.float y t from rx); cases q; exact PySem.W.kia_one PySem.W.kitx_float I.kIn True.intro e (fun z => nomatch z) h
  | @lst a xs ea =>
    cases (show u = Value.ref a from rx)
    obtain ⟨_, _, n, _, h1⟩ := (show ObjOk X.prog X.w H s.heap a (.lst xs) from I.hok a _ ea)
    exact PySem.W.kia_one PySem.W.kitx_list I.kIn ⟨_, h1, rfl⟩ e (fun z => nomatch z) h
  | @frz a ob xs ea =>
    cases (show u = Value.ref a from rx)
    obtain ⟨_, _, _, n, _, h1⟩ := (show ObjOk X.prog X.w H s.heap a (.frz ob (.lst xs)) from I.hok a _ ea)
    exact PySem.W.kia_one PySem.W.kitx_list I.kIn ⟨_, h1, rfl⟩ e (fun z => nomatch z) h
  | @tup a xs ea =>
    cases (show u = Value.ref a from rx)
    obtain ⟨_, _, _, p⟩ := (show ObjOk X.prog X.w H s.heap a (.tup xs) from I.hok a _ ea)
    obtain ⟨o, h1, h2, _⟩ := p
    exact PySem.W.kia_one PySem.W.kitx_tuple I.kIn ⟨o, h1, h2⟩ e (fun z => nomatch z) h
  | @dK a kvs ea =>
    cases (show u = Value.ref a from rx)
    obtain ⟨_, _, vs, _, p⟩ := (show ObjOk X.prog X.w H s.heap a (.dK kvs) from I.hok a _ ea)
    obtain ⟨o, es, ep, h1, h2, _⟩ := p
    exact PySem.W.kia_one PySem.W.kitx_dict I.kIn ⟨o, h1, h2.1⟩ e (fun z => nomatch z) h
  | @dT a kvs ea =>
    cases (show u = Value.ref a from rx)
    obtain ⟨_, _, xs, _, o, es, ep, h1, h2, _⟩ := (show ObjOk X.prog X.w H s.heap a (.dT kvs) from I.hok a _ ea)
    exact PySem.W.kia_one PySem.W.kitx_dict I.kIn ⟨o, h1, h2.1⟩ e (fun z => nomatch z) h
  | @ins a C dx fs ea cl ha hn htk hm =>
    cases (show u = Value.ref a from rx)
    obtain ⟨mA, O, _⟩ := ins_get I.hok ea
    obtain ⟨od, J, _⟩ := O.look
    exact PySem.W.kia_one (PySem.W.kitx_own (cl.get _) cl.hd ha hn htk hm) I.kIn J e (fun z => nomatch z) h
end
end L2

namespace L2
open PySem PySem.Spec PyProof.Rows

/-! ### room -/
structure Room (k : Nat) (A : Around) : Prop where
  hd : A.handled = none
  dp : A.depth + 3 * k + 5 < recursionLimit
  un : A.units + 16 * k + 200 < cLine
theorem Room.mono {j k : Nat} {A : Around} (r : Room k A) (h : j ≤ k) : Room j A := ⟨r.hd, by have := r.dp; omega, by have := r.un; omega⟩
theorem Room.deeper {k : Nat} {A : Around} (r : Room (k + 1) A) (env : Env) : Room k (A.deeper env) :=
  ⟨r.hd, by have := r.dp; show A.depth + 1 + 3 * k + 5 < _; omega, by have := r.un; show A.units + 3 + 16 * k + 200 < _; omega⟩
theorem make_depth {A : Around} {C : Addr} {us : List Value} {kw : List (Str × Value)} : (A.under (.builtin "type.__call__" ⟨.ref C :: us, kw⟩)).depth = A.depth + 1 := by
  first | rfl | simp [Around.under, Code.weight, Code.isCreation, Code.isGuard, Code.isCaller, Code.frames, Code.isFrame, guardIds]
theorem make_units {A : Around} {C : Addr} {us : List Value} {kw : List (Str × Value)} : (A.under (.builtin "type.__call__" ⟨.ref C :: us, kw⟩)).units = A.units + 1 := by
  first | rfl | simp [Around.under, Code.cUnits, Code.frames, Code.isFrame]
theorem Room.make {k : Nat} {A : Around} (r : Room (k + 1) A) (C : Addr) (us : List Value) (kw : List (Str × Value)) : Room k (A.under (.builtin "type.__call__" ⟨.ref C :: us, kw⟩)) :=
  ⟨r.hd, by have := r.dp; rw [make_depth]; omega, by have := r.un; rw [make_units]; omega⟩
theorem Room.depth {k : Nat} {A : Around} (r : Room k A) : A.depth < recursionLimit := by have := r.dp; omega
theorem Room.units {k : Nat} {A : Around} (r : Room k A) : A.units + 64 < cLine := by have := r.un; omega

/-! ### argument lists and displays -/
def tNil : TA := fun _ H Q => Q [] H
def tCons (ta : TE) (tr : TA) : TA := fun σ H Q => ta σ H fun x H1 => tr σ H1 fun xs H2 => Q (x :: xs) H2
section
variable {X : Cx} {e : Expr} {es : List Expr} {te : TE} {t : TA} {pos : Pos}
theorem pa_nil : PA X [] tNil := fun _ _ _ _ H Q I h => Calls.spliced_nil ⟨[], H, I, .nil, h⟩
theorem pa_cons (ha : PE X e te) (hr : PA X es t) (hs : starEach (e :: es) X.env = (false, eval e X.env) :: starEach es X.env := by rfl) : PA X (e :: es) (tCons te t) := by
  intro pos pins s σ H Q I h
  rw [hs]
  show wpAny _ _ (spliced ((false, eval e X.env) :: backTo pos (starEach es X.env))) _ _ s
  refine Calls.spliced_cons (thn (ha pins s σ H _ I h) fun u s1 ⟨x, H1, I1, r1, q1⟩ => ?_)
  exact thn (hr pos pins s1 σ H1 _ I1 q1) fun us s2 ⟨xs, H2, I2, r2, q2⟩ => ⟨x :: xs, H2, I2, .cons r1 r2, q2⟩

/-- a tuple, a list of written items -/
def tTup (t : TA) : TE := fun σ H Q => t σ H fun xs H1 => xs.length ≤ sizeLine ∧ ∀ p, H1 p = none → Q (.ref p) (upd H1 p (.tup xs))
def tLst (t : TA) : TE := fun σ H Q => t σ H fun xs H1 => xs.length ≤ sizeLine ∧ ∀ p, H1 p = none → Q (.ref p) (upd H1 p (.lst xs))
theorem pe_tup {x1} (h : PA X es t) : PE X (.Tuple es x1 pos) (tTup t) := by
  intro pins s σ H Q I hq
  refine wpAny_Tuple_spliced (thn (h pos pins s σ H _ I hq) fun us s1 ⟨xs, H1, I1, r, z, q⟩ => ⟨by rw [← r.length]; exact z, ?_⟩)
  have hf : H1 s1.heap.objs.size = none := I1.hok.fresh (Nat.le_refl _)
  refine ⟨.ref s1.heap.objs.size, upd H1 s1.heap.objs.size (.tup xs), I1.laid (t' := s1.toks) (fun b u e => Heap.get?_push_of_some _ e) (Nat.le_refl _) ?_, rfl, q _ hf⟩
  exact ⟨z, us, r, ⟨_, Heap.get?_push_size _ rfl, rfl, _, rfl⟩⟩
theorem pe_lst (h : PA X es t) : PE X (.List es pos) (tLst t) := by
  intro pins s σ H Q I hq
  refine wpAny_List_spliced (thn (h pos pins s σ H _ I hq) fun us s1 ⟨xs, H1, I1, r, z, q⟩ => ⟨by rw [← r.length]; exact z, ?_⟩)
  have hf : H1 s1.heap.objs.size = none := I1.hok.fresh (Nat.le_refl _)
  refine ⟨.ref s1.heap.objs.size, upd H1 s1.heap.objs.size (.lst xs), I1.laid (t' := s1.toks) (fun b u e => Heap.get?_push_of_some _ e) (Nat.le_refl _) ?_, rfl, q _ hf⟩
  exact ⟨z, us, 0, r, Heap.get?_push_size _ rfl⟩
end

/-! ### what a def promises -/
/-- a def's promise: the bound arguments in the parameters' order, the heap, the wanted end, the wanted exception -/
abbrev Sp := List V → Hp → VK → XK → Prop
/-- how an exception lies behind a call (file 08 gives it): the callers' frames, abstract heap and state ahead of the call, the wish, the exception, the state -/
abbrev CXT := List Env → Hp → Shared → XK → Value → Shared → Prop

/-- the state at a call -/
structure Env0 (P : Program) (w : World) (K : PySem.W.Frag) (mg : Str → Option Value) (base : Heap) (A : Around) (outer : List Env) (s : Shared) (H : Hp) : Prop where
  frames : A.frames = some outer
  mod : Mod K mg base
  bs : ∀ b o, base.get? b = some o → s.heap.get? b = some o ∧ H b = none
  bsz : base.objs.size ≤ s.heap.objs.size
  funs : s.heap.FunFrames base outer
  frf : ∀ b ∈ frs outer, H b = none
  hok : HOk P w H s.heap
  bare : AllBare s.gens
/-- a call's end -/
def CE (outer : List Env) (P : Program) (w : World) (H : Hp) (s : Shared) (Q : VK) (u : Value) (s' : Shared) : Prop :=
  ∃ v H', s'.os = s.os ∧ AllBare s'.gens ∧ Un (frs outer) [] H H' s.heap s'.heap ∧ HOk P w H' s'.heap ∧ RelV v u ∧ Q v H'
def CR (CX : CXT) (outer : List Env) (P : Program) (w : World) (H : Hp) (s : Shared) (Q : VK) (E : XK) (r : Result) (s' : Shared) : Prop :=
  match r with
  | .ok (.ret u) => CE outer P w H s Q u s'
  | .ok _ => False
  | .error e => CX outer H s E e s'
structure FnOk (P : Program) (w : World) (K : PySem.W.Frag) (mg : Str → Option Value) (base : Heap) (CX : CXT) (k : Nat) (f : Addr) (fd : FuncData) (ps : List Str) (sp : Sp) : Prop where
  len : ∀ vs H Q E, sp vs H Q E → vs.length = ps.length
  run : ∀ (A : Around) (outer : List Env) (s : Shared) (H : Hp) (args : Args) (us : List Value) (vs : List V) (Q : VK) (E : XK), Room k A → Env0 P w K mg base A outer s H → BindsTo s fd args (ps.zip us) → Vals vs us → sp vs H Q E →
    codeAny (model P w) A (.call (.ref f) args) (CR CX outer P w H s Q E) s

theorem Env0.make {P : Program} {w : World} {K : PySem.W.Frag} {mg : Str → Option Value} {base : Heap} {A : Around} {outer : List Env} {s : Shared} {H : Hp} (e : Env0 P w K mg base A outer s H) (C : Addr) (us : List Value) (kw : List (Str × Value)) :
    Env0 P w K mg base (A.under (.builtin "type.__call__" ⟨.ref C :: us, kw⟩)) outer s H := ⟨by first | exact e.frames | (simpa [Around.under, Code.envs, Code.isFrame, pushEnvs] using e.frames), e.mod, e.bs, e.bsz, e.funs, e.frf, e.hok, e.bare⟩

section
variable {X : Cx} {pins : List (Addr × Obj)} {σ : St} {H : Hp} {s s' : Shared}
/-- from a body: what a callee wants -/
theorem Inv.env0 (I : Inv X pins σ H s) : Env0 X.prog X.w X.K X.mg X.base X.A X.stack s H :=
  ⟨I.ok.frames, I.ok.mod, I.bs, Nat.le_trans I.ok.bsz I.sz, I.stack, I.stkFree, I.hok, I.bare⟩
/-- behind a call -/
theorem Inv.after {Q : VK} {u : Value} (I : Inv X pins σ H s) (h : CE X.stack X.prog X.w H s Q u s') : EP X pins σ Q u s' := by
  obtain ⟨v, H', os, bare, un, hok, r, q⟩ := h
  obtain ⟨hh, g, d, t, os'⟩ := s'
  obtain rfl : os' = s.os := os
  exact ⟨v, H', I.call (h' := hh) (g' := g) (d' := d) (t' := t) (ch := []) un hok bare (fun b z => absurd z (by simp)), r, q⟩
end

/-! ### calls -/
/-- f(..): the written arguments, then the defaults dvs; E: what is wanted of an exception -/
def tCall (sp : Sp) (dvs : List V) (E : XK) (t : TA) : TE := fun σ H Q => t σ H fun vs H1 => sp (vs ++ dvs) H1 Q E
/-- C(..): a new instance and its dict, then __init__ -/
def tMake (C : Addr) (sp : Sp) (dvs : List V) (E : XK) (t : TA) : TE := fun σ H Q => t σ H fun vs H1 => ∀ x dx, H1 x = none → H1 dx = none → dx ≠ x →
  sp (.ref x :: (vs ++ dvs)) (upd (upd H1 dx (.own x)) x (.ins C dx [])) (fun v H2 => v = .non ∧ Q (.ref x) H2) E

/-- how the parameters are bound: us the positional arguments, kw the keywords' values by name, ds the defaults that fill up -/
def Binds (K : PySem.W.Frag) (fd : FuncData) (ps : List Str) (ds : List Value) : Prop :=
  ∀ (s : Shared) (us : List Value), K.In s.heap → (us ++ ds).length = ps.length → BindsTo s fd ⟨us, []⟩ (ps.zip (us ++ ds))
/-- every parameter is given -/
theorem Binds.all {K : PySem.W.Frag} {fd : FuncData} {ps : List Str} (h : ∀ us : List Value, us.length = ps.length → bindArgs fd ⟨us, []⟩ = pure (ps.zip us)) : Binds K fd ps [] := fun s us _ hl => by
  rw [List.append_nil] at hl ⊢
  exact .of_eq (h us hl)

/-- an exception of a callee reaches what this body wants of exceptions -/
def Passes (CX : CXT) (X : Cx) (E : XK) : Prop := ∀ (pins : List (Addr × Obj)) (σ : St) (H : Hp) (s : Shared) (e : Value) (s' : Shared), Inv X pins σ H s → CX X.stack H s E e s' → X.xe e s'

section
variable {X : Cx} {CX : CXT} {k : Nat} {f C : Addr} {fd : FuncData} {ps : List Str} {sp : Sp} {dvs : List V} {ds : List Value} {E : XK} {x m : Str} {p pos apos : Pos} {e o : Expr} {es : List Expr} {ta : TE} {t : TA}

/-- the callee runs -/
theorem run_fn {pins : List (Addr × Obj)} {σ : St} {H : Hp} {s : Shared} {Q : VK} {us : List Value} {vs : List V} (F : FnOk X.prog X.w X.K X.mg X.base CX k f fd ps sp) (hr : Room k X.A) (hb : Binds X.K fd ps ds) (hd : Vals dvs ds) (hx : Passes CX X E)
    (I : Inv X pins σ H s) (r : Vals vs us) (h : sp (vs ++ dvs) H Q E) : wpAny (model X.prog X.w) X.A (call (.ref f) us) (EP X pins σ Q) X.xe s := by
  have r2 : Vals (vs ++ dvs) (us ++ ds) := r.append hd
  have hl : (us ++ ds).length = ps.length := by rw [← r2.length]; exact F.len _ _ _ _ h
  refine wpAny_call (codeAny_mono (F.run X.A X.stack s H ⟨us, []⟩ (us ++ ds) (vs ++ dvs) Q E hr I.env0 (hb s us I.kIn hl) r2 h) fun r s' hq => ?_)
  cases r with
  | error e => exact hx pins σ H s e s' I hq
  | ok fl =>
    cases fl with
    | ret u => exact I.after hq
    | next => exact False.elim hq
    | brk => exact False.elim hq
    | cont => exact False.elim hq

theorem pe_call (F : FnOk X.prog X.w X.K X.mg X.base CX k f fd ps sp) (hr : Room k X.A) (hg : Gl X x) (hm : X.mg x = some (.ref f)) (hk : PySem.W.keepIn X.K (.ref f) = true) (hb : Binds X.K fd ps ds) (hd : Vals dvs ds) (hx : Passes CX X E)
    (ha : PA X (e :: es) t) (hdb : (x == ("__debug__" : Str)) = false := by decide) (he : starEach (e :: es) X.env = (false, eval e X.env) :: starEach es X.env := by rfl) (hpl : (backTo pos (starEach es X.env)).any (·.1) = false := by rfl) :
    PE X (.Call (.Name x p) (e :: es) [] pos) (tCall sp dvs E t) := by
  intro pins s σ H Q I h
  refine wpAny_Call_Name_kw (ld_glob I hg hm ?_ hdb)
  refine PySem.W.callWith_K (h₀ := X.base) I.ok.mod.kin hk (thn (ha pos pins s σ H _ I h) fun us s1 ⟨vs, H1, I1, r, q⟩ => ⟨I1.kIn, ?_⟩) he hpl
  exact run_fn F hr hb hd hx I1 r q


/-- what a class must have to be made -/
structure Mk (K : PySem.W.Frag) (C f : Addr) : Prop where
  makes : PySem.W.makesIn K C = true
  init : PySem.W.findIn K (.ref C) "__init__" = some (some (.ref f))
  fn : PySem.W.isFn K (.ref f) = true
  kp : PySem.W.keepIn K (.ref C) = true

theorem run_make {pins : List (Addr × Obj)} {σ : St} {H : Hp} {s : Shared} {Q : VK} {us : List Value} {vs : List V} (M : Mk X.K C f) (F : FnOk X.prog X.w X.K X.mg X.base CX k f fd ps sp) (hr : Room (k + 1) X.A) (hb : Binds X.K fd ps ds) (hd : Vals dvs ds)
    (hx : Passes CX X E) (I : Inv X pins σ H s) (r : Vals vs us)
    (h : ∀ x dx, H x = none → H dx = none → dx ≠ x → sp (.ref x :: (vs ++ dvs)) (upd (upd H dx (.own x)) x (.ins C dx [])) (fun v H2 => v = .non ∧ Q (.ref x) H2) E) :
    wpAny (model X.prog X.w) X.A (call (.ref C) us) (EP X pins σ Q) X.xe s := by
  have hq := h (s.heap.objs.size + 1) s.heap.objs.size (I.hok.fresh (Nat.le_succ _)) (I.hok.fresh (Nat.le_refl _)) (Nat.ne_of_lt (Nat.lt_succ_self _))
  have I2 := Inv.made (C := C) I
  have r2 : Vals (V.ref (s.heap.objs.size + 1) :: (vs ++ dvs)) (Value.ref (s.heap.objs.size + 1) :: (us ++ ds)) := .cons rfl (r.append hd)
  have hl : (Value.ref (s.heap.objs.size + 1) :: us ++ ds).length = ps.length := by
    have e := r2.length
    rw [F.len _ _ _ _ hq] at e
    exact e.symm
  refine wpAny_call (make_map (f := f) I.kIn M.makes M.init (beq_iff_eq.mp M.fn) (codeAny_mono (F.run _ X.stack _ _ ⟨Value.ref (s.heap.objs.size + 1) :: us, []⟩ (Value.ref (s.heap.objs.size + 1) :: (us ++ ds)) _ _ E (hr.make C us [])
    (I2.env0.make C us []) (hb _ (Value.ref (s.heap.objs.size + 1) :: us) I2.kIn hl) r2 hq) fun r s' hq' => ?_))
  cases r with
  | error e => exact hx pins σ _ _ e s' I2 hq'
  | ok fl =>
    cases fl with
    | ret u =>
      obtain ⟨v, H', I3, rv, ev, q3⟩ := I2.after hq'
      subst ev
      exact ⟨rv, ⟨V.ref (s.heap.objs.size + 1), H', I3, rfl, q3⟩⟩
    | next => exact False.elim hq'
    | brk => exact False.elim hq'
    | cont => exact False.elim hq'
theorem pe_make (M : Mk X.K C f) (F : FnOk X.prog X.w X.K X.mg X.base CX k f fd ps sp) (hr : Room (k + 1) X.A) (hg : Gl X x) (hm : X.mg x = some (.ref C)) (hb : Binds X.K fd ps ds) (hd : Vals dvs ds) (hx : Passes CX X E)
    (ha : PA X (e :: es) t) (hdb : (x == ("__debug__" : Str)) = false := by decide) (he : starEach (e :: es) X.env = (false, eval e X.env) :: starEach es X.env := by rfl) (hpl : (backTo pos (starEach es X.env)).any (·.1) = false := by rfl) :
    PE X (.Call (.Name x p) (e :: es) [] pos) (tMake C sp dvs E t) := by
  intro pins s σ H Q I h
  refine wpAny_Call_Name_kw (ld_glob I hg hm ?_ hdb)
  refine PySem.W.callWith_K (h₀ := X.base) I.ok.mod.kin M.kp (thn (ha pos pins s σ H _ I h) fun us s1 ⟨vs, H1, I1, r, q⟩ => ⟨I1.kIn, ?_⟩) he hpl
  exact run_make M F hr hb hd hx I1 r q
end

/-! ### keywords -/
section
variable {X : Cx} {CX : CXT} {k : Nat} {f C : Addr} {fd : FuncData} {ps ks : List Str} {sp : Sp} {E : XK} {x m : Str} {p pos apos kpos : Pos} {e o : Expr} {es : List Expr} {kws : List Keyword} {te ta : TE} {t tk : TA} {nm : Option Str}

variable {g : List Value → List Value → List Value} {gV : List V → List V → List V}
end

/-! ### a def's body keeps its promise -/
/-- names: the parameters first -/
structure FnScope (N P : List Str) (sc : Scope) : Prop where
  kind : sc.kind = .function
  co : sc.isCoroutine = false
  gen : sc.isGenerator = false
  nd : N.Nodup
  pre : N.take P.length = P
  par : ∀ x ∈ P, sc.names.lookup x = some .local ∨ sc.names.lookup x = some .cell
  nofree : ∀ y ∈ sc.names, y.2 ≠ .free

theorem bindL_out {kindOf : Str → Option NameKind} {x : Str} : ∀ {binds : List (Str × Value)} {m : Str → Option Value}, (∀ v, (x, v) ∉ binds) → bindL kindOf binds m x = m x
  | [], _, _ => rfl
  | (n, v) :: r, m, h => by
    unfold bindL
    rw [bindL_out fun w hw => h w (List.mem_cons_of_mem _ hw)]
    split
    · have : x ≠ n := by rintro rfl; exact h v List.mem_cons_self
      simp [this]
    · rfl
theorem bindC_out {kindOf : Str → Option NameKind} {x : Str} : ∀ {binds : List (Str × Value)} {m : Str → Option Value}, (∀ v, (x, v) ∉ binds) → bindC kindOf binds m x = m x
  | [], _, _ => rfl
  | (n, v) :: r, m, h => by
    unfold bindC
    rw [bindC_out fun w hw => h w (List.mem_cons_of_mem _ hw)]
    split
    · rfl
    · have : x ≠ n := by rintro rfl; exact h v List.mem_cons_self
      simp [this]
theorem bindL_get {kindOf : Str → Option NameKind} {x : Str} {v : Value} : ∀ {P : List Str} {vs : List Value} {i : Nat} {m : Str → Option Value}, P.Nodup → P[i]? = some x → vs[i]? = some v → kindOf x = some .local →
    bindL kindOf (P.zip vs) m x = some v
  | [], _, _, _, _, h, _, _ => by simp at h
  | _ :: _, [], _, _, _, _, h, _ => by simp at h
  | p :: P, w :: vs, 0, m, nd, h1, h2, hk => by
    simp at h1 h2; subst h1; subst h2
    show bindL kindOf ((p, w) :: P.zip vs) m p = _
    unfold bindL
    rw [bindL_out fun v hv => (List.nodup_cons.mp nd).1 (List.of_mem_zip hv).1, if_pos hk]
    simp
  | p :: P, w :: vs, i + 1, m, nd, h1, h2, hk => by
    show bindL kindOf ((p, w) :: P.zip vs) m x = _
    unfold bindL
    exact bindL_get (i := i) (List.nodup_cons.mp nd).2 (by simpa using h1) (by simpa using h2) hk
theorem bindC_get {kindOf : Str → Option NameKind} {x : Str} {v : Value} : ∀ {P : List Str} {vs : List Value} {i : Nat} {m : Str → Option Value}, P.Nodup → P[i]? = some x → vs[i]? = some v → kindOf x ≠ some .local →
    bindC kindOf (P.zip vs) m x = some v
  | [], _, _, _, _, h, _, _ => by simp at h
  | _ :: _, [], _, _, _, _, h, _ => by simp at h
  | p :: P, w :: vs, 0, m, nd, h1, h2, hk => by
    simp at h1 h2; subst h1; subst h2
    show bindC kindOf ((p, w) :: P.zip vs) m p = _
    unfold bindC
    rw [bindC_out fun v hv => (List.nodup_cons.mp nd).1 (List.of_mem_zip hv).1, if_neg hk]
    simp
  | p :: P, w :: vs, i + 1, m, nd, h1, h2, hk => by
    show bindC kindOf ((p, w) :: P.zip vs) m x = _
    unfold bindC
    exact bindC_get (i := i) (List.nodup_cons.mp nd).2 (by simpa using h1) (by simpa using h2) hk

/-- the names' values at the entry -/
def start (N : List Str) (vs : List V) : St := vs.map some ++ List.replicate (N.length - vs.length) none

/-- the context of a def's body, at its entry; an exception leaves the frame, then lies as CX says -/
def cxOf (CX : CXT) (P : Program) (w : World) (K : PySem.W.Frag) (mg : Str → Option Value) (base : Heap) (N : List Str) (qual : Str) (scope : Scope) (f : Addr) (cd : Value) (A : Around) (outer : List Env) (s : Shared) (H : Hp) (E : XK) : Cx where
  prog := P
  w := w
  K := K
  mg := mg
  base := base
  A := A.deeper (envOfC qual scope s.heap.objs.size f cd)
  N := N
  s₀ := s
  H₀ := H
  env := envOfC qual scope s.heap.objs.size f cd
  outer := outer
  stack := envOfC qual scope s.heap.objs.size f cd :: outer
  ex := []
  calm := true
  fn := fun _ => true
  pn := []
  xe := fun e s' => wpAny (model P w) (A.deeper (envOfC qual scope s.heap.objs.size f cd)) (leaving (envOfC qual scope s.heap.objs.size f cd) e) (fun _ s'' => CX outer H s E e s'') (fun e' s'' => CX outer H s E e' s'') s'

theorem cell_has {sc : Scope} {n : Nat} {x : Str} (h : sc.names.lookup x = some .cell) : ∃ c, (cellsFrom n sc.names []).lookup x = some c := by
  have q := PySem.W.cellsFrom_some sc.names n [] (.inl h)
  exact Option.isSome_iff_exists.mp q

theorem inv_start {CX : CXT} {P : Program} {w : World} {K : PySem.W.Frag} {mg : Str → Option Value} {base : Heap} {N ps : List Str} {qual : Str} {scope : Scope} {f : Addr} {cd : Value} {A : Around} {outer : List Env} {s s1 : Shared} {H : Hp} {E : XK} {us : List Value} {vs : List V}
    (S : FnScope N ps scope) (hd : A.handled = none) (e0 : Env0 P w K mg base A outer s H) (hl : vs.length = ps.length) (r : Vals vs us)
    (x : InCallC s s.heap.objs.size (bindL (envOfC qual scope s.heap.objs.size f cd).kindOf (ps.zip us) fun _ => none) (cellsFrom (s.heap.objs.size + 1) scope.names []) (bindC (envOfC qual scope s.heap.objs.size f cd).kindOf (ps.zip us) fun _ => none) s1) :
    Inv (cxOf CX P w K mg base N qual scope f cd A outer s H E) [] (start N vs) H s1 := by
  have hpl : ps.length ≤ N.length := by have := congrArg List.length S.pre; rw [List.length_take] at this; omega
  obtain ⟨h1, tk, rfl, hk⟩ := x.done
  have noA : ∀ b : Addr, b ∉ (cxOf CX P w K mg base N qual scope f cd A outer s H E).ex := fun b z => absurd (show b ∈ ([] : List Addr) from z) (by simp)
  refine ⟨⟨e0.mod, S.kind, rfl, rfl, Nat.le_refl _, fun y z c h1 h2 => ?_, fun y hy => ?_, fun y c _ h => ?_, fun _ => hd, Around.frames_deeper e0.frames, .inr ⟨rfl, rfl⟩, fun b z => absurd z (noA b), e0.bs, e0.bsz, fun b _ _ => noA b, fun b z => absurd z (noA b), e0.funs, e0.frf⟩,
    rfl, e0.bare, Un.kept hk, ⟨_, x.toInCall.ns, fun i y v h1 h2 h3 => ?_⟩, fun y c h => ⟨_, x.cell y c h⟩, e0.hok.fresh (Nat.le_refl _), fun y c h => ?_, fun p hp => absurd (show p ∈ ([] : List (Addr × Obj)) from hp) (by simp), e0.hok.kept hk, ?_⟩
  · exact name_of_addr x.apart (PySem.mem_of_lookup h1) (PySem.mem_of_lookup h2)
  · have hy : scope.names.lookup y = some .cell ∨ scope.names.lookup y = some .free := hy
    rcases hy with hy | hy
    · exact cell_has hy
    · exact absurd rfl (S.nofree _ (PySem.mem_of_lookup hy))
  · exact Nat.le_of_lt (x.above y c (PySem.mem_of_lookup h))
  · have hi : i < vs.length := by
      unfold start at h2
      by_cases hi : i < vs.length
      · exact hi
      · rw [List.getElem?_append_right (by simpa using hi)] at h2
        rw [List.getElem?_replicate] at h2
        split at h2 <;> cases h2
    have ha : vs[i]? = some v := by
      unfold start at h2
      rw [List.getElem?_append_left (by simpa using hi), List.getElem?_map] at h2
      cases e : vs[i]? with
      | none => rw [e] at h2; cases h2
      | some a => rw [e] at h2; cases h2; rfl
    obtain ⟨u, hu, rv⟩ := r.get ha
    have hp : ps[i]? = some y := by
      rw [← S.pre, List.getElem?_take_of_lt (by omega)]; exact h1
    have ndP : ps.Nodup := by rw [← S.pre]; exact S.nd.sublist (List.take_sublist _ _)
    refine ⟨u, rv, ?_⟩
    rcases S.par y (List.mem_of_getElem? hp) with k | k
    · exact .inl ⟨k, bindL_get ndP hp hu k⟩
    · obtain ⟨c, e⟩ := cell_has (n := s.heap.objs.size + 1) k
      refine .inr ⟨.inl k, c, e, ?_⟩
      have q := x.cell y c e
      rw [bindC_get ndP hp hu (by show scope.names.lookup y ≠ _; rw [k]; decide)] at q
      exact q
  · exact e0.hok.fresh (Nat.le_of_lt (x.above y c (PySem.mem_of_lookup h)))
  · unfold start
    show _ = N.length
    rw [List.length_append, List.length_map, List.length_replicate]
    omega

/-- THE RULE: a def (or a method) of the text, by its body. The body's reading t is chosen for each entry; it is run at the parameters' values -/
theorem fn_of {CX : CXT} {P : Program} {w : World} {K : PySem.W.Frag} {mg : Str → Option Value} {base : Heap} {k : Nat} {f : Addr} {name qual : Str} {params : Arguments} {body : List Stmt} {scope : Scope} {dV kV doc pm cdv ct oc : Value} {an od : Option Addr}
    {osl : Array (Option Value)} {N ps : List Str} {sp : Sp} (lk : K.lookup f = some ⟨oc, od, .func (PySem.W.fnOf name qual params body scope dV kV doc pm an cdv ct), osl⟩) (hcd : PySem.W.codeIn K cdv qual = true) (S : FnScope N ps scope)
    (len : ∀ vs H Q E, sp vs H Q E → vs.length = ps.length)
    (hbody : ∀ (A : Around) (outer : List Env) (s : Shared) (H : Hp) (vs : List V) (Q : VK) (E : XK), Room k (A.deeper (envOfC qual scope s.heap.objs.size f cdv)) → sp vs H Q E →
      ∃ t, PSs (cxOf CX P w K mg base N qual scope f cdv A outer s H E) body t ∧ t { nx := fun _ H' => Q .non H', rt := Q } (start N vs) H) :
    FnOk P w K mg base CX (k + 1) f (PySem.W.fnOf name qual params body scope dV kV doc pm an cdv ct) ps sp := by
  refine ⟨len, fun A outer s H args us vs Q E hr e0 hb r hsp => ?_⟩
  have hl := len _ _ _ _ hsp
  have KX : K.In s.heap := e0.mod.kin.keeps fun b o e => (e0.bs b o e).1
  have lim : s.heap.NoLimit := e0.mod.nolimit.keeps fun b o e => (e0.bs b o e).1
  have hkind : ∀ y ∈ ps.zip us, scope.names.lookup y.1 = some .local ∨ (scope.names.lookup y.1 = some .cell ∧ ((cellsFrom (s.heap.objs.size + 1) scope.names []).lookup y.1).isSome = true) := fun ⟨n, v⟩ hy => by
    rcases S.par n (List.of_mem_zip hy).1 with q | q
    · exact .inl q
    · exact .inr ⟨q, PySem.W.cellsFrom_some _ _ _ (.inl q)⟩
  refine codeAny_call_function hr.depth (KX _ _ lk) rfl S.co S.gen rfl (PySem.W.codeRec_of KX hcd) (hb _ _ _ _ ?_)
  refine wpAny_newFunctionEnv_cells S.kind hkind fun env he s1 x => ?_
  subst he
  refine ⟨lim.keeps x.toInCall.keep, codeAny_func ?_⟩
  obtain ⟨t, ht, hq⟩ := hbody A outer s H vs Q E (hr.deeper _) hsp
  have I : Inv (cxOf CX P w K mg base N qual scope f cdv A outer s H E) [] (start N vs) H s1 := inv_start S hr.hd e0 hl r x
  refine wpAny_mono (ht [] s1 (start N vs) H _ I hq) (fun fl s' hs => ?_) fun e s' hs => hs
  have fin : ∀ {σ' : St} {H' : Hp} {v : V} {u : Value}, Inv (cxOf CX P w K mg base N qual scope f cdv A outer s H E) [] σ' H' s' → RelV v u → Q v H' → CE outer P w H s Q u s' :=
    fun {σ' H' v u} J rv q => ⟨v, H', J.os, J.bare, J.base, J.hok, rv, q⟩
  cases fl with
  | ret u =>
    obtain ⟨v, σ', H', J, rv, q⟩ := hs
    exact fin J rv q
  | next =>
    obtain ⟨σ', H', J, q⟩ := hs
    exact fin (v := V.non) (u := Value.none) J rfl q
  | brk =>
    obtain ⟨_, _, _, q⟩ := hs
    exact False.elim q
  | cont =>
    obtain ⟨_, _, _, q⟩ := hs
    exact False.elim q
end L2

namespace L2
open PySem PySem.Spec PyProof.Rows
section
variable {X : Cx} {x : Str} {p pos : Pos} {e : Expr} {es : List Expr} {t : TA} {id T : String} {r : List V → Hp → VK → Prop}

def tCB (r : List V → Hp → VK → Prop) (t : TA) : TE := fun σ H Q => t σ H fun vs H1 => r vs H1 Q
/-- f(e, ..), f a built-in function -/
theorem pe_callB (hc : CallR X (.builtin id) r) (hg : Gl X x) (hm : X.mg x = none) (hv : bootBuiltins x = some (.builtin id)) (ha : PA X (e :: es) t) (hn : x ≠ "__name__" := by decide) (hdb : (x == ("__debug__" : Str)) = false := by decide)
    (he : starEach (e :: es) X.env = (false, eval e X.env) :: starEach es X.env := by rfl) (hpl : (backTo pos (starEach es X.env)).any (·.1) = false := by rfl) : PE X (.Call (.Name x p) (e :: es) [] pos) (tCB r t) := by
  intro pins s σ H Q I h
  refine wpAny_Call_Name_kw (ld_blt I hg hm hv ?_ hn hdb)
  exact PyProof.Rows.callWith_builtin1 (thn (ha pos pins s σ H _ I h) fun us s1 ⟨vs, H1, I1, r1, q1⟩ => hc pins s1 σ H1 vs us Q I1 r1 q1) he hpl
/-- T(e, ..), T a built-in type -/
theorem pe_callTy (hc : CallR X (.type T) r) (hg : Gl X x) (hm : X.mg x = none) (hv : bootBuiltins x = some (.type T)) (ha : PA X (e :: es) t) (hn : x ≠ "__name__" := by decide) (hdb : (x == ("__debug__" : Str)) = false := by decide)
    (he : starEach (e :: es) X.env = (false, eval e X.env) :: starEach es X.env := by rfl) (hpl : (backTo pos (starEach es X.env)).any (·.1) = false := by rfl) : PE X (.Call (.Name x p) (e :: es) [] pos) (tCB r t) := by
  intro pins s σ H Q I h
  refine wpAny_Call_Name_kw (ld_blt I hg hm hv ?_ hn hdb)
  exact PyProof.Rows.callWith_type1 (thn (ha pos pins s σ H _ I h) fun us s1 ⟨vs, H1, I1, r1, q1⟩ => hc pins s1 σ H1 vs us Q I1 r1 q1) he hpl
end
end L2

namespace HT
open PySem PyProof.Rows



section
open PySem.SeqAt
open PySem.AutoSeq1 (wpAny_loadPart')
open PySem.MeetsSeq PySem.MeetsSeq2 PySem.MeetsSeq3

end

section
variable {prog : Program} {w : World} {A : Around} {E : Value → Shared → Prop} {s : Shared}



/-! ### t[a:b], not the whole -/
/-- a slice's bound as a place among n (d where it is left out) -/
def sIx (n d : Nat) : Option Int → Nat
  | none => d
  | some v => if v < 0 then (v + (n : Int)).toNat else min v.toNat n
theorem sIx_nat (n d k : Nat) : sIx n d (some (k : Int)) = min k n := by
  show (if (k : Int) < 0 then ((k : Int) + (n : Int)).toNat else min (k : Int).toNat n) = min k n
  rw [if_neg (by omega), Int.toNat_natCast]

end
end HT

namespace L2
open PySem PySem.Spec PyProof.Rows

/-! ### the parts of a slice -/
abbrev TO := St → Hp → (Option Int → Hp → Prop) → Prop
/-- a slice's part (left out, or an int) -/
def PO (X : Cx) (e : Option Expr) (t : TO) : Prop :=
  ∀ (pins : List (Addr × Obj)) (s : Shared) (σ : St) (H : Hp) (Q : Option Int → Hp → Prop), Inv X pins σ H s → t σ H Q →
    wpAny (model X.prog X.w) X.A (evalPart e X.env) (fun u s' => ∃ o H', Inv X pins σ H' s' ∧ IsPart u o ∧ Q o H') X.xe s
def tPart (t : TE) : TO := fun σ H Q => t σ H fun x H1 => ∃ i, x = .int i ∧ Q (some i) H1


section
variable {X : Cx} {e : Expr} {te : TE} {lo hi : Option Expr} {tl th : TO} {pos p2 : Pos}

theorem po_some (h : PE X e te) : PO X (some e) (tPart te) := by
  intro pins s σ H Q I hw
  rw [evalPart_some]
  refine thn (h pins s σ H _ I hw) fun u s1 ⟨x, H1, I1, r1, q1⟩ => ?_
  obtain ⟨i, rfl, q⟩ := q1
  obtain ⟨t, rfl⟩ := r1
  exact ⟨some i, H1, I1, .int i t, q⟩

/-- what a slice of a value is, by values: the slice object stands at sl -/
def SlR (X : Cx) (r : V → Option Int → Option Int → Hp → VK → Prop) : Prop :=
  ∀ (pins : List (Addr × Obj)) (s : Shared) (σ : St) (H : Hp) (x : V) (v vl vu : Value) (lo hi : Option Int) (sl : Addr) (Q : VK), Inv X pins σ H s → RelV x v → s.heap.IsSliceOf sl vl vu .none → IsPart vl lo → IsPart vu hi → r x lo hi H Q →
    ∃ T id, typeLookup (.type T) "__getitem__" = pure (some (.builtin id)) ∧ s.TypeIs v T ∧ wpAny (model X.prog X.w) X.A (getItem v (.ref sl)) (EP X pins σ Q) X.xe s
def tSl (r : V → Option Int → Option Int → Hp → VK → Prop) (te : TE) (tl th : TO) : TE := fun σ H Q => te σ H fun x H1 => tl σ H1 fun l H2 => th σ H2 fun u H3 => r x l u H3 Q
/-- a[lo:hi], any a -/
theorem pe_slice {r : V → Option Int → Option Int → Hp → VK → Prop} (hr : SlR X r) (he : PE X e te) (hl : PO X lo tl) (hu : PO X hi th) : PE X (.Subscript e (.Slice lo hi none p2) pos) (tSl r te tl th) := by
  intro pins s σ H Q I h
  refine Subscript_ (thn (he pins s σ H _ I h) fun v s1 ⟨x, H1, I1, r1, q1⟩ => ?_)
  refine wpAny_Slice (thn (hl pins s1 σ H1 _ I1 q1) fun vl s2 ⟨l, H2, I2, pl, q2⟩ => thn (hu pins s2 σ H2 _ I2 q2) fun vu s3 ⟨u, H3, I3, pu, q3⟩ => ?_)
  rw [evalPart_none]
  refine wpAny_pure ?_
  have I4 : Inv X pins σ H3 { s3 with heap := s3.heap.push { cls := .type "slice", data := .fields #[vl, vu, .none] } } := I3.kept (t' := s3.toks) fun b ob q => Heap.get?_push_of_some _ q
  obtain ⟨T, id, hT, ht, hg⟩ := hr pins { s3 with heap := s3.heap.push { cls := .type "slice", data := .fields #[vl, vu, .none] } } σ H3 x v vl vu l u s3.heap.objs.size Q I4 r1 (Heap.IsSliceOf.new ..) pl pu q3
  show wpAny (model X.prog X.w) X.A (subscriptTail e (.Slice lo hi none p2) v (.ref s3.heap.objs.size)) (EP X pins σ Q) X.xe { s3 with heap := s3.heap.push { cls := .type "slice", data := .fields #[vl, vu, .none] } }
  exact tail_any (ops := [.ref s3.heap.objs.size, v]) ht hT hg (by with_unfolding_all rfl)

/-- the items of xs[lo:hi] -/
def cutV (xs : List V) (lo hi : Option Int) : List V := (xs.drop (HT.sIx xs.length 0 lo)).take (HT.sIx xs.length xs.length hi - HT.sIx xs.length 0 lo)
theorem cutV_length (xs : List V) (lo hi : Option Int) : (cutV xs lo hi).length ≤ xs.length := by
  unfold cutV
  rw [List.length_take, List.length_drop]
  omega

/-! ### t < u, t + u -/
end
end L2

namespace L2
open PySem PySem.Spec PyProof.Rows

/-! ### places -/
/-- the place that an index of any sign means -/
def ixN (n : Nat) (i : Int) : Option Nat := if 0 ≤ i then (if i < n then some i.toNat else none) else if -(n : Int) ≤ i then some (i + n).toNat else none
def atI {α : Type} (xs : List α) (i : Int) : Option α := (ixN xs.length i).bind fun j => xs[j]?
theorem ixN_seq {n : Nat} {i : Int} {j : Nat} (h : ixN n i = some j) : seqIndex? i n = some j ∧ j < n ∧ -(n : Int) ≤ i ∧ i < n := by
  unfold ixN at h
  by_cases h0 : 0 ≤ i
  · rw [if_pos h0] at h
    by_cases h1 : i < n
    · rw [if_pos h1] at h
      have e : i.toNat = j := Option.some.inj h
      exact ⟨by rw [seqIndex_of h0 h1, e], by omega, by omega, h1⟩
    · rw [if_neg h1] at h; cases h
  · rw [if_neg h0] at h
    by_cases h1 : -(n : Int) ≤ i
    · rw [if_pos h1] at h
      have e : (i + n).toNat = j := Option.some.inj h
      exact ⟨by rw [seqIndex_neg (by omega) h1, e], by omega, h1, by omega⟩
    · rw [if_neg h1] at h; cases h
theorem atI_get {α : Type} {xs : List α} {i : Int} {v : α} (h : atI xs i = some v) : ∃ j, seqIndex? i xs.length = some j ∧ xs[j]? = some v ∧ j < xs.length ∧ -(xs.length : Int) ≤ i ∧ i < xs.length := by
  unfold atI at h
  cases e : ixN xs.length i with
  | none => rw [e] at h; cases h
  | some j =>
    rw [e] at h
    obtain ⟨h1, h2, h3, h4⟩ := ixN_seq e
    exact ⟨j, h1, h, h2, h3, h4⟩
theorem atI_nat {α : Type} {xs : List α} {j : Nat} {v : α} (h : xs[j]? = some v) : atI xs (j : Int) = some v := by
  have hj : j < xs.length := (List.getElem?_eq_some_iff.mp h).1
  have e : ixN xs.length (j : Int) = some j := by
    unfold ixN
    rw [if_pos (by omega), if_pos (by omega)]; simp
  unfold atI; rw [e]; exact h

/-! ### what may be subscripted -/
/-- what stands as an index of a plain subscript -/
def PlainIx (b : Expr) : Prop := ∀ o i, subscripted b false o i = operate [o, i] (getItem o i)
/-- a subscript by values -/
def IxR (X : Cx) (r : R2) : Prop :=
  ∀ (value slice : Expr) (pins : List (Addr × Obj)) (s : Shared) (σ : St) (H : Hp) (x y : V) (v u : Value) (Q : VK), Inv X pins σ H s → RelV x v → RelV y u → r x y H Q →
    subscripted slice false v u = operate [v, u] (getItem v u) → wpAny (model X.prog X.w) X.A (subscriptTail value slice v u) (EP X pins σ Q) X.xe s
/-- a call of a builtin's method by values: the receiver, the arguments -/
def MtR (X : Cx) (id : String) (r : V → List V → Hp → VK → Prop) : Prop :=
  ∀ (pins : List (Addr × Obj)) (s : Shared) (σ : St) (H : Hp) (x : V) (xs : List V) (v : Value) (us : List Value) (Q : VK), Inv X pins σ H s → RelV x v → Vals xs us → r x xs H Q →
    wpAny (model X.prog X.w) X.A (call (.builtin id) (v :: us)) (EP X pins σ Q) X.xe s
section
variable {X : Cx} {a b : Expr} {ta tb : TE} {pos : Pos}
/-- a[b] -/
theorem pe_ix {r : R2} (hr : IxR X r) (ha : PE X a ta) (hb : PE X b tb) (hs : PlainIx b) : PE X (.Subscript a b pos) (tOp r ta tb) := by
  intro pins s σ H Q I h
  exact Subscript_ (binT ha hb I h fun v u s2 x y H2 I2 rx ry q => hr a b pins s2 σ H2 x y v u Q I2 rx ry q (hs _ _))

def rIxL (K : PySem.W.Frag) : R2 := fun x y H Q => ∃ p xs i v, x = .ref p ∧ y = .int i ∧ SqL K H p xs ∧ atI xs i = some v ∧ Q v H
def rIxT (K : PySem.W.Frag) : R2 := fun x y H Q => ∃ p xs i v, x = .ref p ∧ y = .int i ∧ SqT K H p xs ∧ atI xs i = some v ∧ Q v H
theorem ix_list : IxR X (rIxL X.K) := by
  intro value slice pins s σ H x y v u Q I rx ry h hs
  obtain ⟨p, xs, i, z, rfl, rfl, hq, he, q⟩ := h
  cases rx
  obtain ⟨t, rfl⟩ := ry
  obtain ⟨its, r, pl, hz⟩ := I.list hq
  obtain ⟨j, h1, h2, h3, h4, h5⟩ := atI_get he
  obtain ⟨w, ew, rw'⟩ := r.get h2
  have hl := r.length
  have hn := line63
  have fin : EP X pins σ Q w s := ⟨z, H, I, rw', q⟩
  by_cases h0 : 0 ≤ i
  · have hj : i.toNat = j := by
      rw [seqIndex_of h0 h5] at h1
      exact Option.some.inj h1
    exact item_listR pl.isList h0 (by omega) (by rw [hj]; simpa using ew) fin hs
  · have hj : (i + (its.toArray.size : Int)).toNat = j := by
      rw [seqIndex_neg (by omega) h4] at h1
      rw [List.size_toArray, ← hl]
      exact Option.some.inj h1
    exact subscriptTail_builtinR (x := w) pl.isList.typeIs slot_list_getitem.lookup
      (wpAny_getItem_list_neg (Q := fun r s' => r = w ∧ EP X pins σ Q r s') pl.isList (by omega) (by rw [List.size_toArray] <;> omega) (by omega) (by rw [hj]; simpa using ew) ⟨rfl, fin⟩) hs
theorem ix_tup : IxR X (rIxT X.K) := by
  intro value slice pins s σ H x y v u Q I rx ry h hs
  obtain ⟨p, xs, i, z, rfl, rfl, hq, he, q⟩ := h
  cases rx
  obtain ⟨t, rfl⟩ := ry
  obtain ⟨its, r, pl, hz⟩ := I.tuple hq
  obtain ⟨j, h1, h2, h3, h4, h5⟩ := atI_get he
  obtain ⟨w, ew, rw'⟩ := r.get h2
  have hl := r.length
  have hn := line63
  have fin : EP X pins σ Q w s := ⟨z, H, I, rw', q⟩
  exact subscriptTail_builtinR (x := w) pl.typeIs slot_tuple_getitem.lookup
    (getItem_tuple (j := j) (Q := fun r s' => r = w ∧ EP X pins σ Q r s') pl (by omega) (by omega) (by rw [List.size_toArray, ← hl]; exact h1) (by simpa using ew) ⟨rfl, fin⟩) hs

/-! ### xs[i] = v, any sign -/

/-! ### slices -/
theorem slice_bounds (lo hi : Option Int) (n : Nat) : (sliceBounds lo hi none n).1 = ((HT.sIx n 0 lo : Nat) : Int) ∧ (sliceBounds lo hi none n).2.1 = ((HT.sIx n n hi : Nat) : Int) ∧ (sliceBounds lo hi none n).2.2 = 1 := by
  refine ⟨?_, ?_, rfl⟩
  · cases lo with
    | none => simp [sliceBounds, HT.sIx]
    | some i =>
      simp only [sliceBounds, HT.sIx, Option.getD_none, show (1 : Int) > 0 by decide, if_true]
      by_cases h : i < 0
      · simp only [h, if_true] <;> omega
      · simp only [h, if_false] <;> omega
  · cases hi with
    | none => simp [sliceBounds, HT.sIx]
    | some i =>
      simp only [sliceBounds, HT.sIx, Option.getD_none, show (1 : Int) > 0 by decide, if_true]
      by_cases h : i < 0
      · simp only [h, if_true] <;> omega
      · simp only [h, if_false] <;> omega
theorem slicePick_cut (its : List Value) (lo hi : Option Int) : slicePick its.toArray lo hi none = ((its.drop (HT.sIx its.length 0 lo)).take (HT.sIx its.length its.length hi - HT.sIx its.length 0 lo)).toArray := by
  obtain ⟨h1, h2, h3⟩ := slice_bounds lo hi its.toArray.size
  unfold slicePick
  rw [h1, h2, h3]
  simp only [sliceRange_one, pick_run, List.size_toArray] <;> rfl
/-- xs[lo:hi] of a list: a new list -/
def rSlL (K : PySem.W.Frag) : V → Option Int → Option Int → Hp → VK → Prop := fun x lo hi H Q => ∃ a xs, x = .ref a ∧ SqL K H a xs ∧ ∀ p, H p = none → Q (.ref p) (upd H p (.lst (cutV xs lo hi)))
theorem sl_list : SlR X (rSlL X.K) := by
  intro pins s σ H x v vl vu lo hi sl Q I rx hs pl pu h
  obtain ⟨a, xs, rfl, hx, q⟩ := h
  cases rx
  obtain ⟨its, r, ht, hz⟩ := I.list hx
  have hlen := r.length
  refine ⟨"list", _, slot_list_getitem.lookup, ht.isList.typeIs, ?_⟩
  refine wpAny_getItem_list_slice ht.isList hs pl pu .none (by simp) ?_ (by rw [List.size_toArray] <;> omega)
  rw [slicePick_cut, ← hlen]
  refine ⟨.ref s.heap.objs.size, _, I.laid (t' := s.toks) (o := .lst (cutV xs lo hi)) (fun b ob q => Heap.get?_push_of_some _ q) (Nat.le_refl _) ?_, rfl, q _ (I.hok.fresh (Nat.le_refl _))⟩
  exact ⟨Nat.le_trans (cutV_length xs lo hi) hz, _, 0, (r.drop (HT.sIx xs.length 0 lo)).take (HT.sIx xs.length xs.length hi - HT.sIx xs.length 0 lo), Heap.get?_push_size _ rfl⟩

/-! ### in, not in: flat items -/

/-! ### len, list(x), tuple(x) of any list or tuple that is read -/
theorem call_len_seq : CallR X (.builtin "len") (fun xs H Q => ∃ p ys, xs = [.ref p] ∧ (SqL X.K H p ys ∨ SqT X.K H p ys) ∧ Q (.int ys.length) H) := by
  intro pins s σ H xs us Q I r h
  obtain ⟨p, ys, rfl, hq, q⟩ := h
  obtain ⟨u, rfl, rx⟩ := vals1 r
  cases rx
  have hn := line63
  rcases hq with hq | hq
  · obtain ⟨its, r', pl, hz⟩ := I.list hq
    have hlen := r'.length
    exact Calls.call_len_list pl.isList (by simp only [List.size_toArray] <;> omega) ⟨.int ys.length, H, I.tok _, ⟨s.toks + 1, by rw [List.size_toArray, hlen]⟩, q⟩
  · obtain ⟨its, r', pl, hz⟩ := I.tuple hq
    have hlen := r'.length
    exact len_tuple pl (by simp only [List.size_toArray] <;> omega) ⟨.int ys.length, H, I.tok _, ⟨s.toks + 1, by rw [List.size_toArray, hlen]⟩, q⟩
theorem call_list_of : CallR X (.type "list") (fun xs H Q => ∃ p ys, xs = [.ref p] ∧ (SqL X.K H p ys ∨ SqT X.K H p ys) ∧ ∀ l, H l = none → Q (.ref l) (upd H l (.lst ys))) := by
  intro pins s σ H xs us Q I r h
  obtain ⟨p, ys, rfl, hq, q⟩ := h
  obtain ⟨u, rfl, rx⟩ := vals1 r
  cases rx
  have fin : ∀ (its : List Value), Vals ys its → ys.length ≤ sizeLine → ∀ (h' : Heap) (c' : Nat), (∀ b o', s.heap.get? b = some o' → h'.get? b = some o') →
      h'.get? s.heap.objs.size = some { cls := .type "list", dict := none, data := .seq its.toArray c', slots := #[] } → EP X pins σ Q (.ref s.heap.objs.size) { s with heap := h' } := fun its r' hz h' c' kp e =>
    ⟨.ref s.heap.objs.size, _, I.laid (t' := s.toks) kp (Nat.le_refl _) (show ObjOk X.prog X.w _ h' _ (.lst ys) from ⟨hz, its, c', r', e⟩), rfl, q _ (I.hok.fresh (Nat.le_refl _))⟩
  rcases hq with hq | hq
  · obtain ⟨its, r', pl, hz⟩ := I.list hq
    have hlen := r'.length
    obtain ⟨o, ho, hc, n, hd⟩ := pl.isList
    exact call_list_seq p (.inl rfl) ho hc hd (fun h' c' kp e => fin its r' hz h' c' kp e) (by simp only [List.size_toArray] <;> omega)
  · obtain ⟨its, r', pl, hz⟩ := I.tuple hq
    have hlen := r'.length
    obtain ⟨o, ho, hc, n, hd⟩ := pl
    exact call_list_seq p (.inr rfl) ho hc hd (fun h' c' kp e => fin its r' hz h' c' kp e) (by simp only [List.size_toArray] <;> omega)

/-! ### the call of a builtin's method: o.m(..) -/
/-- the value is of that builtin type -/
def tyV (K : PySem.W.Frag) (T : String) (x : V) (H : Hp) : Prop := match x with
  | .str _ => T = "str"
  | .int _ => T = "int"
  | .ref p => (T = "list" ∧ ∃ xs, SqL K H p xs) ∨ (T = "tuple" ∧ ∃ o, K.lookup p = some o ∧ o.cls = .type "tuple" ∧ o.dict = none) ∨
      (T = "dict" ∧ ((∃ kvs, H p = some (.dK kvs)) ∨ ∃ kvs, H p = some (.dT kvs))) ∨ (T = "set" ∧ ∃ S n, H p = some (.set S n))
  | _ => False
theorem tyV_is {pins : List (Addr × Obj)} {σ : St} {H : Hp} {s : Shared} {T : String} {x : V} {v : Value} (I : Inv X pins σ H s) (r : RelV x v) (ty : tyV X.K T x H) :
    s.TypeIs v T ∧ ∀ a, v = .ref a → ∃ ob, s.heap.get? a = some ob ∧ ob.dict = none := by
  cases x with
  | str z =>
    obtain ⟨t, rfl⟩ := r
    cases (show T = "str" from ty)
    exact ⟨typeIs_str s z t, fun _ e => nomatch e⟩
  | int i =>
    obtain ⟨t, rfl⟩ := r
    cases (show T = "int" from ty)
    exact ⟨typeIs_int s i t, fun _ e => nomatch e⟩
  | ref p =>
    cases r
    rcases ty with ⟨rfl, xs, hq⟩ | ⟨rfl, o, hk, hc, hd⟩ | ⟨rfl, hk⟩ | ⟨rfl, S, n, hk⟩
    · obtain ⟨its, _, pl, _⟩ := I.list hq
      refine ⟨pl.isList.typeIs, fun a e => ?_⟩
      cases e
      obtain ⟨o, n, e, c, hd, _⟩ := pl
      exact ⟨o, e, hd⟩
    · refine ⟨⟨o, I.kIn p o hk, hc⟩, fun a e => ?_⟩
      cases e
      exact ⟨o, I.kIn _ o hk, hd⟩
    · have z : ∃ o, s.heap.get? p = some o ∧ o.ExactDict := by
        rcases hk with ⟨kvs, hk⟩ | ⟨kvs, hk⟩
        · obtain ⟨_, _, _, _, o, _, _, e, ex, _⟩ := I.hok p _ hk
          exact ⟨o, e, ex⟩
        · obtain ⟨_, _, _, _, o, _, _, e, ex, _⟩ := I.hok p _ hk
          exact ⟨o, e, ex⟩
      obtain ⟨o, e, ex⟩ := z
      refine ⟨⟨o, e, ex.1⟩, fun a e2 => ?_⟩
      cases e2
      exact ⟨o, e, ex.2.1⟩
    · obtain ⟨o, _, _, _, e, ex, _⟩ := I.hok p _ hk
      refine ⟨⟨o, e, ex.1⟩, fun a e2 => ?_⟩
      cases e2
      exact ⟨o, e, ex.2.1⟩
  | _ => exact False.elim ty
def tBM (K : PySem.W.Frag) (T : String) (r : V → List V → Hp → VK → Prop) (to : TE) (t : TA) : TE := fun σ H Q => to σ H fun x H1 => tyV K T x H1 ∧ t σ H1 fun xs H2 => r x xs H2 Q
variable {o e : Expr} {es : List Expr} {to : TE} {t : TA} {name : Str} {apos cpos : Pos} {T id : String} {r : V → List V → Hp → VK → Prop}
theorem pe_bm (pa : PlainAttrs T) (slot : Slot T name id) (hty : typeOf (.builtin id) = pure (.type "method_descriptor")) (hm : MtR X id r) (ho : PE X o to) (ha : PA X (e :: es) t)
    (hbase : attributeBase o name X.env (eval o X.env) = eval o X.env := by rfl)
    (hfew : ((backTo cpos (starEach (e :: es) X.env)).all (fun x => !x.1) && (backToKw cpos (keywordEach [] X.env)).all (fun x => x.1.isSome)
      && decide ((e :: es).length + ([] : List Keyword).length + (if ([] : List Keyword).isEmpty then 0 else 1) < 30)) = true := by rfl)
    (hline : (apos.endLine == cpos.line) = true := by rfl) (hs : starEach (e :: es) X.env = (false, eval e X.env) :: starEach es X.env := by rfl) (hplain : (backTo cpos (starEach es X.env)).any (·.1) = false := by rfl) :
    PE X (.Call (.Attribute o name apos) (e :: es) [] cpos) (tBM X.K T r to t) := by
  intro pins s σ H Q I h
  refine wpAny_Call_method_late hbase hfew hline rfl (thn (ho pins s σ H _ I h) fun v s1 ⟨x, H1, I1, r1, ty, q1⟩ => ?_)
  obtain ⟨h1, h2⟩ := tyV_is I1 r1 ty
  refine ⟨T, id, pa, slot, hty, h1, h2, ?_⟩
  have hA := ha cpos pins s1 σ H1 _ I1 q1
  rw [hs] at hA ⊢
  refine Calls.callWith_builtin (by show (false || (backTo cpos (starEach es X.env)).any (·.1)) = false; rw [hplain] <;> rfl) (Calls.evalArgs_plain ?_)
  exact thn hA fun us s2 ⟨vs, H2, I2, r2, q2⟩ => hm pins s2 σ H2 x vs v us Q I2 r1 r2 q2
/- xs.append(e), list.index on a module's tuple .. are MtR facts of 06m -/
end
end L2

namespace L2
open PySem PySem.Spec PyProof.Rows

def MtM (X : Cx) (id : String) (r : V → List V → Hp → VK → Prop) : Prop :=
  ∀ (pins : List (Addr × Obj)) (s : Shared) (σ : St) (H : Hp) (x : V) (xs : List V) (v : Value) (us : List Value) (Q : VK), Inv X pins σ H s → RelV x v → Vals xs us → r x xs H Q →
    wpAny (model X.prog X.w) X.A (call (.builtin id) (v :: us)) (EP X pins σ Q) X.xe s

/-! ### lists of values -/
theorem Vals.one : ∀ {x : V} {us : List Value}, Vals [x] us → ∃ u, us = [u] ∧ RelV x u
  | _, _, .cons r .nil => ⟨_, rfl, r⟩
theorem Vals.two : ∀ {x y : V} {us : List Value}, Vals [x, y] us → ∃ u v, us = [u, v] ∧ RelV x u ∧ RelV y v
  | _, _, _, .cons r (.cons q .nil) => ⟨_, _, rfl, r, q⟩

section
variable {X : Cx} {pins : List (Addr × Obj)} {σ : St} {H : Hp} {s : Shared} {l b : Addr} {xs ys zs : List V}

/-! ### the two steps: a tracked list is rewritten, a new list is laid -/
theorem Inv.lset {its its' : List Value} {n : Nat} {f : Array Value → Array Value} {t' : Nat} (I : Inv X pins σ H s) (hH : H l = some (.lst xs))
    (e : s.heap.get? l = some { cls := .type "list", data := .seq its.toArray n }) (hf : f its.toArray = its'.toArray) (hv : Vals ys its') (hz : ys.length ≤ sizeLine) :
    Inv X pins σ (upd H l (.lst ys)) { s with heap := s.heap.update l (Obj.mapSeq f), toks := t' } := by
  have q := PySem.IsL.update e f
  rw [hf] at q
  refine I.write (x := l) (e := l) (by rw [hH]; exact trivial) (.inl rfl) (fun b' u hb hu => (Heap.get?_update_other s.heap (Obj.mapSeq f) (Ne.symm hb)).trans hu) ⟨_, q⟩ ?_
  exact ⟨hz, its', _, hv, q⟩
theorem Inv.lstM (I : Inv X pins σ H s) (hH : H l = some (.lst xs)) : xs.length ≤ sizeLine ∧ ∃ (its : List Value) (n : Nat), Vals xs its ∧ xs.length = its.length ∧ s.heap.get? l = some { cls := .type "list", data := .seq its.toArray n } := by
  obtain ⟨z, its, n, r, e⟩ := I.hok l _ hH
  exact ⟨z, its, n, r, r.length, e⟩

end

section
variable {X : Cx}

/-! ### methods -/
def rAppend : V → List V → Hp → VK → Prop := fun x vs H Q => ∃ l xs y, x = .ref l ∧ vs = [y] ∧ H l = some (.lst xs) ∧ xs.length < sizeLine ∧ Q .non (upd H l (.lst (xs ++ [y])))
theorem mt_append : MtM X "list.append" rAppend := by
  intro pins s σ H x vs v us Q I rx rv h
  obtain ⟨l, xs, y, rfl, rfl, hH, hz, q⟩ := h
  cases rx
  obtain ⟨u, rfl, ru⟩ := rv.one
  obtain ⟨z, its, n, r, hl, e⟩ := I.lstM hH
  refine call_meets F.slot_list_append ⟨_, e, rfl⟩ F.entry_list_append (F.args_list_append_2 _ _) (PySem.list_append l its.toArray n u (by rw [List.size_toArray]; omega)) ⟨e, ?_⟩
  refine ⟨.non, _, I.lset (its' := its ++ [u]) hH e (by simp) (r.append (.cons ru .nil)) ?_, rfl, q⟩
  rw [List.length_append, List.length_singleton]
  omega






/-! ### list + list, list += list, list * int -/

/-! ### del xs[i] -/
end

/-! ### xs[a:b] = ys -/
section
variable {prog : Program} {w : World} {A : Around} {E : Value → Shared → Prop} {s : Shared}
end

section
variable {X : Cx}
end
end L2

namespace Att
open PySem PySem.W PySem.Calls PyProof.Rows

/-! ### the script -/
theorem ints_of_wellAll {P : Params} {h : Heap} : ∀ (ns : List Int) (vs : List Value), WellAll P h vs (ns.map WData.int) → IntsAre vs ns := by
  intro ns
  induction ns with
  | nil =>
    intro vs w
    rw [List.map_nil] at w
    cases w
    exact .nil
  | cons n ns ih =>
    intro vs w
    rw [List.map_cons] at w
    cases w with
    | cons a b =>
      cases a
      exact .cons _ _ (ih _ b)

theorem script_of {l : OpenLaw} {n : Nat} (hn : l.most = some n) {P : Params} {h : Heap} {args : List WData} {vals : List Value}
    (hpre : l.row.toRowW.claim.pre args = true) (hwl : WellAll P h vals args) :
    ∃ a vs ns, vals = [Value.ref a] ∧ args = [WData.list (ns.map WData.int)] ∧ h.get? a = some { cls := .type "list", data := .seq vs.toArray } ∧ IntsAre vs ns ∧ ns.length ≤ n := by
  have hsh : WShape.hasAll [] args [.list .int] = true := (pre_splitW hpre).1
  have hc : l.pre.holds [] { args := args } = true := (pre_splitW hpre).2
  obtain ⟨d, r, rfl, h1, h2⟩ := hasAllW_cons hsh
  obtain rfl := hasAllW_nil h2
  obtain ⟨xs, rfl, h3⟩ := hasW_list h1
  obtain ⟨ns, rfl⟩ := items_int h3
  have hlen : ns.length ≤ n := by
    unfold OpenLaw.pre at hc
    have h4 : (WTm.not (.lt (.lit (.int (n : Int))) (.len (.arg 0)))).holds [] { args := [.list (ns.map .int)] } = true := by
      have h4 := (holds_andW hc).1
      rw [hn] at h4
      exact h4
    have h5 := condW_of h4 (w_not (w_lt w_lit (w_len_list (w_arg rfl))))
    rw [List.length_map] at h5
    refine Nat.le_of_not_lt fun q => ?_
    have q' : (n : Int) < ((ns.length : Nat) : Int) := by omega
    first
      | (rw [decide_eq_true q'] at h5; exact absurd h5 (by decide))
      | (simp at h5; omega)
  cases hwl with
  | cons w1 w2 =>
    cases w2
    cases w1 with
    | list ho hall => exact ⟨_, _, ns, rfl, rfl, ho, ints_of_wellAll ns _ hall, hlen⟩

theorem post_true (l : OpenLaw) (args : List WData) : l.row.toRowW.claim.post args (.bool true) args = true :=
  postW_of (r := l.row.toRowW) (X := (true == true))
    (show WShape.has [] (.bool true) .bool = true by first | rfl | decide | simp [WShape.has, WShape.arms, WShape.armsAll])
    (show (WTm.eq .res (.lit (.bool true))).value [] { args := args, res := some (.bool true), after := args } = some (.bool (true == true)) from w_eq_bool (w_res rfl) w_lit) rfl

/-! ### the attachment: holds_open's last premise (the goal 'hc' behind k_head) from a wpAny of the law's body -/

/-- the same from a codeAny of the CALL (for a layer whose function contracts speak of calls) -/
theorem attach_call {l : OpenLaw} {n : Nat} {q : Program} {loose : List Str} {XP : (Str → Option Value) → Heap → Prop} {YP : World → Heap → Prop} {d : DefRec}
    (hn : l.most = some n) (hdf : d.params.defaults = [])
    (call : ∀ (w : World) (s₀ s₁ : Shared) (mg mb : Str → Option Value) (fa : Addr) (o : Obj) (pm cd doc : Value) (a : Addr) (vs : List Value) (ns : List Int),
      Ground q loose [] XP w s₀ mg mb s₁.heap → YP w s₁.heap →
      s₁.heap.get? fa = some o → o.data = .func (docDef d.name d.params d.body d.scope pm cd doc) → s₁.heap.CodeRec cd d.name → mg d.name = some (.ref fa) →
      s₁.heap.get? a = some { cls := .type "list", data := .seq vs.toArray } → IntsAre vs ns → ns.length ≤ n → s₁.gens = #[] →
      codeAny (model l.prog w) callerA (.call (.ref fa) ⟨[.ref a], []⟩) (fun r s' => r = .ok (.ret (.bool true)) ∧ OldK s₁.heap s'.heap ∧ s'.os = s₁.os ∧ AllBare s'.gens) s₁) :
    WalkO q loose XP YP l.row.toRowW d [] (fun f vs => PySem.call f vs) := by
  intro w s₀ s₁ mg mb G Y fa o pm cd doc dV kV ho hd hcd hD hmg hg args vals as hpre hlay hrd hwl hlo
  obtain rfl : dV = .none := Dflts.none hD hdf
  obtain rfl : kV = .none := Dflts.noKw hD
  obtain ⟨a, vs, ns, rfl, rfl, hobj, hints, hlen⟩ := script_of hn hpre hwl
  refine enter_call (codeAny_mono (call w s₀ s₁ mg mb fa o pm cd doc a vs ns G Y ho (fd_plain hd) hcd hmg hobj hints hlen hg) fun r s' hq => ?_)
  obtain ⟨rfl, h2, h3, h4⟩ := hq
  exact ⟨.inl ⟨.bool true, .bool true, [], rfl, fun _ => rfl, .bool true, post_true l _, fun _ => ⟨List.Pairwise.nil, fun _ hm => (nomatch hm)⟩⟩, h2, h3, h4⟩


/-! ### rules over ANY heap (no ledger) from facts about the written part K: the library's own take a ledger (News) for what they write -/
section
variable {prog : Program} {w : World} {A : Around} {E : Value → Shared → Prop} {s : Shared} {K : Frag}





/-! the whole heap as the ledger: makes every rule that writes through a ledger a rule over any heap -/

end
end Att

namespace L2
open PySem PySem.Spec PyProof.Rows

theorem vals_ints : ∀ {vs : List Value} {ns : List Int}, IntsAre vs ns → Vals (ns.map V.int) vs
  | _, _, .nil => .nil
  | _, _, .cons n t h => .cons ⟨t, rfl⟩ (vals_ints h)

/-- nothing is tracked but the script, known to the object (or it is an object of the module) -/
def Only (H : Hp) : Prop := ∀ b, H b = none ∨ ∃ o xs, H b = some (.frz o (.lst xs))

/-- THE HEAD: the law's promise, at the heap behind the top. F, the promise of the law's def, may use that base is part of the heap (so K.In base, base.Ns mainGlobals mg stand in Mod) -/
theorem law_call {P : Program} {w : World} {K : PySem.W.Frag} {mg mb : Str → Option Value} {CX : CXT} {k : Nat} {fa a : Addr} {fd : FuncData} {x : Str} {sp : Sp} {s₁ : Shared} {vs : List Value} {ns : List Int}
    (KX : K.In s₁.heap) (hns : s₁.heap.Ns mainGlobals mg) (hb : s₁.heap.Ns builtinsNs mb) (hbb : ∀ x : Str, x ≠ "__name__" → mb x = bootBuiltins x) (hlim : s₁.heap.NoLimit) (hg : s₁.gens = #[])
    (ha : s₁.heap.get? a = some { cls := .type "list", data := .seq vs.toArray }) (hi : IntsAre vs ns) (hl : ns.length ≤ sizeLine) (hr : Room k callerA)
    (F : ∀ base : Heap, K.In base → base.Ns mainGlobals mg → FnOk P w K mg base CX k fa fd [x] sp) (hbind : ∀ (s : Shared) (u : Value), BindsTo s fd ⟨[u], []⟩ [(x, u)])
    (hsp : ∀ H : Hp, Only H → SqL K H a (ns.map V.int) → sp [.ref a] H (fun v _ => v = .bl true) fun _ _ _ => False)
    (hCX : ∀ H e s', CX [] H s₁ (fun _ _ _ => False) e s' → False) :
    codeAny (model P w) callerA (.call (.ref fa) ⟨[.ref a], []⟩) (fun r s' => r = .ok (.ret (.bool true)) ∧ OldK s₁.heap s'.heap ∧ s'.os = s₁.os ∧ AllBare s'.gens) s₁ := by
  have rv := vals_ints hi
  have lenV := hi.length
  -- from an abstract heap in which nothing but the script may be tracked
  have core : ∀ H : Hp, Only H → SqL K H a (ns.map V.int) → HOk P w H s₁.heap → (∀ b, H b ≠ none → b = a) → (H a ≠ none → K.lookup a = none) →
      codeAny (model P w) callerA (.call (.ref fa) ⟨[.ref a], []⟩) (fun r s' => r = .ok (.ret (.bool true)) ∧ OldK s₁.heap s'.heap ∧ s'.os = s₁.os ∧ AllBare s'.gens) s₁ := by
    intro H hO hS hok hA hK
    have base_of : ∀ {b : Addr} {o : Obj}, s₁.heap.get? b = some o → H b = none → (hidT s₁.heap H).get? b = some o := fun e n => hidT_get e n
    have noA : ∀ {b : Addr} {o : Obj} {es : Array DictEntry} {ep : Nat}, s₁.heap.get? b = some o → o.data = .dict es ep → H b = none := fun {b o es ep} e d => by
      cases q : H b with
      | none => rfl
      | some u =>
        have e' : b = a := hA b (by rw [q]; simp)
        subst e'
        rw [ha] at e; cases e
        have d' : Data.seq vs.toArray _ = Data.dict es ep := d
        cases d'
    have nsK : ∀ {b : Addr} {m : Str → Option Value}, s₁.heap.Ns b m → (hidT s₁.heap H).Ns b m := fun {b m} ⟨o, es, ep, e, d, r⟩ => ⟨o, es, ep, base_of e (noA e d), d, r⟩
    have hKb : K.In (hidT s₁.heap H) := fun b o e => base_of (KX b o e) (by
      cases q : H b with
      | none => rfl
      | some u =>
        have e' : b = a := hA b (by rw [q]; simp)
        subst e'
        rw [hK (by rw [q]; simp)] at e; cases e)
    have hM : Mod K mg (hidT s₁.heap H) := ⟨hKb, nsK hns, ⟨mb, nsK hb, hbb⟩, let ⟨mc, h1, h2⟩ := hlim; ⟨mc, nsK h1, h2⟩⟩
    have e0 : Env0 P w K mg (hidT s₁.heap H) callerA [] s₁ H := ⟨rfl, hM, fun b o e => of_hidT e, Nat.le_of_eq (hidT_size _ _), trivial, fun b hb => absurd (show b ∈ ([] : List Addr) from hb) (by simp), hok, .of_eq hg⟩
    refine codeAny_mono ((F _ hKb (nsK hns)).run callerA [] s₁ H ⟨[.ref a], []⟩ [.ref a] [.ref a] _ _ hr e0 (hbind s₁ (.ref a)) (.cons rfl .nil) (hsp H hO hS)) fun r s' h => ?_
    cases r with
    | error e => exact (hCX H e s' h).elim
    | ok fl =>
      cases fl with
      | next => exact False.elim h
      | brk => exact False.elim h
      | cont => exact False.elim h
      | ret u =>
        obtain ⟨v, H', os, bare, un, hok', r', q⟩ := h
        have q' : v = .bl true := q
        subst q'
        obtain rfl : u = Value.bool true := r'
        refine ⟨rfl, OldK.of_keep fun b o e => ?_, os, bare⟩
        cases q : H b with
        | none => exact un.keep b o e q (by intro z; exact absurd (show b ∈ ([] : List Addr) from z) (by simp)) (by simp)
        | some u =>
          rcases hO b with z | ⟨ob, xs, z⟩
          · rw [q] at z; cases z
          · have z2 := un.frzs b ob _ z
            obtain ⟨e1, _⟩ := hok b _ z
            obtain ⟨e2, _⟩ := hok' b _ z2
            rw [e] at e1; cases e1
            exact e2
  cases hk : K.lookup a with
  | some o =>
    -- the script is one of the module's own objects
    have e := KX a o hk
    rw [ha] at e
    cases e
    refine core (fun _ => none) (fun _ => .inl rfl) (.inr ⟨_, vs.toArray, _, hk, rfl, rfl, rfl, by rw [List.size_toArray, lenV]; exact hl, by simpa using rv⟩) (fun b u z => by have z' : (none : Option HO) = some u := z; cases z') (fun b z => absurd rfl z) fun z => absurd rfl z
  | none =>
    refine core (fun b => if b = a then some (.frz { cls := .type "list", data := .seq vs.toArray } (.lst (ns.map V.int))) else none) (fun b => ?_) (.inl (.inr ⟨{ cls := .type "list", data := .seq vs.toArray }, if_pos rfl⟩)) (fun b u z => ?_) (fun b z => ?_) fun _ => hk
    · by_cases hb : b = a
      · exact .inr ⟨_, _, if_pos hb⟩
      · exact .inl (if_neg hb)
    · by_cases hb : b = a
      · have z' := (if_pos hb).symm.trans z
        cases z'
        subst hb
        exact ⟨ha, by rw [List.length_map]; exact hl, vs, _, rv, ha⟩
      · have z' := (if_neg hb).symm.trans z
        cases z'
    · by_cases hb : b = a
      · exact hb
      · exact absurd (if_neg hb) z
end L2

namespace L2
open PySem PySem.Spec PyProof.Rows


/-- the goal that k_head leaves (case hc), from the law's promise. F gives the function object fd (K's own) once, then the promise over every base -/
theorem walk_of {l : PySem.W.OpenLaw} {n k : Nat} {q : Program} {loose : List Str} {XP : (Str → Option Value) → Heap → Prop} {YP : World → Heap → Prop} {d : DefRec} {K : Params → PySem.W.Frag} {CX : World → CXT} {sp : World → Sp} {x : Str}
    (hn : l.most = some n) (hn2 : n ≤ sizeLine) (hdf : d.params.defaults = []) (hr : Room k callerA)
    (hY : ∀ (w : World) (h : Heap), YP w h → (K w.params).In h)
    (F : ∀ (w : World) (mg : Str → Option Value) (fa : Addr) (h : Heap), (K w.params).In h → h.Ns mainGlobals mg → mg d.name = some (.ref fa) →
      ∃ fd : FuncData, (∀ (s : Shared) (u : Value), BindsTo s fd ⟨[u], []⟩ [(x, u)]) ∧
        ∀ base : Heap, (K w.params).In base → base.Ns mainGlobals mg → FnOk l.prog w (K w.params) mg base (CX w) k fa fd [x] (sp w))
    (hsp : ∀ (w : World) (H : Hp) (a : Addr) (ns : List Int), ns.length ≤ n → Only H → SqL (K w.params) H a (ns.map V.int) → sp w [.ref a] H (fun v _ => v = .bl true) fun _ _ _ => False)
    (hCX : ∀ (w : World) (H : Hp) (s : Shared) (e : Value) (s' : Shared), CX w [] H s (fun _ _ _ => False) e s' → False) :
    PySem.W.WalkO q loose XP YP l.row.toRowW d [] (fun f vs => PySem.call f vs) := by
  refine Att.attach_call hn hdf fun w s₀ s₁ mg mb fa o pm cd doc a vs ns G Y ho hd hcd hmg hobj hints hlen hg => ?_
  have KX := hY w _ Y
  obtain ⟨fd, hb, hF⟩ := F w mg fa _ KX G.T.g hmg
  exact law_call KX G.T.g G.T.b G.T.builtins G.T.nolimit hg hobj hints (Nat.le_trans hlen hn2) hr hF hb (fun H hO hS => hsp w H a ns hlen hO hS) fun H e s' => hCX w H s₁ e s'
end L2

/- THE LAST THEOREM (shape; LID, My.* are yours):
   My.Adr: a structure of the addresses that your layer names (classes, functions); My.Txt K t: a structure (Prop) of the equations over K;
   My.txt_mk : {K} {implicit addresses ..} (e1 : nsIn K mainGlobals "law" = some (some (.ref f))) (e2 : K.lookup f = some ⟨oc, od, .func (fnOf "law" "law" params body scope dV kV doc pm an cdv ct), sl⟩) (e3 : codeIn K cdv "law" = true) .. : ∃ t, My.Txt K t

set_option maxRecDepth 100000 in
set_option maxHeartbeats 0 in
theorem PySem.Challenge.cw_LID_holds : PySem.Challenge.rw_LID.Holds := by
  w_on; o_law; k_head; (case hw => w_witness2)
  k_fill
  refine L2.walk_of (l := PySem.Challenge.rw_LID) (n := 63) (k := 40) (x := "script") (CX := fun w => ..) (sp := fun _ => My.sp_law) rfl (by decide) rfl ⟨rfl, by decide, by decide⟩ (fun w h Y => PySem.W.kIn_of Y) ?F ?S ?C
  case F =>
    intro w mg fa h KX G hmg
    have T : ∃ t, My.Txt (L2.KOf KX) t := by
      dsimp only [L2.KOf]                          -- K must stand as «<heap const> w.params» for k_is
      refine' My.txt_mk ?e1 ?e2 ?e3 ..
      (case e1 => PySem.W.k_is)                    -- in the order: a name -> its address -> its object -> its parts
      (case e2 => PySem.W.k_is)
      ..
    obtain ⟨t, T⟩ := T
    have e0 := hmg.symm.trans (PySem.W.mg_of KX G T.law)
    cases e0                                       -- fa is the law's own address
    exact ⟨_, fun s u => .of_eq rfl, fun base kb nb => My.law_fn T kb nb⟩     -- if «.of_eq rfl» comes too early: refine' ⟨_, ?b, fun base kb nb => My.law_fn T kb nb⟩; exact fun s u => .of_eq rfl
  case S => exact fun w H a ns hl hO hS => ..
  case C => exact ..
(the tactic k_is has no namespace: write k_is) -/

/-! SHORT WORDS over the layer: a def of the text, its body, what a loop and a test want. -/
namespace L2
open PySem PySem.Spec PyProof.Rows

/-! ### the text by places -/
/-- the j-th statement of a class's body -/
def inClass (s : Stmt) (j : Nat) : Stmt := match s with
  | .ClassDef _ _ _ body _ _ _ _ _ _ _ => body.getD j (.Pass ⟨0, 0, 0, 0⟩)
  | _ => .Pass ⟨0, 0, 0, 0⟩
def defArgs (s : Stmt) : Arguments := match s with
  | .FunctionDef _ a _ _ _ _ _ _ _ _ => a
  | _ => { posonlyargs := [], args := [], vararg := none, kwonlyargs := [], kw_defaults := [], kwarg := none, defaults := [] }
def defBody (s : Stmt) : List Stmt := match s with
  | .FunctionDef _ _ b _ _ _ _ _ _ _ => b
  | _ => []
def defScope (s : Stmt) : Scope := match s with
  | .FunctionDef _ _ _ _ _ _ sc _ _ _ => sc
  | _ => { kind := .function, names := [], isGenerator := false, isCoroutine := false }

/-! ### no exception leaves a def -/
abbrev CX0 : CXT := fun _ _ _ _ _ _ => False
abbrev E0 : XK := fun _ _ _ => False
theorem pass0 {X : Cx} : Passes CX0 X E0 := fun _ _ _ _ _ _ _ h => h.elim

/-! ### a def (or method) of the text as it stands behind the top -/
structure Fun (K : PySem.W.Frag) (x qual : Str) (st : Stmt) (f : Addr) (fd : FuncData) : Prop where
  ex : ∃ (oc : Value) (od : Option Addr) (kV doc pm : Value) (an : Option Addr) (cdv ct : Value) (osl : Array (Option Value)),
    fd = PySem.W.fnOf x qual (defArgs st) (defBody st) (defScope st) .none kV doc pm an cdv ct ∧ K.lookup f = some ⟨oc, od, .func fd, osl⟩ ∧ PySem.W.codeIn K cdv qual = true
  kp : PySem.W.keepIn K (.ref f) = true
section
variable {P : Program} {w : World} {K : PySem.W.Frag} {mg : Str → Option Value} {base : Heap}
/-- THE RULE for a def: its body as a term of rules, and the reading of that term -/
theorem Fun.ok {x qual : Str} {st : Stmt} {f : Addr} {fd : FuncData} {N ps : List Str} {k : Nat} {sp : Sp} (F : Fun K x qual st f fd) (S : FnScope N ps (defScope st)) (len : ∀ vs H Q E, sp vs H Q E → vs.length = ps.length)
    (hbody : ∀ (cdv : Value) (A : Around) (outer : List Env) (s : Shared) (H : Hp) (vs : List V) (Q : VK) (E : XK), Room k (A.deeper (envOfC qual (defScope st) s.heap.objs.size f cdv)) → sp vs H Q E →
      ∃ t, PSs (cxOf CX0 P w K mg base N qual (defScope st) f cdv A outer s H E).nox (defBody st) t ∧ t { nx := fun _ H' => Q .non H', rt := Q } (start N vs) H) : FnOk P w K mg base CX0 (k + 1) f fd ps sp := by
  obtain ⟨oc, od, kV, doc, pm, an, cdv, ct, osl, rfl, lk, hcd⟩ := F.ex
  refine fn_of lk hcd S len fun A outer s H vs Q E hr hsp => ?_
  obtain ⟨t, h, q⟩ := hbody cdv A outer s H vs Q E hr hsp
  exact ⟨t, h.nox, q⟩
/-- how its arguments bind (no defaults): h is «fun _ _ _ _ _ _ us hl => match us, hl with | [_, _], _ => rfl», one _ a parameter -/
theorem Fun.binds {x qual : Str} {st : Stmt} {f : Addr} {fd : FuncData} {ps : List Str} (F : Fun K x qual st f fd)
    (h : ∀ (kV doc pm : Value) (an : Option Addr) (cdv ct : Value) (us : List Value), us.length = ps.length → bindArgs (PySem.W.fnOf x qual (defArgs st) (defBody st) (defScope st) .none kV doc pm an cdv ct) ⟨us, []⟩ = pure (ps.zip us)) : Binds K fd ps [] := by
  obtain ⟨oc, od, kV, doc, pm, an, cdv, ct, osl, rfl, lk, hcd⟩ := F.ex
  exact .all (h kV doc pm an cdv ct)
theorem fun_mk {x qual : Str} {st : Stmt} {f : Addr} {oc : Value} {od an : Option Addr} {osl : Array (Option Value)} {kV doc pm cdv ct : Value} (l : K.lookup f = some ⟨oc, od, .func (PySem.W.fnOf x qual (defArgs st) (defBody st) (defScope st) .none kV doc pm an cdv ct), osl⟩)
    (c : PySem.W.codeIn K cdv qual = true) (k : PySem.W.keepIn K (.ref f) = true) : Fun K x qual st f (PySem.W.fnOf x qual (defArgs st) (defBody st) (defScope st) .none kV doc pm an cdv ct) := ⟨⟨oc, od, kV, doc, pm, an, cdv, ct, osl, rfl, l, c⟩, k⟩
end
theorem hu_of {A : Around} {k : Nat} (hr : Room k A) : A.units + 1 < cLine := Nat.lt_of_le_of_lt (Nat.add_le_add_left (by decide : 1 ≤ 64) _) hr.units
theorem small1000 {n : Nat} (h : n ≤ 1000) : n < sizeLine := Nat.lt_of_le_of_lt h (by decide)

/-! ### expressions in short: the name that stands in the i-th slot -/
section
variable {X : Cx}
theorem pv (i : Nat) {x : Str} {pos : Pos} (hN : X.N[i]? = some x := by rfl) (hv : Vis X.env.scope x := by first | exact Or.inl rfl | exact Or.inr (Or.inl rfl) | exact Or.inr (Or.inr rfl)) (hd : (x == ("__debug__" : Str)) = false := by decide)
    (hcd : (x == ("__classdict__" : Str)) = false := by decide) : PE X (.Name x pos) (tVar i) := pe_var hN hv hd hcd
end

/-! ### tests -/
theorem iteF {A B : Prop} (h : B) : if false = true then A else B := by
  rw [if_neg Bool.false_ne_true]
  exact h
theorem iteT {A B : Prop} (h : A) : if true = true then A else B := by
  rw [if_pos rfl]
  exact h
theorem ite2 {c A B : Prop} [Decidable c] (h1 : c → A) (h2 : ¬ c → B) : if c then A else B := by
  by_cases h : c
  · rw [if_pos h]
    exact h1 h
  · rw [if_neg h]
    exact h2 h
theorem iteNS {c A B : Prop} [Decidable c] (hc : c) (h : B) : if (!decide c) = true then A else B := by
  rw [decide_eq_true hc]
  exact iteF h

/-! ### heaps -/
/-- all that was tracked is as it was -/
def Same (H H' : Hp) : Prop := ∀ b o, H b = some o → H' b = some o
theorem Same.trans {H H1 H2 : Hp} (a : Same H H1) (b : Same H1 H2) : Same H H2 := fun c o h => b c o (a c o h)
theorem Same.seq {K : PySem.W.Frag} {H H' : Hp} {a : Addr} {xs : List V} (e : Same H H') (h : SqL K H a xs) : SqL K H' a xs := by
  rcases h with (h | ⟨o, h⟩) | h
  · exact .inl (.inl (e _ _ h))
  · exact .inl (.inr ⟨o, e _ _ h⟩)
  · exact .inr h

end L2

set_option maxRecDepth 100000
set_option maxHeartbeats 4000000
namespace L2
open PySem PySem.Spec PyProof.Rows
end L2
namespace L2
open PySem PySem.Spec PyProof.Rows
section
variable (P : Program) (w : World)
end
section
variable {P : Program} {w : World} {H H' : Hp} {h h' : Heap} {a : Addr} {o : HO}
end
section
variable {P : Program} {w : World} {H : Hp} {h h' : Heap} {x e : Addr} {o' : HO}
end
section
variable {fs fs' ex ex' : List Addr} {H H1 H2 : Hp} {h h1 h2 h' : Heap} {a x e : Addr} {o : HO}
end
end L2
namespace L2
open PySem PySem.Spec PyProof.Rows
section
variable {X : Cx} {pins : List (Addr × Obj)} {σ : List (Option V)} {H H' : Hp} {s : Shared} {h' : Heap}
end
end L2
namespace L2
open PySem PySem.Spec PyProof.Rows
section
variable {X : Cx}
variable {a b : Expr} {ta tb : TE} {pos : Pos}
variable {tA tB' : TT} {rest : List Expr}
end
end L2
namespace L2
open PySem PySem.Spec PyProof.Rows
section
variable {X : Cx} {pins : List (Addr × Obj)} {σ : St} {H : Hp} {s : Shared} {a : Addr} {xs ys : List V}
end
section
variable {X : Cx} {pins : List (Addr × Obj)} {σ : St} {H : Hp} {s : Shared} {E : Value → Shared → Prop}
end
section
variable {X : Cx} {st : Stmt} {rest : List Stmt} {t u : TS} {e : Expr} {te : TE} {pos : Pos}
end
section
variable {X : Cx} {pos : Pos}
end
section
variable {X : Cx} {pos : Pos}
end
end L2
namespace L2
open PySem PySem.Spec PyProof.Rows
section
variable {X : Cx} {tg : Expr}
end
end L2
namespace L2
open PySem PySem.Spec PyProof.Rows
section
variable {X : Cx} {a b c : Expr} {ta tb tc : TE} {pos : Pos}
end
section
variable {X : Cx} {a b c : Expr} {ta tb tc : TE} {pos : Pos}
end
end L2
namespace L2
open PySem PySem.Spec PyProof.Rows
section
variable {prog : Program} {w : World} {A : Around} {E : Value → Shared → Prop} {s : Shared} {K : PySem.W.Frag} {x dx C f : Addr} {mA : Str → Option Value} {name : Str} {v : Value}
end
section
variable {P : Program} {w : World} {H H' : Hp} {h h' : Heap} {a C dx : Addr} {fs fs' : List (Str × V)}
end
section
variable {X : Cx} {pins : List (Addr × Obj)} {σ : St} {H : Hp} {s : Shared} {a C dx : Addr} {fs : List (Str × V)} {f : Str} {v : V} {A : Around} {E : Value → Shared → Prop}
end
section
variable {X : Cx} {o e value : Expr} {f : Str} {pos pos' tpos : Pos} {ta tv : TE}
end
section
variable {X : Cx} {pins : List (Addr × Obj)} {σ : St} {H : Hp} {s : Shared} {A : Around} {E : Value → Shared → Prop} {Q : Value → Shared → Prop} {c : Value} {b : Bool}
end
end L2
namespace L2
open PySem PySem.Spec PyProof.Rows
section
variable {X : Cx} {e : Expr} {es : List Expr} {te : TE} {t : TA} {pos : Pos}
end
section
variable {X : Cx} {pins : List (Addr × Obj)} {σ : St} {H : Hp} {s s' : Shared}
end
section
variable {X : Cx} {CX : CXT} {k : Nat} {f C : Addr} {fd : FuncData} {ps : List Str} {sp : Sp} {dvs : List V} {ds : List Value} {E : XK} {x m : Str} {p pos apos : Pos} {e o : Expr} {es : List Expr} {ta : TE} {t : TA}
end
section
variable {X : Cx} {CX : CXT} {k : Nat} {f C : Addr} {fd : FuncData} {ps ks : List Str} {sp : Sp} {E : XK} {x m : Str} {p pos apos kpos : Pos} {e o : Expr} {es : List Expr} {kws : List Keyword} {te ta : TE} {t tk : TA} {nm : Option Str}
variable {g : List Value → List Value → List Value} {gV : List V → List V → List V}
end
end L2
namespace L2
open PySem PySem.Spec PyProof.Rows
section
variable {X : Cx} {x : Str} {p pos : Pos} {e : Expr} {es : List Expr} {t : TA} {id T : String} {r : List V → Hp → VK → Prop}
end
end L2
namespace L2
open PySem PySem.Spec PyProof.Rows
section
variable {κ : Type} [DecidableEq κ]
end
section
variable {P : Program} {w : World} {H : Hp} {h : Heap} {a : Addr}
end
section
variable {X : Cx} {pins : List (Addr × Obj)} {σ : St} {H : Hp} {s : Shared} {a : Addr} {y v : V} {u r : Value} {o : Option V} {A : Around} {E : Value → Shared → Prop}
end
section
variable {X : Cx} {pins : List (Addr × Obj)} {σ : St} {H : Hp} {s : Shared} {a : Addr} {kvs : List (Key × V)} {k : Key} {u : Value} {A : Around} {E : Value → Shared → Prop}
end
section
variable {X : Cx} {o i e value : Expr} {pos pos' tpos : Pos} {td ty tv : TE}
end
section
variable {X : Cx} {pos : Pos}
end
section
variable {X : Cx} {pins : List (Addr × Obj)} {σ : St} {H : Hp} {s : Shared} {a : Addr} {y d : V} {u r : Value} {o : Option V} {A : Around} {E : Value → Shared → Prop}
end
section
variable {X : Cx} {o e f : Expr} {apos cpos : Pos} {td ty tx : TE}
end
section
variable {X : Cx} {pins : List (Addr × Obj)} {σ : St} {H : Hp} {s : Shared} {a : Addr} {kvs : List (Key × V)} {A : Around} {E : Value → Shared → Prop}
end
section
variable {X : Cx} {pins : List (Addr × Obj)} {σ : St} {H : Hp} {s : Shared} {a : Addr} {y : V} {u : Value} {A : Around} {E : Value → Shared → Prop}
end
end L2
namespace Att
open PySem PySem.W PySem.Calls PyProof.Rows
section
variable {prog : Program} {w : World} {A : Around} {E : Value → Shared → Prop} {s : Shared} {K : Frag}
end
end Att
namespace L2
open PySem PySem.Spec PyProof.Rows
end L2
namespace L2
open PySem PySem.Spec PyProof.Rows
end L2
namespace L2
open PySem PySem.Spec PyProof.Rows
section
variable {P : Program} {w : World} {K : PySem.W.Frag} {mg : Str → Option Value} {base : Heap}
end
section
variable {X : Cx}
end
section
variable {κ : Type} [DecidableEq κ]
end
end L2

namespace L2
open PySem PySem.Spec PyProof.Rows
/-! ### a list comprehension of one clause without a test -/
/-- the cells that the block is handed -/
def clOf (env : Env) (fr : List (Str × Nat)) : List (Str × Addr) := fr.map fun p => (p.1, (env.cells.lookup p.1).getD 0)
/-- what the names from outside are worth -/
def frOf (fr : List (Str × Nat)) (σ : St) : St := fr.map fun p => (σ[p.2]?).join
/-- the context of the block -/
def cxComp (X : Cx) (scope : Scope) (fr : List (Str × Nat)) (x : Str) (C : Addr) (ex : List Addr) (s : Shared) (H : Hp) : Cx where
  prog := X.prog
  w := X.w
  K := X.K
  mg := X.mg
  base := X.base
  A := X.A
  N := x :: fr.map (·.1)
  s₀ := s
  H₀ := H
  env := compEnvC scope (clOf X.env fr) C X.env
  outer := X.stack
  stack := X.stack
  ex := ex
  fn := fun _ => false
  calm := X.calm
  pn := []
  xe := fun _ _ => False
/-- what the text must show of the block's names -/
structure CompOk (X : Cx) (scope : Scope) (fr : List (Str × Nat)) (x : Str) : Prop where
  clos : closureFor scope X.env = pure (clOf X.env fr)
  cell : ∀ y ∈ scope.names, y.2 ≠ .cell
  kind : scope.kind = .function
  names : ∀ y ∈ scope.names, y.2 = .local → scope.names.lookup y.1 = some .local
  xl : scope.names.lookup x = some .local
  nd : (x :: fr.map (·.1)).Nodup
  slot : ∀ p ∈ fr, X.N[p.2]? = some p.1 ∧ X.env.kindOf p.1 = some .cell
  has : ∀ y ∈ (relabel scope X.env).names, (y.2 = .cell ∨ y.2 = .free) → y.1 ∈ fr.map (·.1)
  frk : ∀ p ∈ fr, (relabel scope X.env).names.lookup p.1 = some .cell
theorem CompOk.plain {X : Cx} {scope : Scope} {x : Str} (clos : closureFor scope X.env = pure []) (cell : ∀ y ∈ scope.names, y.2 ≠ .cell) (kind : scope.kind = .function) (names : ∀ y ∈ scope.names, y.2 = .local → scope.names.lookup y.1 = some .local)
    (hx : scope.names.lookup x = some .local) (nf : ∀ y ∈ scope.names, y.2 ≠ .free) : CompOk X scope [] x where
  clos := clos
  cell := cell
  kind := kind
  names := names
  xl := hx
  nd := by simp
  slot := fun p hp => nomatch hp
  has := fun y hy hk => by
    obtain ⟨⟨n, k⟩, hz, e⟩ := List.mem_map.mp (show y ∈ scope.names.map _ from hy)
    have h1 := nf _ hz
    have h2 := cell _ hz
    dsimp only at e h1 h2
    have hf : (k == NameKind.free) = false := by simpa using h1
    rw [hf] at e
    simp only [Bool.false_and, Bool.false_eq_true, if_false] at e
    subst e
    exact (hk.elim h2 h1).elim
  frk := fun p hp => nomatch hp
theorem lookup_map_fst {env : Env} : ∀ {fr : List (Str × Nat)} {y : Str} {c : Addr}, (clOf env fr).lookup y = some c → y ∈ fr.map (·.1) ∧ c = (env.cells.lookup y).getD 0
  | [], _, _, h => by cases h
  | p :: r, y, c, h => by
    unfold clOf at h
    rw [List.map_cons, List.lookup_cons] at h
    cases e : y == p.1 with
    | true =>
      rw [e] at h
      have ey : y = p.1 := eq_of_beq e
      cases h
      exact ⟨by rw [ey]; exact List.mem_cons_self, by rw [ey]⟩
    | false =>
      rw [e] at h
      obtain ⟨a, b⟩ := lookup_map_fst (env := env) (fr := r) h
      exact ⟨List.mem_cons_of_mem _ a, b⟩
theorem lookup_map_some {env : Env} : ∀ {fr : List (Str × Nat)} {y : Str}, y ∈ fr.map (·.1) → (clOf env fr).lookup y = some ((env.cells.lookup y).getD 0)
  | [], _, h => by cases h
  | p :: r, y, h => by
    unfold clOf
    rw [List.map_cons, List.lookup_cons]
    cases e : y == p.1 with
    | true =>
      have ey : y = p.1 := eq_of_beq e
      rw [ey]
    | false =>
      have ny : y ≠ p.1 := fun z => by rw [z] at e; simp at e
      rcases List.mem_cons.mp h with z | z
      · exact absurd z ny
      · exact lookup_map_some (env := env) (fr := r) z
section
variable {X : Cx} {pins : List (Addr × Obj)} {σ : St} {H : Hp} {s : Shared} {scope : Scope} {fr : List (Str × Nat)} {x : Str}
/-- a cell of the block is a cell of the body around -/
theorem CompOk.cells (O : CompOk X scope fr x) (I : Inv X pins σ H s) {y : Str} {c : Addr} (h : (clOf X.env fr).lookup y = some c) : X.env.cells.lookup y = some c := by
  obtain ⟨hm, e⟩ := lookup_map_fst h
  obtain ⟨p, hp, ep⟩ := List.mem_map.mp hm
  have k := (O.slot p hp).2
  rw [ep] at k
  obtain ⟨c', e'⟩ := I.ok.has y (.inl k)
  rw [e'] at e
  rw [e', e]
  rfl
/-- the state at the block's head -/
theorem inv_comp {fp : List Addr} (O : CompOk X scope fr x) (I : Inv X pins σ H s) (hf : ∀ b ∈ fp, FpOk X pins H b) (hfs : ∀ b ∈ fp, b < s.heap.objs.size) {g h' : Heap} {tk : Nat} (hg : g = s.heap.push (LCg.lst []))
    (hk : ∀ b o, g.get? b = some o → h'.get? b = some o) (hC : h'.Ns g.objs.size fun _ => none) :
    Inv (cxComp X scope fr x g.objs.size (s.heap.objs.size :: fp) { s with heap := g } H) (X.pn ++ pins ++ [(s.heap.objs.size, LCg.lst [])]) (none :: frOf fr σ) H { s with heap := h', toks := tk } := by
  have hsz : g.objs.size = s.heap.objs.size + 1 := by rw [hg, Heap.size_push]
  have kp : ∀ b o, s.heap.get? b = some o → g.get? b = some o := fun b o e => by rw [hg]; exact Heap.get?_push_of_some _ e
  have hk0 : ∀ b o, s.heap.get? b = some o → h'.get? b = some o := fun b o e => hk b o (kp b o e)
  have hDo : h'.get? s.heap.objs.size = some (LCg.lst []) := hk _ _ (by rw [hg]; exact Heap.get?_push_size _ rfl)
  have neC : ∀ b, b < s.heap.objs.size → b ≠ g.objs.size := fun b e => by rw [hsz]; exact Nat.ne_of_lt (Nat.lt_succ_of_lt e)
  have hDC : s.heap.objs.size ≠ g.objs.size := by rw [hsz]; exact Nat.ne_of_lt (Nat.lt_succ_self _)
  have hfr : H g.objs.size = none := I.hok.fresh (by rw [hsz]; exact Nat.le_succ _)
  have hfD : H s.heap.objs.size = none := I.hok.fresh (Nat.le_refl _)
  have cne : ∀ y c, X.env.cells.lookup y = some c → c < s.heap.objs.size := fun y c e => by
    obtain ⟨v, q⟩ := I.cell y c e
    exact q.lt
  have nst : ∀ b, b ≠ X.env.locals → b ∉ X.fs → b ∉ frs X.stack := fun b h1 h2 z => (List.mem_cons.mp (I.stkSub b z)).elim h1 h2
  have nstD : s.heap.objs.size ∉ frs X.stack := nst _ (Nat.ne_of_gt I.lt) (I.nofs (Nat.le_refl _))
  refine ⟨⟨I.ok.mod, O.kind, I.ok.glob, I.ok.blt, Nat.le_refl _, ?_, ?_, fun _ _ z _ => (by cases z), I.ok.hd, I.ok.frames, .inl rfl, ?_, ?_, ?_, ?_, ?_, ?_, I.stkFree⟩, rfl, I.bare, Un.kept hk, ?_, ?_, hfr, ?_, ?_, I.hok.kept hk0, ?_⟩
  · intro y z c h1 h2
    exact I.ok.inj y z c (O.cells I h1) (O.cells I h2)
  · intro y hy
    have hm : y ∈ fr.map (·.1) := by
      rcases hy with hy | hy
      · exact O.has (y, _) (PySem.mem_of_lookup hy) (.inl rfl)
      · exact O.has (y, _) (PySem.mem_of_lookup hy) (.inr rfl)
    exact ⟨_, lookup_map_some hm⟩
  · intro b hb
    rcases List.mem_cons.mp hb with rfl | hb
    · exact ⟨hDC, fun y c e => Nat.ne_of_lt (cne y c (O.cells I e))⟩
    · exact ⟨neC b (hfs b hb), fun y c e => (hf b hb).2.2.2.2.1 y c (O.cells I e)⟩
  · intro b o e
    exact ⟨kp b o (I.bs b o e).1, (I.bs b o e).2⟩
  · show X.base.objs.size ≤ g.objs.size
    rw [hsz]
    exact Nat.le_succ_of_le (Nat.le_trans I.ok.bsz I.sz)
  · intro b o e hb
    rcases List.mem_cons.mp hb with z | hb
    · have := Heap.lt_size (I.bs b o e).1
      rw [z] at this
      exact Nat.lt_irrefl _ this
    · rcases (hf b hb).2.2.2.1 with z | z
      · exact I.ok.noex b o e z
      · exact absurd (Nat.lt_of_lt_of_le (Heap.lt_size (I.ok.bs b o e).1) z) (Nat.lt_irrefl _)
  · intro b hb
    rcases List.mem_cons.mp hb with z | hb
    · rw [z]; exact nstD
    · exact nst b (hf b hb).2.1 (hf b hb).2.2.1
  · exact (I.kept (h' := g) (t' := s.toks) kp).stack
  · refine ⟨_, hC, fun i y v e1 e2 e3 => ?_⟩
    cases i with
    | zero => cases e2
    | succ k =>
      have e1' : (fr.map (·.1))[k]? = some y := e1
      have e2' : (frOf fr σ)[k]? = some (some v) := e2
      unfold frOf at e2'
      rw [List.getElem?_map] at e1' e2'
      cases q : fr[k]? with
      | none => rw [q] at e1'; cases e1'
      | some p =>
        rw [q] at e1' e2'
        have ey : p.1 = y := Option.some.inj e1'
        have ev : (σ[p.2]?).join = some v := Option.some.inj e2'
        have hp : p ∈ fr := List.mem_of_getElem? q
        obtain ⟨hN, hK⟩ := O.slot p hp
        have hkk := O.frk p hp
        rw [ey] at hN hK hkk
        have ev' : σ[p.2]? = some (some v) := by
          cases q2 : σ[p.2]? with
          | none => rw [q2] at ev; cases ev
          | some w => rw [q2] at ev; exact congrArg some ev
        obtain ⟨m, hn, hl⟩ := I.loc
        obtain ⟨u, r, l⟩ := hl p.2 y v hN ev' (.inr (.inl hK))
        refine ⟨u, r, ?_⟩
        rcases l with ⟨k1, _⟩ | ⟨_, c, ec, z⟩
        · rw [hK] at k1; cases k1
        · have hm : y ∈ fr.map (·.1) := by rw [← ey]; exact List.mem_map.mpr ⟨p, hp, rfl⟩
          have el := lookup_map_some (env := X.env) hm
          rw [ec] at el
          exact .inr ⟨.inl hkk, c, el, by obtain ⟨o, ho, hd⟩ := z; exact ⟨o, hk0 _ _ ho, hd⟩⟩
  · intro y c e
    obtain ⟨v, o, ho, hd⟩ := I.cell y c (O.cells I e)
    exact ⟨v, o, hk0 _ _ ho, hd⟩
  · intro y c e
    exact I.freeC y c (O.cells I e)
  · intro p hp
    rcases List.mem_append.mp hp with hp | hp
    · cases hp
    · rcases List.mem_append.mp hp with hp | hp
      · obtain ⟨e, n, ne, nf, d⟩ := I.pin p hp
        exact ⟨hk0 _ _ e, n, neC _ (Heap.lt_size e), nst _ ne nf, d⟩
      · have ep : p = (s.heap.objs.size, LCg.lst []) := by simpa using hp
        subst ep
        exact ⟨hDo, hfD, hDC, nstD, fun v z => by cases z⟩
  · show (none :: frOf fr σ).length = (x :: fr.map (·.1)).length
    unfold frOf
    simp
/-- from the block's end back to the body around: the list is tracked, the block's names at C may still change -/
theorem inv_comp_end {fp : List Addr} {g : Heap} {s' : Shared} {H' : Hp} {σ' : St} {ys : List V} {us : List Value} (I : Inv X pins σ H s) (hf : ∀ b ∈ fp, FpOk X pins H b) (hg : g = s.heap.push (LCg.lst []))
    (J : Inv (cxComp X scope fr x g.objs.size (s.heap.objs.size :: fp) { s with heap := g } H) (X.pn ++ pins ++ [(s.heap.objs.size, LCg.lst us)]) σ' H' s') (hv : Vals ys us) (hl : ys.length ≤ sizeLine) :
    Inv X pins σ (upd H' s.heap.objs.size (.lst ys)) s' ∧ H' s.heap.objs.size = none ∧ FpOk X pins (upd H' s.heap.objs.size (.lst ys)) g.objs.size ∧ ∃ m, s'.heap.Ns g.objs.size m := by
  have hsz : g.objs.size = s.heap.objs.size + 1 := by rw [hg, Heap.size_push]
  have kp : ∀ b o, s.heap.get? b = some o → g.get? b = some o := fun b o e => by rw [hg]; exact Heap.get?_push_of_some _ e
  obtain ⟨eD, nD, _, _, _⟩ := J.pin (s.heap.objs.size, LCg.lst us) (by simp)
  have hDC : g.objs.size ≠ s.heap.objs.size := by rw [hsz]; exact Nat.ne_of_gt (Nat.lt_succ_self _)
  have nD' : ∀ b u, H' b = some u → b ≠ s.heap.objs.size := fun b u e z => by rw [z] at e; rw [e] at nD; cases nD
  have hx : ∀ b o, s.heap.get? b = some o → b ∉ fp → b ∉ s.heap.objs.size :: fp := fun b o e hb z => by
    rcases List.mem_cons.mp z with z | z
    · have := Heap.lt_size e
      rw [z] at this
      exact Nat.lt_irrefl _ this
    · exact hb z
  have bU : Un (frs X.stack) (s.heap.objs.size :: fp) H H' g s'.heap := J.base
  have ltD : ∀ b o, s.heap.get? b = some o → b ≠ s.heap.objs.size := fun b o e => Nat.ne_of_lt (Heap.lt_size e)
  have un : Un (frs X.stack) fp H (upd H' s.heap.objs.size (.lst ys)) s.heap s'.heap := by
    refine ⟨fun b o e n hb he => bU.keep b o (kp b o e) n hb (hx b o e he), fun b o e n hb he => bU.slot b o (kp b o e) n hb (hx b o e he), fun b o e n he => ?_, fun b o e he => bU.there b o (kp b o e) (hx b o e he), fun b xs e => ?_, fun b o u e => ?_, fun b ps e => ?_⟩
    · rw [upd_ne (ltD b o e)]; exact bU.free b o (kp b o e) n (hx b o e he)
    · have q := bU.tups b xs e
      rw [upd_ne (nD' b _ q)]; exact q
    · have q := bU.frzs b o u e
      rw [upd_ne (nD' b _ q)]; exact q
    · obtain ⟨more, q⟩ := bU.tbls b ps e
      exact ⟨more, by rw [upd_ne (nD' b _ q)]; exact q⟩
  have hok : HOk X.prog X.w (upd H' s.heap.objs.size (.lst ys)) s'.heap := fun b u e => by
    by_cases hb : b = s.heap.objs.size
    · rw [hb, upd_same] at e
      cases e
      rw [hb]
      exact ⟨hl, us, us.length, hv, eD⟩
    · rw [upd_ne hb] at e
      exact (J.hok b u e).stay (fun c v _ q => q) (fun c q => by rw [upd_ne (nD' c _ q)]; exact q) fun c xs q => by rw [upd_ne (nD' c _ q)]; exact q
  have os : s'.os = s.os := J.os
  refine ⟨I.call' os un hok J.bare fun b hb => ⟨(hf b hb).2.2.2.1, (hf b hb).2.1, (hf b hb).2.2.2.2⟩, nD, ?_, ?_⟩
  · refine I.fpOk (H' := upd H' s.heap.objs.size (.lst ys)) (b := g.objs.size) (by rw [hsz]; exact Nat.le_succ _) ?_
    rw [upd_ne hDC]
    exact J.free
  · obtain ⟨m, hn, _⟩ := J.loc
    exact ⟨m, hn⟩
end
/-- the reading: W by the turn, a measure, the items so far, the heap -/
def tCompR (te : TE) (fv : St) (J : It) (H1 : Hp) (QQ : List V → Hp → Prop) : Prop :=
  ∃ W : Nat → Nat → List V → Hp → Prop, (∃ m, W 0 m [] H1) ∧ ∀ i m ys H, W i m ys H → ys.length ≤ sizeLine ∧
    ((J.stop i H ∧ QQ ys H) ∨ (J.go i H ∧ ∃ N : V → Hp → Prop, (∀ y H2, N y H2 → ∃ m', m' < m ∧ W (i + 1) m' (ys ++ [y]) H2) ∧ ∀ x H', J.yld i H x H' → te (some x :: fv) H' N))
section
variable {X : Cx} {scope : Scope} {fr : List (Str × Nat)} {x : Str} {elt iter : Expr} {px pos : Pos} {te : TE} {wi : TI}
theorem comp_core {pins : List (Addr × Obj)} {σ : St} {H : Hp} {s : Shared} {E : Value → Shared → Prop} {it : Addr} {fp : List Addr} {tn : Nat → Heap → Prop} {J : It} {RR : Value → Addr → Result → Shared → Prop} {QQ : List V → Hp → Prop} (hc : X.calm = true) (O : CompOk X scope fr x)
    (he : ∀ C ex s H, PE (cxComp X scope fr x C ex s H) elt te) (I : Inv X pins σ H s) (T : Turn X.prog X.w X.K (.Name x px) J fp it tn) (st : tn 0 s.heap) (hf : ∀ b ∈ fp, FpOk X pins H b) (hq : tCompR te (frOf fr σ) J H QQ)
    (fin : ∀ D C H4 ys s4 m, Inv X pins σ (upd H4 D (.lst ys)) s4 → H4 D = none → FpOk X pins (upd H4 D (.lst ys)) C → s4.heap.Ns C m → QQ ys H4 → RR (.ref D) C (.ok .next) s4) :
    wpAny (model X.prog X.w) X.A (newList []) (fun acc s₃ => wpAny (model X.prog X.w) X.A (newFunctionEnv scope X.env.globals (clOf X.env fr) [] X.env.qual none .none (some X.env)) (fun cenv s₄ =>
      codeAny (model X.prog X.w) X.A (.compStart (.ListComp elt [⟨.Name x px, iter, [], 0⟩] scope pos) 0 (.ref it) acc { cenv with scope := relabel scope X.env }) (RR acc cenv.locals) s₄) E s₃) E s := by
  obtain ⟨W, ⟨m0, w0⟩, turn⟩ := hq
  have hfs : ∀ b ∈ fp, b < s.heap.objs.size := fun b hb => by
    obtain ⟨o, e, _⟩ := T.obj 0 s.heap st b hb
    exact Heap.lt_size e
  refine wpAny_newObj_type (wpAny_newFunctionEnv O.cell (by intro y hy; simp at hy) (fun h₁ hns₁ hsb₁ => ?_) O.kind)
  dsimp only at hns₁ hsb₁ ⊢
  generalize hH2 : s.heap.push { cls := .type "list", dict := none, data := .seq ([] : List Value).toArray } = g at hns₁ hsb₁ ⊢
  have hg : g = s.heap.push (LCg.lst []) := hH2.symm
  have hsz : g.objs.size = s.heap.objs.size + 1 := by rw [hg, Heap.size_push]
  have hk : ∀ b o, g.get? b = some o → h₁.get? b = some o := fun b o e => hsb₁.extBut b o (Nat.ne_of_lt (Heap.lt_size e)) (Heap.get?_push_of_some _ e)
  have kp : ∀ b o, s.heap.get? b = some o → h₁.get? b = some o := fun b o e => hk b o (by rw [hg]; exact Heap.get?_push_of_some _ e)
  have J0 := inv_comp (h' := h₁) (tk := s.toks + ([] : List (Str × Value)).length) O I hf hfs hg hk hns₁
  have stat : ∀ {H' : Hp} {us : List Value}, (∀ b ∈ fp, H' b = none) → ∀ b ∈ fp, FpOk (cxComp X scope fr x g.objs.size (s.heap.objs.size :: fp) { s with heap := g } H) (X.pn ++ pins ++ [(s.heap.objs.size, LCg.lst us)]) H' b := fun {H' us} hn b hb => by
    obtain ⟨_, f1, f2, f3, f4, f5⟩ := hf b hb
    refine ⟨hn b hb, ?_, fun z => (List.mem_cons.mp (I.stkSub b z)).elim f1 f2, .inl (List.mem_cons_of_mem _ hb), fun y c e => f4 y c (O.cells I e), fun p hp => ?_⟩
    · show b ≠ g.objs.size
      rw [hsz]; exact Nat.ne_of_lt (Nat.lt_succ_of_lt (hfs b hb))
    · rcases List.mem_append.mp hp with hp | hp
      · cases hp
      · rcases List.mem_append.mp hp with hp | hp
        · exact f5 p hp
        · have ep : p = (s.heap.objs.size, LCg.lst us) := by simpa using hp
          rw [ep]
          exact Nat.ne_of_gt (hfs b hb)
  have loop : codeAny (model X.prog X.w) X.A (.compLoop (.ListComp elt [⟨.Name x px, iter, [], 0⟩] scope pos) 0 (.ref it) (.ref s.heap.objs.size) (compEnvC scope (clOf X.env fr) g.objs.size X.env))
      (RR (.ref s.heap.objs.size) g.objs.size) { s with heap := h₁, toks := s.toks + ([] : List (Str × Value)).length } := by
    refine codeAny_compLoop_tests (fun n s' => ∃ i ys us H', Inv (cxComp X scope fr x g.objs.size (s.heap.objs.size :: fp) { s with heap := g } H) (X.pn ++ pins ++ [(s.heap.objs.size, LCg.lst us)]) (none :: frOf fr σ) H' s' ∧ Vals ys us ∧ tn i s'.heap ∧ (∀ b ∈ fp, H' b = none) ∧ W i n ys H') ?_ m0
      ⟨0, [], [], H, J0, .nil, T.keep 0 s.heap h₁ st fun b _ o e => kp b o e, fun b hb => (hf b hb).1, w0⟩
    rintro n s3 ⟨i, ys, us, H3, J3, hv, st3, fr3, w3⟩
    obtain ⟨hlen, hh⟩ := turn i n ys H3 w3
    have none_err : ∀ {α : Type} {t : Sem α} {Q : α → Shared → Prop} {E' : Value → Shared → Prop} {s : Shared}, wpAny (model X.prog X.w) X.A t Q (fun _ _ => False) s → wpAny (model X.prog X.w) X.A t Q E' s := fun h => wpAny_mono h (fun _ _ q => q) fun _ _ z => z.elim
    rcases hh with ⟨stop, qn⟩ | ⟨go, N, hN, step⟩
    · refine none_err (thn (T.done (cxComp X scope fr x g.objs.size (s.heap.objs.size :: fp) { s with heap := g } H) rfl rfl rfl hc i _ s3 _ H3 _ J3 (stat fr3) st3 stop) fun r s4 ⟨hr, J4⟩ => ?_)
      subst hr
      obtain ⟨I4, nD, fC, m, hn⟩ := inv_comp_end I hf hg J4 hv hlen
      exact fin _ _ H3 ys s4 m I4 nD fC hn qn
    · refine none_err (thn (T.item (cxComp X scope fr x g.objs.size (s.heap.objs.size :: fp) { s with heap := g } H) rfl rfl rfl hc i _ s3 _ H3 _ J3 (stat fr3) st3 go) fun r s4 ⟨u, hr, h4⟩ => ?_)
      subst hr
      have h4' := wpAny_bind (f := fun _ => assign (.Name x px) (compEnvC scope (clOf X.env fr) g.objs.size X.env) u) (thn h4 (Q' := fun _ s5 => wpAny (model X.prog X.w) X.A (assign (.Name x px) (compEnvC scope (clOf X.env fr) g.objs.size X.env) u) (fun _ s6 => ∃ (σ6 : St) (H6 : Hp) (v : V) (s5' : Shared) (H5 : Hp), Inv (cxComp X scope fr x g.objs.size (s.heap.objs.size :: fp) { s with heap := g } H) (X.pn ++ pins ++ [(s.heap.objs.size, LCg.lst us)] ++ pinsAt fp s5'.heap) σ6 H6 s6 ∧ σ6 = some v :: frOf fr σ ∧ H6 = H5 ∧ J.yld i H3 v H5 ∧ tn (i + 1) s5'.heap) (fun _ _ => False) s5) fun _ s5 ⟨v, H5, J5, r5, y5, st5, fr5⟩ => by
        have J5' := J5.pinned (stat fr5) (T.obj _ _ st5)
        have hNd : (cxComp X scope fr x g.objs.size (s.heap.objs.size :: fp) { s with heap := g } H).N.Nodup := O.nd
        have hxl : (cxComp X scope fr x g.objs.size (s.heap.objs.size :: fp) { s with heap := g } H).env.scope.names.lookup x = some .local := lookup_relabel_local O.xl
        exact thn (pg_name (X := cxComp X scope fr x g.objs.size (s.heap.objs.size :: fp) { s with heap := g } H) (i := 0) hNd rfl (.inl hxl) (.inr hxl) _ s5 _ H5 v u (fun σ6 H6 => σ6 = some v :: frOf fr σ ∧ H6 = H5) J5' r5 ⟨rfl, rfl⟩) fun _ s6 ⟨σ6, H6, J6, e6, e7⟩ => ⟨σ6, H6, v, s5, H5, J6, e6, e7, y5, st5⟩)
      refine none_err (thn h4' fun _ s6 ⟨σ6, H6, v, s5, H5, J6, e6, e7, y5, st5⟩ => ?_)
      subst e6 e7
      refine wpAny_tests_nil ?_
      rw [if_pos rfl]
      refine none_err (thn (he _ _ _ _ _ s6 _ H6 _ J6 (step v H6 y5)) fun u7 s7 ⟨v7, H7, J7, r7, q7⟩ => ?_)
      obtain ⟨m', hm, w7⟩ := hN v7 H7 q7
      obtain ⟨eD, nD, dC, dF, dd⟩ := J7.pin (s.heap.objs.size, LCg.lst us) (List.mem_append_right _ (List.mem_append_left _ (List.mem_append_right _ (by simp))))
      have hvl := hv.length
      refine append_at (hsz := by show us.toArray.size ≤ sizeLine; rw [List.size_toArray, ← hvl]; exact hlen) eD fun h8 hs8 hD8 => ?_
      have pinD : ∀ p ∈ X.pn ++ pins, p.1 ≠ s.heap.objs.size := fun p hp z => by
        have := Heap.lt_size (I.pin p hp).1
        rw [z] at this
        exact Nat.lt_irrefl _ this
      have J7a : Inv (cxComp X scope fr x g.objs.size (s.heap.objs.size :: fp) { s with heap := g } H) (X.pn ++ pins) _ H7 s7 := J7.pins_of fun p hp => J7.pin p (List.mem_append_right _ (List.mem_append_left _ (List.mem_append_left _ hp)))
      have J8 : Inv (cxComp X scope fr x g.objs.size (s.heap.objs.size :: fp) { s with heap := g } H) (X.pn ++ pins) _ H7 { s7 with heap := h8 } := J7a.turned (t' := s7.toks) (fun b o hb e => (hs8.2 b hb).trans e) nD dC (.inl List.mem_cons_self) (fun y c e z => by
        obtain ⟨w', q⟩ := I.cell y c (O.cells I e)
        have := q.lt
        rw [z] at this
        exact Nat.lt_irrefl _ this) (fun p hp => (List.mem_append.mp hp).elim (fun z => by cases z) (pinD p))
      have J9 : Inv (cxComp X scope fr x g.objs.size (s.heap.objs.size :: fp) { s with heap := g } H) (X.pn ++ pins ++ [(s.heap.objs.size, LCg.lst (us ++ [u7]))]) _ H7 { s7 with heap := h8 } := J8.pins_of fun p hp => by
        rcases List.mem_append.mp hp with hp | hp
        · exact J8.pin p (List.mem_append_right _ hp)
        · have ep : p = (s.heap.objs.size, LCg.lst (us ++ [u7])) := by simpa using hp
          subst ep
          exact ⟨hD8.trans (congrArg some (LCg.lst_snoc us u7)), nD, dC, dF, fun v z => by cases z⟩
      have J10 := J9.weak (σ' := none :: frOf fr σ) rfl fun i v e => by
        cases i with
        | zero => cases e
        | succ k => exact e
      have pinF : ∀ b ∈ fp, ∀ o, s5.heap.get? b = some o → s7.heap.get? b = some o ∧ H7 b = none := fun b hb o e => by
        obtain ⟨q1, q2, _⟩ := J7.pin (b, o) (List.mem_append_right _ (List.mem_append_right _ (mem_pinsAt hb e)))
        exact ⟨q1, q2⟩
      refine ⟨m', hm, i + 1, ys ++ [v7], us ++ [u7], H7, J10, hv.append (.cons r7 .nil), T.keep _ _ _ st5 fun b hb o e => (hs8.2 b (Nat.ne_of_lt (hfs b hb))).trans (pinF b hb o e).1, fun b hb => ?_, w7⟩
      obtain ⟨o, e, _⟩ := T.obj _ _ st5 b hb
      exact (pinF b hb o e).2
  exact codeAny_compStart_list loop (T.self X.A 0 _ _ _ (T.keep 0 s.heap h₁ st fun b _ o e => kp b o e) loop)
/-- [elt for x in iter] -/
def tComp (wi : TI) (te : TE) (fr : List (Str × Nat)) : TE := fun σ H Q => wi σ H fun J H1 => tCompR te (frOf fr σ) J H1 fun ys H2 => ∀ D, H2 D = none → Q (.ref D) (upd H2 D (.lst ys))
theorem pe_comp (hc : X.calm = true) (O : CompOk X scope fr x) (hi : PI X (.Name x px) iter wi) (he : ∀ C ex s H, PE (cxComp X scope fr x C ex s H) elt te) (hs : ∀ x, foldedSetIterable iter X.env x = pure x := by intro _; rfl) :
    PE X (.ListComp elt [⟨.Name x px, iter, [], 0⟩] scope pos) (tComp wi te fr) := by
  intro pins s σ H Q I h
  rw [eval_ListComp]
  refine wpAny_comprehension_free (use := none) rfl hs O.clos O.kind O.names (thn (hi pins s σ H _ I h) fun xv s1 h1 => thn h1 fun itv s2 h2 => ?_)
  obtain ⟨it, fp, tn, J, H2, e, I2, T, st2, f2, q2⟩ := h2
  subst e
  refine comp_core (RR := fun acc C => compPost (model X.prog X.w) X.A X.xe none (EP X pins σ Q) acc C) hc O he I2 T st2 f2 q2 ?_
  intro D C H4 ys s4 m I4 nD fC hn q4
  refine ⟨m, hn, fun h' hs' => ?_⟩
  obtain ⟨g0, g1, g2, g3, g4, g5⟩ := fC
  exact ⟨.ref D, _, I4.turned (t' := s4.toks) (fun b o hb e => (hs'.2 b hb).trans e) g0 g1 g3 g4 g5, rfl, q4 D nD⟩
/-- y = [elt for x in iter], y a plain local name -/
def tAsgComp (i : Nat) (wi : TI) (te : TE) (fr : List (Str × Nat)) : TS := fun D σ H => wi σ H fun J H1 => tCompR te (frOf fr σ) J H1 fun ys H2 => ∀ a, H2 a = none → D.nx (σ.set i (some (.ref a))) (upd H2 a (.lst ys))
theorem ps_setComp {i : Nat} {y : Str} {py spos : Pos} (hc : X.calm = true) (hN : X.N.Nodup) (hi' : X.N[i]? = some y) (hy : X.env.scope.names.lookup y = some .local) (O : CompOk X scope fr x) (hi : PI X (.Name x px) iter wi) (he : ∀ C ex s H, PE (cxComp X scope fr x C ex s H) elt te)
    (hsw : swapsWith (.ListComp elt [⟨.Name x px, iter, [], 0⟩] scope pos) (some (.Name y py)) spos.line X.env = pure true := by rfl) (hs : ∀ x, foldedSetIterable iter X.env x = pure x := by intro _; rfl) :
    PS X (.Assign [.Name y py] (.ListComp elt [⟨.Name x px, iter, [], 0⟩] scope pos) spos) (tAsgComp i wi te fr) := by
  intro pins s σ H D I h
  rw [exec_Assign_Name_used _ _ _ _ hsw]
  refine wpAny_bind (wpAny_standAt (wpAny_bind ?_))
  show wpAny _ X.A (do let _ ← comprehension (.ListComp elt [⟨.Name x px, iter, [], 0⟩] scope pos) scope X.env _ (newList []) false (eval iter X.env) (some (assign (.Name y py) X.env))) _ _ s
  refine wpAny_bind (thn (wpAny_comprehension_free (use := some (assign (.Name y py) X.env)) (Q := fun _ s' => SP X pins D .next s') rfl hs O.clos O.kind O.names (thn (hi pins s σ H _ I h) fun xv s1 h1 => thn h1 fun itv s2 h2 => ?_)) fun _ s' hq => wpAny_pure (wpAny_pure hq))
  obtain ⟨it, fp, tn, J, H2, e, I2, T, st2, f2, q2⟩ := h2
  subst e
  refine comp_core (RR := fun acc C => compPost (model X.prog X.w) X.A X.xe (some (assign (.Name y py) X.env)) (fun _ s' => SP X pins D .next s') acc C) hc O he I2 T st2 f2 q2 ?_
  intro a C H4 ys s4 m I4 nD fC hn q4
  obtain ⟨g0, g1, g2, g3, g4, g5⟩ := fC
  obtain ⟨oC, eC, hoC⟩ := LCg.ns_obj hn
  have I5 : Inv X (pins ++ [(C, oC)]) σ (upd H4 a (.lst ys)) s4 := I4.pins_of fun p hp => by
    rcases List.mem_append.mp hp with hp | hp
    · exact I4.pin p (List.mem_append_right _ hp)
    · have ep : p = (C, oC) := by simpa using hp
      subst ep
      obtain ⟨es, epp, hd, _⟩ := hoC
      exact ⟨eC, g0, g1, g2, fun v z => by rw [hd] at z; cases z⟩
  show wpAny _ X.A (assign (.Name y py) X.env (.ref a)) _ _ _
  refine wpAny_assign_Name (store_ok I5 hN hi' (.inl hy) (v := .ref a) rfl (fun s6 I6 => ?_) (.inr hy))
  obtain ⟨e6, _⟩ := I6.pin (C, oC) (List.mem_append_right _ (List.mem_append_right _ (by simp)))
  refine ⟨m, hoC.ns e6, fun h' hs' => ?_⟩
  exact ⟨_, _, I6.unpinned.turned (t' := s6.toks) (fun b o hb e => (hs'.2 b hb).trans e) g0 g1 g3 g4 g5, q4 a nD⟩
end
/-! ### the forms one uses -/
/-- over a list that stays as it is -/
theorem comp_list {K : PySem.W.Frag} {a : Addr} {xs : List V} {te : TE} {fv : St} {H1 : Hp} {QQ : List V → Hp → Prop} (Pv : Nat → List V → Hp → Prop) (hz : xs.length ≤ sizeLine) (h0 : Pv 0 [] H1) (hl : ∀ i ys H, i ≤ xs.length → Pv i ys H → SqL K H a xs)
    (hs : ∀ i x ys H, xs[i]? = some x → Pv i ys H → te (some x :: fv) H fun y H2 => Pv (i + 1) (ys ++ [y]) H2) (hd : ∀ ys H, ys.length = xs.length → Pv xs.length ys H → QQ ys H)
    : tCompR te fv (Itl K a) H1 QQ := by
  refine ⟨fun i m ys H => m = xs.length - i ∧ i ≤ xs.length ∧ ys.length = i ∧ Pv i ys H, ⟨xs.length, by simp, Nat.zero_le _, rfl, h0⟩, ?_⟩
  rintro i m ys H ⟨rfl, hi, hy, p⟩
  have q := hl i ys H hi p
  refine ⟨by omega, ?_⟩
  by_cases hlt : i < xs.length
  · refine .inr ⟨⟨xs, xs[i], q, by simp [hlt]⟩, fun y H2 => Pv (i + 1) (ys ++ [y]) H2, fun y H2 p2 => ⟨xs.length - (i + 1), by omega, rfl, hlt, by rw [List.length_append, hy]; rfl, p2⟩, fun x H' y => ?_⟩
    obtain ⟨e, y⟩ := y
    subst e
    exact hs i x ys _ (y xs q) p
  · have e : i = xs.length := by omega
    subst e
    exact .inl ⟨⟨xs, q, Nat.le_refl _⟩, hd ys H hy p⟩
theorem comp_range {lo : Int} {n : Nat} {te : TE} {fv : St} {H1 : Hp} {QQ : List V → Hp → Prop} (Pv : Nat → List V → Hp → Prop) (hz : n ≤ sizeLine) (h0 : Pv 0 [] H1)
    (hs : ∀ i ys H, i < n → Pv i ys H → te (some (.int (lo + i)) :: fv) H fun y H2 => Pv (i + 1) (ys ++ [y]) H2) (hd : ∀ ys H, ys.length = n → Pv n ys H → QQ ys H)
    : tCompR te fv (Itr lo n) H1 QQ := by
  refine ⟨fun i m ys H => m = n - i ∧ i ≤ n ∧ ys.length = i ∧ Pv i ys H, ⟨n, by simp, Nat.zero_le _, rfl, h0⟩, ?_⟩
  rintro i m ys H ⟨rfl, hi, hy, p⟩
  refine ⟨by omega, ?_⟩
  by_cases hlt : i < n
  · refine .inr ⟨hlt, fun y H2 => Pv (i + 1) (ys ++ [y]) H2, fun y H2 p2 => ⟨n - (i + 1), by omega, rfl, hlt, by rw [List.length_append, hy]; rfl, p2⟩, fun x H' y => ?_⟩
    obtain ⟨e, y⟩ := y
    subst e y
    exact hs i ys _ hlt p
  · have e : i = n := by omega
    subst e
    exact .inl ⟨Nat.le_refl _, hd ys H hy p⟩
end L2

namespace L2
open PySem PySem.Spec PyProof.Rows
theorem bt_int : bootBuiltins "int" = some (.type "int") := by decide +kernel
theorem bt_bool : bootBuiltins "bool" = some (.type "bool") := by decide +kernel
theorem bt_list : bootBuiltins "list" = some (.type "list") := by decide +kernel
theorem bt_len : bootBuiltins "len" = some (.builtin "len") := by decide +kernel
theorem bt_isinstance : bootBuiltins "isinstance" = some (.builtin "isinstance") := by decide +kernel
theorem bt_sorted : bootBuiltins "sorted" = some (.builtin "sorted") := by decide +kernel
/-! ### a callee, all that a call asks -/
structure Cal (P : Program) (w : World) (K : PySem.W.Frag) (mg : Str → Option Value) (base : Heap) (k : Nat) (x : Str) (ps : List Str) (sp : Sp) (f : Addr) (fd : FuncData) : Prop where
  ok : FnOk P w K mg base CX0 k f fd ps sp
  bn : Binds K fd ps []
  mg : mg x = some (.ref f)
  kp : PySem.W.keepIn K (.ref f) = true
structure Mak (P : Program) (w : World) (K : PySem.W.Frag) (mg : Str → Option Value) (base : Heap) (k : Nat) (x : Str) (ps : List Str) (sp : Sp) (C f : Addr) (fd : FuncData) : Prop where
  mkc : Mk K C f
  ok : FnOk P w K mg base CX0 k f fd ps sp
  bn : Binds K fd ps []
  mg : mg x = some (.ref C)
/-! ### a block by what one asks of it -/
/-! ### isinstance(x, c), c one class -/
section
variable {X : Cx}
def rIsi (K : PySem.W.Frag) : List V → Hp → VK → Prop := fun xs H Q => ∃ x c t b u, xs = [x, c] ∧ TyOf K H x t ∧ ((∃ n, c = .ty n ∧ u = Value.type n) ∨ ∃ a, c = .ref a ∧ u = Value.ref a) ∧ PySem.W.kitOne K t u = some b ∧ Q (.bl b) H
theorem call_isi : CallR X (.builtin "isinstance") (rIsi X.K) := by
  intro pins s σ H xs us Q I r h
  obtain ⟨x, c, t, b, u, rfl, ty, hu, e, q⟩ := h
  obtain ⟨v1, v2, rfl, r1, r2⟩ := vals2 r
  have e2 : v2 = u := by
    rcases hu with ⟨n, rfl, rfl⟩ | ⟨a, rfl, rfl⟩
    · exact r2
    · exact r2
  subst e2
  exact isinst_ok I r1 ty e fun tk => ⟨.bl b, H, I.tok tk, rfl, q⟩
theorem kit_ii (K : PySem.W.Frag) : PySem.W.kitOne K (.type "int") (.type "int") = some true := by with_unfolding_all rfl
theorem kit_ib (K : PySem.W.Frag) : PySem.W.kitOne K (.type "int") (.type "bool") = some false := by with_unfolding_all rfl
end
/-! ### == of two things that hold the same data: lists and tuples of ints, bools, texts, at any depth -/
inductive RdD (K : PySem.W.Frag) (H : Hp) : V → PyData → Prop where
  | non : RdD K H .non .none
  | bl (b : Bool) : RdD K H (.bl b) (.bool b)
  | int (i : Int) : RdD K H (.int i) (.int i)
  | lst {a : Addr} {xs : List V} {ds : List PyData} (h : SqL K H a xs) (hl : xs.length = ds.length) (r : ∀ (i : Nat) (x : V) (d : PyData), xs[i]? = some x → ds[i]? = some d → RdD K H x d) : RdD K H (.ref a) (.list ds)
  | tup {a : Addr} {xs : List V} {ds : List PyData} (h : SqT K H a xs) (hl : xs.length = ds.length) (r : ∀ (i : Nat) (x : V) (d : PyData), xs[i]? = some x → ds[i]? = some d → RdD K H x d) : RdD K H (.ref a) (.tuple ds)
theorem readsAll_of {h : Heap} : ∀ {xs : List V} {us : List Value} {ds : List PyData}, Vals xs us → xs.length = ds.length → (∀ (i : Nat) x d, xs[i]? = some x → ds[i]? = some d → ∀ u, RelV x u → ∃ as, Reads h u d as) → ∃ as, ReadsAll h us ds as
  | _, _, [], .nil, _, _ => ⟨_, .nil⟩
  | _, _, _ :: _, .nil, e, _ => by cases e
  | _, _, [], .cons _ _, e, _ => by cases e
  | _, _, d :: ds, .cons r rr, e, k => by
    obtain ⟨a1, q1⟩ := k 0 _ d rfl rfl _ r
    obtain ⟨a2, q2⟩ := readsAll_of rr (Nat.succ.inj e) fun i x d' e1 e2 => k (i + 1) x d' e1 e2
    exact ⟨_, .cons q1 q2⟩
section
variable {X : Cx}
theorem RdD.reads {pins : List (Addr × Obj)} {σ : St} {H : Hp} {s : Shared} (I : Inv X pins σ H s) {x : V} {d : PyData} (r : RdD X.K H x d) : ∀ u, RelV x u → ∃ as, Reads s.heap u d as := by
  induction r with
  | non => intro u hu; cases hu; exact ⟨_, .none⟩
  | bl b => intro u hu; cases hu; exact ⟨_, .bool b⟩
  | int i => intro u hu; obtain ⟨t, rfl⟩ := hu; exact ⟨_, .int i t⟩
  | lst h hl r ih =>
    intro u hu
    cases hu
    obtain ⟨its, rv, p, _⟩ := I.list h
    obtain ⟨as, q⟩ := readsAll_of (h := s.heap) rv hl ih
    obtain ⟨o, n, e, c, _, d⟩ := p
    exact ⟨_, .list e c d (by simpa using q)⟩
  | tup h hl r ih =>
    intro u hu
    cases hu
    obtain ⟨its, rv, p, _⟩ := I.tuple h
    obtain ⟨as, q⟩ := readsAll_of (h := s.heap) rv hl ih
    obtain ⟨o, e, c, n, d⟩ := p
    exact ⟨_, .tuple e c d (by simpa using q)⟩
def rSame (b : Bool) (K : PySem.W.Frag) : R2 := fun x y H Q => ∃ d, RdD K H x d ∧ RdD K H y d ∧ SeqAt.shaped d = true ∧ Q (.bl b) H
theorem op_eqD (hu : X.A.units + 64 < cLine) : OpR X (compareOp .Eq) (rSame true X.K) := by
  intro pins s σ H x y v u Q I rx ry h
  obtain ⟨d, r1, r2, hs, q⟩ := h
  obtain ⟨as, q1⟩ := r1.reads I v rx
  obtain ⟨bs, q2⟩ := r2.reads I u ry
  refine eq_dataH q1 q2 hs hs hu ?_
  rw [SeqAt.eqv_refl d (SeqAt.canLay_of_shaped hs)]
  exact ⟨.bl true, H, I, rfl, q⟩
theorem op_neD (hu : X.A.units + 64 < cLine) : OpR X (compareOp .NotEq) (rSame false X.K) := by
  intro pins s σ H x y v u Q I rx ry h
  obtain ⟨d, r1, r2, hs, q⟩ := h
  obtain ⟨as, q1⟩ := r1.reads I v rx
  obtain ⟨bs, q2⟩ := r2.reads I u ry
  refine ne_dataH q1 q2 hs hs hu ?_
  rw [SeqAt.eqv_refl d (SeqAt.canLay_of_shaped hs)]
  exact ⟨.bl false, H, I, rfl, q⟩
end
/-! ### range(a, b, c), c above nought -/
section
variable {X : Cx} {tg : Expr}
end
end L2

namespace L2
open PySem PySem.Spec PyProof.Rows
/-! ## exceptions of own classes: raised, passed on, caught -/
section
variable {P : Program} {w : World} {H : Hp} {h : Heap} {a : Addr} {o : HO}
end

section
variable {X : Cx} {pins : List (Addr × Obj)} {σ : St} {H H' : Hp} {s s' : Shared} {b : Addr}
end

section
variable {X : Cx} {pins : List (Addr × Obj)} {σ : St} {H : Hp} {s : Shared} {x : Addr} {C : Value} {E : Value → Shared → Prop}
end


section
variable {X : Cx} {k : Nat} {f C : Addr} {fd : FuncData} {ps : List Str} {sp : Sp} {dvs : List V} {ds : List Value} {W : WK} {x m : Str} {p pos apos : Pos} {e o : Expr} {es : List Expr} {ta : TE} {t : TA}
end
end L2

namespace L2
open PySem PySem.Spec PyProof.Rows
/-! ## exceptions, second part: raise, try, what was caught -/
section
variable {X : Cx} {pins : List (Addr × Obj)} {σ : St} {H : Hp} {s : Shared} {x : Addr} {C : Value}
end
section
variable {M : Model} {A : Around} {E : Value → Shared → Prop} {h : Heap} {g : Array GenState} {d : Drawn} {t : Nat} {os : OsState}
end
section
variable {X : Cx} {pins pins' : List (Addr × Obj)} {σ : St} {H : Hp} {s : Shared} {E : Value → Shared → Prop} {b : Addr}
end
section
variable {X : Cx} {k : Nat} {f : Addr} {fd : FuncData} {ps : List Str} {sp : Sp} {dvs : List V} {ds : List Value} {W : WK} {x : Str} {p pos : Pos} {e : Expr} {es : List Expr} {t : TA}
end
/-! ### isinstance of what was caught, of its very class -/
end L2
namespace L2
open PySem PySem.Spec PyProof.Rows
end L2

namespace L2
open PySem PySem.Spec PyProof.Rows
section
variable {prog : Program} {w : World} {A : Around} {E : Value → Shared → Prop} {s : Shared}
end
end L2

namespace L2
open PySem PySem.Spec PyProof.Rows
section
variable {prog : Program} {w : World} {A : Around} {E : Value → Shared → Prop} {s : Shared}
end
section
variable {X : Cx}
/-- an object of ours that lies there untracked is tracked from here on -/
theorem Inv.track {pins : List (Addr × Obj)} {σ : St} {H : Hp} {s : Shared} {a : Addr} {o : HO} (I : Inv X pins σ H s) (f : FpOk X pins H a) (new : ObjOk X.prog X.w (upd H a o) s.heap a o) : Inv X pins σ (upd H a o) s := by
  obtain ⟨f0, f1, f2, f3, f4, f5⟩ := f
  have ne : ∀ b u, H b = some u → b ≠ a := fun b u e => ne_of_none e f0
  refine I.step (g' := s.gens) (t' := s.toks) (d' := s.drawn) (h' := s.heap) (ch := [a]) (fun b hb => ?_) (fun b o _ _ _ e _ => e) (fun b o _ _ _ e _ => ⟨o.slots, e⟩) (fun b o hc e n => ?_) (fun b o _ e => ⟨o, e⟩) (fun b xs e => by rw [upd_ne (ne b _ e)]; exact e) (fun b o u e => by rw [upd_ne (ne b _ e)]; exact e)
    (fun b ps e => ⟨#[], by rw [upd_ne (ne b _ e), e]; simp⟩) (fun m hm => hm) (fun b u e => ?_) I.bare
  · have eb : b = a := by simpa using hb
    rw [eb]
    exact ⟨f3, f1, f4, f5⟩
  · rw [upd_ne (fun z => hc (by simp [z]))]
    exact n
  · by_cases hb : b = a
    · rw [hb, upd_same] at e
      cases e
      rw [hb]
      exact new
    · rw [upd_ne hb] at e
      exact (I.hok b u e).stay (fun c v _ q => q) (fun c q => by rw [upd_ne (ne c _ q)]; exact q) fun c xs q => by rw [upd_ne (ne c _ q)]; exact q
end
end L2

namespace L2
open PySem PySem.Spec PyProof.Rows
section
variable {X : Cx}
end
end L2

namespace L2
open PySem PySem.Spec PyProof.Rows
/-! ### several records of ours turned -/
/-! ### enumerate(list), walked by a pair of names -/
section
variable {X : Cx}
end
end L2
namespace L2
open PySem PySem.Spec PyProof.Rows
section
variable {X : Cx}
end
end L2
namespace L2
open PySem PySem.Spec PyProof.Rows
theorem canLayAll_of : ∀ {ds : List PyData}, (∀ d ∈ ds, d.canLay0 = true) → PyData.canLayAll0 ds = true
  | [], _ => by simp [PyData.canLayAll0]
  | d :: ds, h => by
    rw [PyData.canLayAll0, h d (by simp), canLayAll_of fun x hx => h x (by simp [hx])]
    rfl
theorem depthAll_of {n : Nat} : ∀ {ds : List PyData}, (∀ d ∈ ds, d.depth ≤ n) → PyData.depthAll ds ≤ n
  | [], _ => by simp [PyData.depthAll]
  | d :: ds, h => by
    have h1 := h d (by simp)
    have h2 := depthAll_of (ds := ds) fun x hx => h x (List.mem_cons_of_mem _ hx)
    rw [PyData.depthAll]
    omega
theorem shaped_flat {ds : List PyData} (h : ∀ d ∈ ds, d.canLay0 = true ∧ d.depth ≤ 10) : SeqAt.shaped (.list ds) = true := by
  have h1 := canLayAll_of fun d hd => (h d hd).1
  have h2 := depthAll_of fun d hd => (h d hd).2
  have h3 : PyData.depth (.list ds) ≤ 64 := by simp only [PyData.depth]; omega
  show (PyData.canLay0 (.list ds) && decide (PyData.depth (.list ds) ≤ 64)) = true
  rw [Bool.and_eq_true]
  exact ⟨by simp only [PyData.canLay0]; exact h1, decide_eq_true h3⟩
theorem flat2 (i j : Int) : (PyData.tuple [.int i, .int j]).canLay0 = true ∧ (PyData.tuple [.int i, .int j]).depth ≤ 10 := by
  constructor
  · simp [PyData.canLay0, PyData.canLayAll0]
  · simp [PyData.depth, PyData.depthAll]
end L2

namespace L2
open PySem PySem.Spec PyProof.Rows
/-! ### a list comprehension of one clause, by names or a tuple of names, with or without a test -/
section
variable {X : Cx} {pins : List (Addr × Obj)} {σ : St} {H : Hp} {s : Shared} {scope : Scope} {fr : List (Str × Nat)} {xs : List Str}
end
section
variable {prog : Program} {w : World} {A : Around} {s : Shared}
end
section
variable {X : Cx} {scope : Scope} {fr : List (Str × Nat)} {xs : List Str} {elt iter tg : Expr} {ifs : List Expr} {pos : Pos} {te : TE} {tt : TT} {tgt : TG} {wi : TI}
end
/-! ### the forms one uses -/
end L2
namespace L2
open PySem PySem.Spec PyProof.Rows
/-! ### rules whose reading names the part K itself (for the blocks of comprehensions) -/
section
variable {X : Cx} {K : PySem.W.Frag} {pos : Pos}
theorem callK_list (h : X.K = K) : CallR X (.type "list") (fun xs H Q => ∃ p ys, xs = [.ref p] ∧ (SqL K H p ys ∨ SqT K H p ys) ∧ ∀ l, H l = none → Q (.ref l) (upd H l (.lst ys))) := h ▸ call_list_of
theorem pe_fldK {e : Expr} {f : Str} {ta : TE} (h : X.K = K) (he : PE X e ta) (hb : attributeBase e f X.env (eval e X.env) = eval e X.env) : PE X (.Attribute e f pos) (tFld K ta f) := h ▸ pe_fld he hb
end
end L2

namespace L2
open PySem PySem.Spec PyProof.Rows
section
variable {X : Cx}
/-- xs.insert(k, y), k within the list -/
def rInsert : V → List V → Hp → VK → Prop := fun x vs H Q => ∃ l xs k y, x = .ref l ∧ vs = [.int k, y] ∧ H l = some (.lst xs) ∧ 0 ≤ k ∧ k ≤ xs.length ∧ xs.length < sizeLine ∧ Q .non (upd H l (.lst (xs.take k.toNat ++ y :: xs.drop k.toNat)))
theorem mt_insert : MtM X "list.insert" rInsert := by
  intro pins s σ H x vs v us Q I rx rv h
  obtain ⟨l, xs, k, y, rfl, rfl, hH, h0, hk, hz, q⟩ := h
  cases rx
  obtain ⟨u1, u2, rfl, r1, r2⟩ := rv.two
  obtain ⟨t, rfl⟩ := r1
  obtain ⟨z, its, n, r, hl, e⟩ := I.lstM hH
  have hn := line63
  have hfit : ¬ (!Builtin.List.listFitsIndex k) = true := by
    rw [fitsIndex_both (by omega) (by omega)]
    exact Bool.false_ne_true
  refine call_meets F.slot_list_insert ⟨_, e, rfl⟩ F.entry_list_insert (F.args_list_insert_3 _ _ _) (AutoListH.list_insert_list_int_val_1 l its.toArray n k t u2 hfit (by rw [List.size_toArray]; omega)) ⟨e, ?_⟩
  refine ⟨.non, _, I.lset (its' := its.take k.toNat ++ u2 :: its.drop k.toNat) hH e ?_ ((r.take _).append (.cons r2 (r.drop _))) ?_, rfl, q⟩
  · dsimp only
    rw [if_neg (by omega), List.size_toArray, Nat.min_eq_left (by omega)]
    simp
    exact List.take_of_length_le (by rw [List.length_drop]; omega)
  · rw [List.length_append, List.length_cons, List.length_take, List.length_drop]
    omega
/-- sum of a list of ints -/
theorem ints_are : ∀ {ns : List Int} {us : List Value}, Vals (ns.map V.int) us → IntsAre us ns
  | [], _, .nil => .nil
  | n :: ns, _, .cons r rr => by
    obtain ⟨t, rfl⟩ := r
    exact .cons n t (ints_are rr)
end
end L2
namespace L2
open PySem PySem.Spec PyProof.Rows
theorem weight_nats : ∀ {ps : List Nat}, (∀ p ∈ ps, p < 1000) → PyData.weightAll ((ps.map fun (p : Nat) => ((p : Nat) : Int)).map PyData.int) ≤ 12 * ps.length
  | [], _ => by simp [PyData.weightAll]
  | p :: ps, h => by
    have ih := weight_nats (ps := ps) fun x hx => h x (List.mem_cons_of_mem _ hx)
    have hp := h p (by simp)
    have hw : PyData.weight (.int (p : Int)) ≤ 11 := by
      rw [PyData.weight]
      split
      · exact Nat.zero_le _
      · rename_i z
        have z' : p ≠ 0 := fun e => z (by rw [e]; rfl)
        have e : ((p : Int)).natAbs = p := rfl
        rw [e]
        have := (Nat.log2_lt z').mpr (show p < 2 ^ 10 by omega)
        omega
    rw [List.map_cons, List.map_cons, PyData.weightAll, List.length_cons]
    omega
theorem lay_nats {ps : List Nat} (h : ∀ p ∈ ps, p < 1000) (hl : ps.length ≤ 1000) : PyData.layable0 (.list ((ps.map fun (p : Nat) => ((p : Nat) : Int)).map PyData.int)) = true := by
  have h1 := PySem.W.shaped_ints (ps.map fun (p : Nat) => ((p : Nat) : Int))
  have h2 := weight_nats h
  have h3 : PyData.weight (.list ((ps.map fun (p : Nat) => ((p : Nat) : Int)).map PyData.int)) ≤ 2 ^ 20 := by
    rw [PyData.weight]; omega
  unfold PyData.layable0
  unfold SeqAt.shaped at h1
  rw [h1, decide_eq_true h3]
  rfl
section
variable {X : Cx}
/-- xs.index(k) of small whole numbers -/
def rIndex (K : PySem.W.Frag) : V → List V → Hp → VK → Prop := fun x vs H Q => ∃ (l : Addr) (ps : List Nat) (k : Nat), x = .ref l ∧ vs = [.int (k : Int)] ∧ SqL K H l (ps.map fun (p : Nat) => V.int (p : Int)) ∧ (∀ p ∈ ps, p < 1000) ∧ ps.length ≤ 1000 ∧ k ∈ ps ∧ Q (.int ((ps.idxOf k : Nat) : Int)) H
theorem idx_cast {ps : List Nat} {k : Nat} : (ps.map fun (p : Nat) => ((p : Nat) : Int)).idxOf (k : Int) = ps.idxOf k := by
  induction ps with
  | nil => rfl
  | cons p ps ih =>
    rw [List.map_cons, List.idxOf_cons, List.idxOf_cons, ih]
    have e : (((p : Nat) : Int) == (k : Int)) = (p == k) := by
      by_cases h : p = k
      · subst h; simp
      · have h2 : ¬ (p : Int) = (k : Int) := fun z => h (by omega)
        rw [beq_eq_false_iff_ne.mpr h, beq_eq_false_iff_ne.mpr h2]
    rw [e]
theorem mt_index : MtM X "list.index" (rIndex X.K) := by
  intro pins s σ H x vs v us Q I rx rv h
  obtain ⟨l, ps, k, rfl, rfl, hq, hs, hl, hk, q⟩ := h
  cases rx
  obtain ⟨u, rfl, ru⟩ := rv.one
  obtain ⟨t, rfl⟩ := ru
  have e : (ps.map fun (p : Nat) => V.int (p : Int)) = (ps.map fun (p : Nat) => ((p : Nat) : Int)).map V.int := by rw [List.map_map]; rfl
  rw [e] at hq
  obtain ⟨its, r, pl, hz⟩ := I.list hq
  refine index_list_ints pl.isList (ints_are r) (lay_nats hs hl) (List.mem_map.mpr ⟨k, hk, rfl⟩) ?_
  rw [idx_cast]
  exact ⟨.int _, H, I.tok _, ⟨_, rfl⟩, q⟩
end
end L2

namespace L2
open PySem PySem.Spec PyProof.Rows
theorem vals_of : ∀ {us : List Value} {ns : List Int}, IntsAre us ns → Vals (ns.map V.int) us
  | _, _, .nil => .nil
  | _, _, .cons _ t r => .cons ⟨t, rfl⟩ (vals_of r)
section
variable {X : Cx}
end
end L2
namespace L2
open PySem PySem.Spec PyProof.Rows
section
variable {X : Cx} {tg : Expr}
end
end L2

namespace L2
open PySem PySem.Spec PyProof.Rows
section
variable {X : Cx}
end
end L2
namespace L2
open PySem PySem.Spec PyProof.Rows
/-! ### zip(list, list), walked by a pair of names -/
section
variable {X : Cx}
end
section
variable {X : Cx}
end
end L2
/-! ### lists of things of one kind -/
namespace L2
open PySem PySem.Spec PyProof.Rows
end L2

namespace L2
open PySem PySem.Spec PyProof.Rows
theorem vals_by : ∀ {ys : List V} {us : List Value}, ys.length = us.length → (∀ (i : Nat) (y : V) (u : Value), ys[i]? = some y → us[i]? = some u → RelV y u) → Vals ys us
  | [], [], _, _ => .nil
  | [], _ :: _, e, _ => by cases e
  | _ :: _, [], e, _ => by cases e
  | y :: ys, u :: us, e, h => .cons (h 0 y u rfl rfl) (vals_by (Nat.succ.inj e) fun i y u a b => h (i + 1) y u a b)
section
variable {X : Cx}
/-- list(range(e)) -/
theorem pe_listrange {e : Expr} {te : TE} {p p2 pos pos2 : Pos} (hc : X.calm = true) (hg : Gl X "list") (hm : X.mg "list" = none) (hg2 : Gl X "range") (hm2 : X.mg "range" = none) (he : PE X e te)
    (h1 : starEach [.Call (.Name "range" p2) [e] [] pos2] X.env = [(false, eval (.Call (.Name "range" p2) [e] [] pos2) X.env)] := by rfl) (h2 : starEach [e] X.env = (false, eval e X.env) :: starEach [] X.env := by rfl) :
    PE X (.Call (.Name "list" p) [.Call (.Name "range" p2) [e] [] pos2] [] pos) (fun σ H Q => te σ H fun x H1 => ∃ n : Nat, x = .int (n : Int) ∧ n ≤ 1000 ∧ ∀ q, H1 q = none → Q (.ref q) (upd H1 q (.lst ((List.range n).map fun (i : Nat) => V.int ((i : Nat) : Int))))) := by
  intro pins s σ H Q I h
  refine wpAny_Call_Name_kw (ld_blt I hg hm bt_list ?_)
  refine PyProof.Rows.callWith_type1 ?_ h1 rfl
  rw [h1]
  refine Calls.spliced_cons ?_
  refine wpAny_Call_Name_kw (ld_blt I hg2 hm2 boot_range ?_)
  refine PyProof.Rows.callWith_type1 ?_ h2 rfl
  rw [h2]
  refine Calls.spliced_cons (thn (he pins s σ H _ I h) fun u s1 ⟨x, H1, I1, r1, q1⟩ => ?_)
  obtain ⟨n, rfl, hn, q⟩ := q1
  obtain ⟨t, rfl⟩ := r1
  refine Calls.spliced_nil ?_
  refine call_range_1 ?_
  refine Calls.spliced_nil ?_
  have I2 : Inv X pins σ H1 { s1 with heap := s1.heap.push { cls := .type "range", data := .fields #[.int 0 s1.toks, .int (n : Int) t, .int 1 (s1.toks + 1)] }, toks := s1.toks + 1 + 1 } := I1.kept fun b o e => Heap.get?_push_of_some _ e
  refine call_list_range (n := n) (I.ok.hd hc) (IsRange.new ..) (small_one (by omega) (by omega) (by omega) (by omega)) (by rw [rangeSize_one]; split <;> omega) (by omega) fun h' tk acc' c' hk hS hacc => ?_
  have I3 : Inv X pins σ H1 { s1 with heap := h', toks := tk } := I2.kept (t' := tk) fun b o e => hk b o e
  have fS := I2.fpOk (H' := H1) (Nat.le_refl _) (I2.hok.fresh (Nat.le_refl _))
  have hz : ((List.range n).map fun (i : Nat) => V.int ((i : Nat) : Int)).length ≤ sizeLine := by
    rw [List.length_map, List.length_range]
    exact Nat.le_trans hn (by decide)
  have hv : Vals ((List.range n).map fun (i : Nat) => V.int ((i : Nat) : Int)) acc'.toList := by
    refine vals_by (by rw [List.length_map, List.length_range, Array.length_toList, hacc.1]) fun i y u a b => ?_
    rw [Array.getElem?_toList] at b
    obtain ⟨tk', e⟩ := hacc.2 i u b
    rw [List.getElem?_map] at a
    obtain ⟨j, a1, a2⟩ := Option.map_eq_some_iff.mp a
    have hi : i < n := by
      have := (List.getElem?_eq_some_iff.mp a1).1
      rwa [List.length_range] at this
    rw [List.getElem?_range hi] at a1
    cases a1
    subst a2
    subst e
    exact ⟨tk', by rw [Int.zero_add, Int.mul_one]⟩
  have I4 := I3.track (o := .lst ((List.range n).map fun (i : Nat) => V.int ((i : Nat) : Int))) fS ⟨hz, acc'.toList, c', hv, by rw [Array.toArray_toList]; exact hS⟩
  exact ⟨.ref _, _, I4, rfl, q _ fS.1⟩
end
/-! ### a for whose iterable may raise, and whose body does not -/
section
variable {X : Cx} {tg : Expr}
end
/-! ### a def with defaults -/
section
variable {P : Program} {w : World} {K : PySem.W.Frag} {mg : Str → Option Value} {base : Heap}
end
end L2

namespace PyProof.Rows
open PySem
local macro_rules | `(tactic| walk_at "gallop") => do
  let n := Lean.mkIdent (Lean.mkPrivateNameCore `PySem.Builtin.List.W1All `PySem.Builtin.gallop)
  `(tactic| delta $n)
local macro_rules | `(tactic| walk_at "st") => `(tactic| try dsimp -zeta -zetaHave only)
local macro_rules | `(tactic| walk_at "l4") => `(tactic| (extract_lets -underBinder +onlyGivenNames a b; subst a b))
abbrev gallop' : Bool → Keyed → Array Keyed → Nat → Nat → Nat → StateT SortSt Sem (Option Nat) := sortPriv% PySem.Builtin.gallop
def IntP (p : Keyed) : Prop := ∃ n t, p.1 = .int n t
def ky (p : Keyed) : Int := numOf p.1
theorem wpS_pos {σ α : Type} {M : Model} {A : Around} {E : Value → Shared → Prop} {s : Shared} {c : Prop} [Decidable c] {a b : StateT σ Sem α} {Q : α → σ → Prop} {st : σ} (h : c) (q : wpS M A E s a Q st) : wpS M A E s (if c then a else b) Q st := by rw [if_pos h]; exact q
theorem wpS_neg {σ α : Type} {M : Model} {A : Around} {E : Value → Shared → Prop} {s : Shared} {c : Prop} [Decidable c] {a b : StateT σ Sem α} {Q : α → σ → Prop} {st : σ} (h : ¬ c) (q : wpS M A E s b Q st) : wpS M A E s (if c then a else b) Q st := by rw [if_neg h]; exact q
variable {prog : Program} {w : World} {A : Around} {E : Value → Shared → Prop} {s : Shared}
theorem wpS_lt2 {st : SortSt} {x y : Keyed} {Q : Option Bool → SortSt → Prop} (hk : kindOf st = oneType') (hx : IntP x) (hy : IntP y) (h : Q (some (decide (ky x < ky y))) st) : wpS (model prog w) A E s ((sortPriv% PySem.Builtin.lt) x y) Q st := by
  show wpS (model prog w) A E s (lt' x y) Q st
  obtain ⟨n, t, hx⟩ := hx
  obtain ⟨m, u, hy⟩ := hy
  rw [lt'_eq]
  refine wpS_bind (wpS_get ?_)
  unfold ky at h
  rw [hx, hy] at h
  rw [hk, keyLt'_oneType, hx, hy]
  refine wpS_bind (wpS_lift (wpAny_attempt (oneLt_int ⟨rfl, ?_⟩)))
  exact wpS_pure h
theorem wpS_elem2 {st : SortSt} {arr : Array Keyed} {i : Nat} {p : Keyed} {Q : Keyed → SortSt → Prop} (hi : arr[i]? = some p) (h : Q p st) : wpS (model prog w) A E s ((sortPriv% PySem.Builtin.elem) arr i) Q st := by
  show wpS (model prog w) A E s (elem' arr i) Q st
  rw [elem'_eq, hi]
  exact wpS_pure h
/-- where a key belongs in a row that rises -/
theorem wpS_gallop {st : SortSt} {left : Bool} {key : Keyed} {arr : Array Keyed} {base n hint : Nat} {Q : Option Nat → SortSt → Prop} (f : Nat → Bool) (hk : kindOf st = oneType') (hkey : IntP key) (hin : ∀ i, i < n → ∃ p, arr[base + i]? = some p ∧ IntP p ∧ f i = if left then decide (ky p < ky key) else !decide (ky key < ky p))
    (mono : ∀ i j, i ≤ j → j < n → f j = true → f i = true) (hh : hint < n) (h : ∀ k, k ≤ n → (∀ i, i < k → f i = true) → (∀ i, k ≤ i → i < n → f i = false) → Q (some k) st) :
    wpS (model prog w) A E s (gallop' left key arr base n hint) Q st := by
  unfold gallop'
  walk_at "gallop"
  extract_lets -underBinder +onlyGivenNames beyond
  clear_value (eb : beyond = _)
  have hb : ∀ (i : Nat) (Q' : Option Bool → SortSt → Prop), i < n → Q' (some (f i)) st → wpS (model prog w) A E s (beyond i) Q' st := by
    intro i Q' hi q
    obtain ⟨p, hp, ip, ef⟩ := hin i hi
    rw [eb]
    refine wpS_bind (wpS_elem2 hp ?_)
    rw [ef] at q
    cases left with
    | true => exact wpS_lt2 hk ip hkey q
    | false => exact wpS_bind (wpS_lt2 hk hkey ip (wpS_pure q))
  clear eb
  walk_at "l4"
  refine wpS_bind (hb hint _ hh ?_)
  walk_at "st"
  have nmono : ∀ i j, i ≤ j → j < n → f i = false → f j = false := fun i j hij hj e => by
    cases z : f j with
    | false => rfl
    | true => rw [mono i j hij hj z] at e; cases e
  extract_lets -underBinder +onlyGivenNames jp
  clear_value (ej : jp = _)
  have hj : ∀ (u : Unit) (a0 a1 lo hi : Nat), lo ≤ hi → hi ≤ n → (∀ i, i < lo → f i = true) → (∀ i, hi ≤ i → i < n → f i = false) → wpS (model prog w) A E s (jp u a0 a1 lo hi) Q st := by
    intro u a0 a1 lo hi h1 h2 h3 h4
    rw [ej]
    dsimp only
    refine wpS_bind (wpS_mono (wpS_forRange (I := fun x c st' => st' = st ∧ ∃ l r, c = (none, l, r) ∧ l ≤ r ∧ r ≤ n ∧ r - l ≤ n - x ∧ (∀ i, i < l → f i = true) ∧ (∀ i, r ≤ i → i < n → f i = false))
      (Q := fun c st' => st' = st ∧ ∃ l, c = (none, l, l) ∧ l ≤ n ∧ (∀ i, i < l → f i = true) ∧ (∀ i, l ≤ i → i < n → f i = false)) ?step ?fin ⟨rfl, lo, hi, rfl, h1, h2, by omega, h3, h4⟩) ?post)
    case post =>
      rintro c st' ⟨rfl, l, rfl, g1, g2, g3⟩
      exact wpS_pure (h l g1 g2 g3)
    case fin =>
      rintro c st' ⟨rfl, l, r, rfl, g1, g2, g3, g4, g5⟩
      have : l = r := by omega
      subst this
      exact ⟨rfl, l, rfl, g2, g4, g5⟩
    case step =>
      rintro x c st' _ hx ⟨rfl, l, r, rfl, g1, g2, g3, g4, g5⟩
      dsimp only
      by_cases z : l ≥ r
      · refine wpS_pos z ?_
        have : l = r := by omega
        subst this
        exact wpS_pure ⟨rfl, l, rfl, g2, g4, g5⟩
      · refine wpS_neg z ?_
        refine wpS_bind (hb _ _ (by omega) ?_)
        cases e : f (l + (r - l) / 2) with
        | true => exact wpS_pure ⟨rfl, _, r, rfl, by omega, g2, by omega, fun i hi => mono i _ (by omega) (by omega) e, g5⟩
        | false => exact wpS_pure ⟨rfl, l, _, rfl, by omega, by omega, by omega, g4, fun i h1 h2 => nmono _ i h1 h2 e⟩
  clear ej
  cases er : f hint with
  | true =>
    refine wpS_pos rfl ?_
    dsimp only
    refine wpS_bind (wpS_mono (wpS_forRange (I := fun x c st' => st' = st ∧ ∃ l o, c = (none, l, o) ∧ l < o ∧ x + 1 ≤ o ∧ hint + l < n ∧ f (hint + l) = true)
      (Q := fun c st' => st' = st ∧ ∃ l o, c = (none, l, o) ∧ l < o ∧ hint + l < n ∧ f (hint + l) = true ∧ (n - hint ≤ o ∨ f (hint + o) = false)) ?step ?fin ⟨rfl, 0, 1, rfl, by omega, by omega, by omega, er⟩) ?post)
    case post =>
      rintro c st' ⟨rfl, l, o, rfl, g1, g2, g3, g4⟩
      dsimp only
      refine hj _ _ _ _ _ (by omega) (by omega) (fun i hi => mono i _ (by omega) g2 g3) fun i h1 h2 => ?_
      rcases g4 with g4 | g4
      · omega
      · exact nmono (hint + o) i (by omega) h2 g4
    case fin =>
      rintro c st' ⟨rfl, l, o, rfl, g1, g2, g3, g4⟩
      exact ⟨rfl, l, o, rfl, g1, g3, g4, .inl (by omega)⟩
    case step =>
      rintro x c st' _ hx ⟨rfl, l, o, rfl, g1, g2, g3, g4⟩
      dsimp only
      by_cases z : o ≥ n - hint
      · refine wpS_pos z ?_
        exact wpS_pure ⟨rfl, l, o, rfl, g1, g3, g4, .inl z⟩
      · refine wpS_neg z ?_
        refine wpS_bind (hb _ _ (by omega) ?_)
        cases e : f (hint + o) with
        | true => exact wpS_pure ⟨rfl, _, _, rfl, by omega, by omega, by omega, e⟩
        | false => exact wpS_pure ⟨rfl, l, o, rfl, g1, g3, g4, .inr e⟩
  | false =>
    refine wpS_neg Bool.false_ne_true ?_
    dsimp only
    refine wpS_bind (wpS_mono (wpS_forRange (I := fun x c st' => st' = st ∧ ∃ l o, c = (none, l, o) ∧ l < o ∧ x + 1 ≤ o ∧ l ≤ hint ∧ f (hint - l) = false)
      (Q := fun c st' => st' = st ∧ ∃ l o, c = (none, l, o) ∧ l < o ∧ l ≤ hint ∧ f (hint - l) = false ∧ (hint + 1 ≤ o ∨ f (hint - o) = true)) ?step ?fin ⟨rfl, 0, 1, rfl, by omega, by omega, by omega, er⟩) ?post)
    case post =>
      rintro c st' ⟨rfl, l, o, rfl, g1, g2, g3, g4⟩
      dsimp only
      refine hj _ _ _ _ _ (by omega) (by omega) (fun i hi => ?_) fun i h1 h2 => nmono _ i h1 h2 g3
      rcases g4 with g4 | g4
      · omega
      · exact mono i (hint - o) (by omega) (by omega) g4
    case fin =>
      rintro c st' ⟨rfl, l, o, rfl, g1, g2, g3, g4⟩
      exact ⟨rfl, l, o, rfl, g1, g3, g4, .inl (by omega)⟩
    case step =>
      rintro x c st' _ hx ⟨rfl, l, o, rfl, g1, g2, g3, g4⟩
      dsimp only
      by_cases z : o ≥ hint + 1
      · refine wpS_pos z ?_
        exact wpS_pure ⟨rfl, l, o, rfl, g1, g3, g4, .inl z⟩
      · refine wpS_neg z ?_
        refine wpS_bind (hb _ _ (by omega) ?_)
        cases e : f (hint - o) with
        | true => exact wpS_pure ⟨rfl, l, o, rfl, g1, g3, g4, .inr e⟩
        | false => exact wpS_pure ⟨rfl, _, _, rfl, by omega, by omega, by omega, e⟩
/-! the mathematics of joining two rows that rise -/
def Upl (l : List Keyed) : Prop := l.Pairwise fun x y => ky x ≤ ky y
structure LM (P R o : List Keyed) (i j : Nat) : Prop where
  pm : o.Perm (P.take i ++ R.take j)
  up : Upl o
  la : ∀ x ∈ o, ∀ y ∈ P.drop i, ky x ≤ ky y
  lb : ∀ x ∈ o, ∀ y ∈ R.drop j, ky x ≤ ky y
theorem LM.swap {P R o : List Keyed} {i j : Nat} (h : LM P R o i j) : LM R P o j i := ⟨h.pm.trans List.perm_append_comm, h.up, h.lb, h.la⟩
theorem LM.a {P R o : List Keyed} {i j : Nat} (h : LM P R o i j) (u : Upl P) (k : Nat) (c : ∀ x ∈ (P.drop i).take k, ∀ y ∈ R.drop j, ky x ≤ ky y) : LM P R (o ++ (P.drop i).take k) (i + k) j where
  pm := by
    rw [List.take_add, List.append_assoc]
    refine (h.pm.append_right _).trans ?_
    rw [List.append_assoc]
    exact List.Perm.append_left _ List.perm_append_comm
  up := List.pairwise_append.mpr ⟨h.up, (u.drop).take, fun x hx y hy => h.la x hx y (List.mem_of_mem_take hy)⟩
  la := fun x hx y hy => by
    rw [← List.drop_drop] at hy
    rcases List.mem_append.mp hx with hx | hx
    · exact h.la x hx y (List.mem_of_mem_drop hy)
    · have z : Upl ((P.drop i).take k ++ (P.drop i).drop k) := by rw [List.take_append_drop]; exact u.drop
      exact (List.pairwise_append.mp z).2.2 x hx y hy
  lb := fun x hx y hy => by
    rcases List.mem_append.mp hx with hx | hx
    · exact h.lb x hx y hy
    · exact c x hx y hy
theorem LM.fin {P R o : List Keyed} {i j : Nat} (h : LM P R o i j) (u : Upl P) (v : Upl R) (c : ∀ x ∈ P.drop i, ∀ y ∈ R.drop j, ky x ≤ ky y) : (o ++ P.drop i ++ R.drop j).Perm (P ++ R) ∧ Upl (o ++ P.drop i ++ R.drop j) := by
  constructor
  · refine ((h.pm.append_right _).append_right _).trans ?_
    have e : P ++ R = (P.take i ++ P.drop i) ++ (R.take j ++ R.drop j) := by rw [List.take_append_drop, List.take_append_drop]
    rw [e, ← List.append_assoc]
    refine List.Perm.append_right _ ?_
    rw [List.append_assoc, List.append_assoc]
    exact List.Perm.append_left _ List.perm_append_comm
  · refine List.pairwise_append.mpr ⟨List.pairwise_append.mpr ⟨h.up, u.drop, h.la⟩, v.drop, fun x hx y hy => ?_⟩
    rcases List.mem_append.mp hx with hx | hx
    · exact h.lb x hx y hy
    · exact c x hx y hy
end PyProof.Rows
namespace PyProof.Rows
open PySem
local macro_rules | `(tactic| walk_at "setG") => do
  let n := Lean.mkIdent (Lean.mkPrivateNameCore `PySem.Builtin.List.W1All `PySem.Builtin.setMinGallop)
  `(tactic| delta $n)
local macro_rules | `(tactic| walk_at "mergeLo") => do
  let n := Lean.mkIdent (Lean.mkPrivateNameCore `PySem.Builtin.List.W1All `PySem.Builtin.mergeLo)
  `(tactic| delta $n)
local macro_rules | `(tactic| walk_at "st") => `(tactic| try dsimp -zeta -zetaHave only)
local macro_rules | `(tactic| walk_at "l3") => `(tactic| (extract_lets -underBinder +onlyGivenNames a b c; subst a b c))
local macro_rules | `(tactic| walk_at "l11") => `(tactic| (extract_lets -underBinder +onlyGivenNames a b c d e f g h i j k; subst a b c d e f g h i j k; dsimp -zeta -zetaHave only))
variable {prog : Program} {w : World} {A : Around} {E : Value → Shared → Prop} {s : Shared}
/-- all but the least gallop is as it was -/
structure SmG (st st' : SortSt) : Prop where
  k : kindOf st' = kindOf st
  a : arrOf st' = arrOf st
  p : pendingOf st' = pendingOf st
  f : failedOf st' = failedOf st
theorem SmG.rfl' (st : SortSt) : SmG st st := ⟨rfl, rfl, rfl, rfl⟩
theorem SmG.trans {a b c : SortSt} (h : SmG a b) (g : SmG b c) : SmG a c := ⟨g.k.trans h.k, g.a.trans h.a, g.p.trans h.p, g.f.trans h.f⟩
theorem wpS_setG {st : SortSt} {g : Nat} {Q : Unit → SortSt → Prop} (h : ∀ st', SmG st st' → Q () st') : wpS (model prog w) A E s ((sortPriv% PySem.Builtin.setMinGallop) g) Q st := by
  walk_at "setG"
  exact wpS_modify (h _ ⟨rfl, rfl, rfl, rfl⟩)
theorem ext_all (a : Array Keyed) (i : Nat) : (a.extract i).toList = a.toList.drop i := by
  rw [Array.toList_extract, List.extract_eq_drop_take]
  exact List.take_of_length_le (by rw [List.length_drop]; exact Nat.le_refl _)
theorem ext_some (a : Array Keyed) (i k : Nat) : (a.extract i (i + k)).toList = (a.toList.drop i).take k := by
  rw [Array.toList_extract, List.extract_eq_drop_take]
  congr 1
  omega
theorem take_one' {P : List Keyed} {i : Nat} {x : Keyed} (h : P[i]? = some x) : (P.drop i).take 1 = [x] := by
  have hi := (List.getElem?_eq_some_iff.mp h).1
  rw [List.drop_eq_getElem_cons hi]
  rw [List.getElem?_eq_getElem hi] at h
  cases h
  rfl
theorem LM.a1 {P R o : List Keyed} {i j : Nat} {x : Keyed} (h : LM P R o i j) (u : Upl P) (hx : P[i]? = some x) (c : ∀ y ∈ R.drop j, ky x ≤ ky y) : LM P R (o ++ [x]) (i + 1) j := by
  have := h.a u 1 (by rw [take_one' hx]; intro z hz; rw [List.mem_singleton.mp hz]; exact c)
  rwa [take_one' hx] at this
theorem up_drop {P : List Keyed} {i : Nat} {x : Keyed} (u : Upl P) (hx : P[i]? = some x) : ∀ y ∈ P.drop i, ky x ≤ ky y := by
  have hi := (List.getElem?_eq_some_iff.mp hx).1
  have z : Upl (P.drop i) := u.drop
  rw [List.drop_eq_getElem_cons hi] at z ⊢
  rw [List.getElem?_eq_getElem hi] at hx
  cases hx
  intro y hy
  rcases List.mem_cons.mp hy with rfl | hy
  · exact Int.le_refl _
  · exact (List.pairwise_cons.mp z).1 y hy
theorem mem_tk {P : List Keyed} {i k : Nat} {x : Keyed} (h : x ∈ (P.drop i).take k) : ∃ m, m < k ∧ P[i + m]? = some x := by
  obtain ⟨m, hm, e⟩ := List.getElem_of_mem h
  rw [List.length_take, List.length_drop] at hm
  refine ⟨m, by omega, ?_⟩
  rw [List.getElem_take, List.getElem_drop] at e
  rw [List.getElem?_eq_getElem (by omega), e]
theorem up_at {P : List Keyed} {i j : Nat} {x y : Keyed} (u : Upl P) (hx : P[i]? = some x) (hy : P[j]? = some y) (h : i ≤ j) : ky x ≤ ky y := up_drop u hx y (by
  have hj := (List.getElem?_eq_some_iff.mp hy).1
  refine List.mem_of_getElem? (i := j - i) ?_
  rw [List.getElem?_drop, show i + (j - i) = j by omega, hy])
theorem mem_dr {P : List Keyed} {i : Nat} {x : Keyed} (h : x ∈ P.drop i) : ∃ m, P[i + m]? = some x := by
  obtain ⟨m, hm⟩ := List.getElem?_of_mem h
  exact ⟨m, by rw [← hm, List.getElem?_drop]⟩
/-- not above v -/
def fR (P : List Keyed) (i : Nat) (v : Keyed) (m : Nat) : Bool := match P[i + m]? with | some p => !decide (ky v < ky p) | none => false
/-- below v -/
def fL (P : List Keyed) (i : Nat) (v : Keyed) (m : Nat) : Bool := match P[i + m]? with | some p => decide (ky p < ky v) | none => false
theorem fR_at {P : List Keyed} {i m : Nat} {v p : Keyed} (h : P[i + m]? = some p) : fR P i v m = !decide (ky v < ky p) := by unfold fR; rw [h]
theorem fL_at {P : List Keyed} {i m : Nat} {v p : Keyed} (h : P[i + m]? = some p) : fL P i v m = decide (ky p < ky v) := by unfold fL; rw [h]
theorem fR_mono {P : List Keyed} {i : Nat} {v : Keyed} (u : Upl P) {n : Nat} (hn : i + n ≤ P.length) : ∀ x y, x ≤ y → y < n → fR P i v y = true → fR P i v x = true := fun x y hxy hy e => by
  have hx : P[i + x]? = some P[i + x] := List.getElem?_eq_getElem (by omega)
  have hy' : P[i + y]? = some P[i + y] := List.getElem?_eq_getElem (by omega)
  rw [fR_at hy'] at e
  rw [fR_at hx]
  have := up_at u hx hy' (by omega)
  simp only [Bool.not_eq_true', decide_eq_false_iff_not] at e ⊢
  omega
theorem fL_mono {P : List Keyed} {i : Nat} {v : Keyed} (u : Upl P) {n : Nat} (hn : i + n ≤ P.length) : ∀ x y, x ≤ y → y < n → fL P i v y = true → fL P i v x = true := fun x y hxy hy e => by
  have hx : P[i + x]? = some P[i + x] := List.getElem?_eq_getElem (by omega)
  have hy' : P[i + y]? = some P[i + y] := List.getElem?_eq_getElem (by omega)
  rw [fL_at hy'] at e
  rw [fL_at hx]
  have := up_at u hx hy' (by omega)
  simp only [decide_eq_true_eq] at e ⊢
  omega
theorem fR_lo {P : List Keyed} {i k : Nat} {v : Keyed} (h : ∀ m, m < k → fR P i v m = true) : ∀ x ∈ (P.drop i).take k, ky x ≤ ky v := fun x hx => by
  obtain ⟨m, hm, e⟩ := mem_tk hx
  have := h m hm
  rw [fR_at e] at this
  simp only [Bool.not_eq_true', decide_eq_false_iff_not] at this
  omega
theorem fL_lo {P : List Keyed} {i k : Nat} {v : Keyed} (h : ∀ m, m < k → fL P i v m = true) : ∀ x ∈ (P.drop i).take k, ky x < ky v := fun x hx => by
  obtain ⟨m, hm, e⟩ := mem_tk hx
  have := h m hm
  rw [fL_at e] at this
  simpa using this
theorem fR_hi {P : List Keyed} {i k n : Nat} {v : Keyed} (hn : P.length ≤ i + n) (h : ∀ m, k ≤ m → m < n → fR P i v m = false) : ∀ y ∈ P.drop (i + k), ky v < ky y := fun y hy => by
  obtain ⟨m, e⟩ := mem_dr hy
  have hl := (List.getElem?_eq_some_iff.mp e).1
  have := h (k + m) (by omega) (by omega)
  rw [fR_at (show P[i + (k + m)]? = some y by rw [← Nat.add_assoc]; exact e)] at this
  simpa using this
theorem fL_hi {P : List Keyed} {i k n : Nat} {v : Keyed} (hn : P.length ≤ i + n) (h : ∀ m, k ≤ m → m < n → fL P i v m = false) : ∀ y ∈ P.drop (i + k), ky v ≤ ky y := fun y hy => by
  obtain ⟨m, e⟩ := mem_dr hy
  have hl := (List.getElem?_eq_some_iff.mp e).1
  have := h (k + m) (by omega) (by omega)
  rw [fL_at (show P[i + (k + m)]? = some y by rw [← Nat.add_assoc]; exact e)] at this
  simp only [decide_eq_false_iff_not] at this
  omega
theorem wpS_galR {st : SortSt} {key : Keyed} {arr : Array Keyed} {base n hint : Nat} {Q : Option Nat → SortSt → Prop} (hk : kindOf st = oneType') (hkey : IntP key) (u : Upl arr.toList) (ip : ∀ x ∈ arr.toList, IntP x) (hn : base + n ≤ arr.size) (hh : hint < n)
    (h : ∀ k, k ≤ n → (∀ i, i < k → fR arr.toList base key i = true) → (∀ i, k ≤ i → i < n → fR arr.toList base key i = false) → Q (some k) st) : wpS (model prog w) A E s ((sortPriv% PySem.Builtin.gallop) false key arr base n hint) Q st :=
  have la : arr.toList.length = arr.size := by simp
  wpS_gallop (fR arr.toList base key) hk hkey (fun i hi => by
    have hx : arr.toList[base + i]? = some arr.toList[base + i] := List.getElem?_eq_getElem (by omega)
    exact ⟨_, by rw [← hx]; simp, ip _ (List.getElem_mem _), by rw [fR_at hx]; rfl⟩) (fR_mono u (by omega)) hh h
theorem wpS_galL {st : SortSt} {key : Keyed} {arr : Array Keyed} {base n hint : Nat} {Q : Option Nat → SortSt → Prop} (hk : kindOf st = oneType') (hkey : IntP key) (u : Upl arr.toList) (ip : ∀ x ∈ arr.toList, IntP x) (hn : base + n ≤ arr.size) (hh : hint < n)
    (h : ∀ k, k ≤ n → (∀ i, i < k → fL arr.toList base key i = true) → (∀ i, k ≤ i → i < n → fL arr.toList base key i = false) → Q (some k) st) : wpS (model prog w) A E s ((sortPriv% PySem.Builtin.gallop) true key arr base n hint) Q st :=
  have la : arr.toList.length = arr.size := by simp
  wpS_gallop (fL arr.toList base key) hk hkey (fun i hi => by
    have hx : arr.toList[base + i]? = some arr.toList[base + i] := List.getElem?_eq_getElem (by omega)
    exact ⟨_, by rw [← hx]; simp, ip _ (List.getElem_mem _), by rw [fL_at hx]; rfl⟩) (fL_mono u (by omega)) hh h
theorem ite_jp {σ α β : Type} {M : Model} {c : Prop} [Decidable c] {F : α → StateT σ Sem β} {x y : α} {Q : β → σ → Prop} {st : σ} (h : ∀ z, wpS M A E s (F z) Q st) : wpS M A E s (if c then F x else F y) Q st := by
  split <;> exact h _
theorem wpS_abs {σ α : Type} {M : Model} {m : StateT σ Sem α} {Q : α → σ → Prop} {st : σ} (h : ∀ R : α → σ → Prop, (∀ a st', Q a st' → R a st') → wpS M A E s m R st) : wpS M A E s m Q st := h Q fun _ _ q => q
def mergeLo2 : Array Keyed → Array Keyed → StateT SortSt Sem (Array Keyed) := sortPriv% PySem.Builtin.mergeLo
theorem at_l {a : Array Keyed} {i : Nat} {x : Keyed} (h : a.toList[i]? = some x) : a[i]? = some x := by rw [← h]; simp
theorem wpS_mergeLo {st : SortSt} {a b : Array Keyed} {Q : Array Keyed → SortSt → Prop} (hk : kindOf st = oneType') (ua : Upl a.toList) (ub : Upl b.toList) (ia : ∀ x ∈ a.toList, IntP x) (ib : ∀ x ∈ b.toList, IntP x) (a1 : 1 ≤ a.size) (b1 : 1 ≤ b.size)
    (h0 : ∀ x y : Keyed, b.toList[0]? = some x → y ∈ a.toList → ky x ≤ ky y) (hst : ∀ x y : Keyed, x ∈ b.toList → a.toList[a.size - 1]? = some y → ky x < ky y)
    (h : ∀ R st', SmG st st' → R.toList.Perm (a.toList ++ b.toList) → Upl R.toList → Q R st') : wpS (model prog w) A E s (mergeLo2 a b) Q st := by
  unfold mergeLo2
  walk_at "mergeLo"
  have la : a.toList.length = a.size := by simp
  have lb : b.toList.length = b.size := by simp
  have atA : ∀ i, i < a.size → ∃ x, a.toList[i]? = some x ∧ IntP x := fun i hi => ⟨_, List.getElem?_eq_getElem (by omega), ia _ (List.getElem_mem _)⟩
  have atB : ∀ i, i < b.size → ∃ x, b.toList[i]? = some x ∧ IntP x := fun i hi => ⟨_, List.getElem?_eq_getElem (by omega), ib _ (List.getElem_mem _)⟩
  -- the two ends
  have dn : ∀ (o : Array Keyed) (i j : Nat) (st' : SortSt), SmG st st' → LM a.toList b.toList o.toList i j → j = b.size → Q (o ++ a.extract i ++ b.extract j) st' := by
    intro o i j st' sg lm e
    have nb : b.toList.drop j = [] := List.drop_eq_nil_of_le (by omega)
    obtain ⟨g1, g2⟩ := lm.fin ua ub (by rw [nb]; intro x _ y hy; cases hy)
    refine h _ st' sg ?_ ?_
    · rw [Array.toList_append, Array.toList_append, ext_all, ext_all]; exact g1
    · rw [Array.toList_append, Array.toList_append, ext_all, ext_all]; exact g2
  have ls : ∀ (o : Array Keyed) (i j : Nat) (st' : SortSt), SmG st st' → LM a.toList b.toList o.toList i j → i + 1 = a.size → Q (o ++ b.extract j ++ a.extract i) st' := by
    intro o i j st' sg lm e
    obtain ⟨z, hz, _⟩ := atA i (by omega)
    have na : a.toList.drop i = [z] := by
      rw [← take_one' hz]
      exact (List.take_of_length_le (by rw [List.length_drop]; omega)).symm
    obtain ⟨g1, g2⟩ := lm.swap.fin ub ua (by
      rw [na]
      intro x hx y hy
      rw [List.mem_singleton.mp hy]
      exact Int.le_of_lt (hst x z (List.mem_of_mem_drop hx) (by rw [← e]; exact hz)))
    refine h _ st' sg ?_ ?_
    · rw [Array.toList_append, Array.toList_append, ext_all, ext_all]; exact g1.trans List.perm_append_comm
    · rw [Array.toList_append, Array.toList_append, ext_all, ext_all]; exact g2
  refine wpS_bind (wpS_lift (wpAny_rule ⟨rfl, ?_⟩))
  obtain ⟨y0, hy0, iy0⟩ := atB 0 (by omega)
  walk_at "l3"
  refine wpS_bind (wpS_elem2 (at_l hy0) ?_)
  have m0 : LM a.toList b.toList [y0] 0 1 := ⟨by rw [List.take_zero, List.nil_append, ← take_one' hy0]; exact List.Perm.refl _, List.pairwise_singleton .., fun x hx y hy => by rw [List.mem_singleton.mp hx]; exact h0 y0 y hy0 hy, fun x hx y hy => by
    rw [List.mem_singleton.mp hx]
    exact up_drop ub hy0 y (List.mem_of_mem_drop hy)⟩
  by_cases c1 : (1 == b.size) = true
  · refine wpS_pos c1 ?_
    exact wpS_pure (dn _ _ _ _ (SmG.rfl' _) m0 (by simpa using c1))
  refine wpS_neg c1 ?_
  have c1' : 1 ≠ b.size := by simpa using c1
  by_cases c2 : (0 + 1 == a.size) = true
  · refine wpS_pos c2 ?_
    exact wpS_pure (ls _ _ _ _ (SmG.rfl' _) m0 (by simpa using c2))
  refine wpS_neg c2 ?_
  have c2' : 0 + 1 ≠ a.size := by simpa using c2
  refine wpS_bind (wpS_get ?_)
  refine wpS_bind (wpS_mono (wpS_forRange (I := fun x c st' => SmG st st' ∧ ∃ (o : Array Keyed) (i j g : Nat), c = (none, o, i, j, g) ∧ LM a.toList b.toList o.toList i j ∧ i + 1 < a.size ∧ j < b.size ∧ x + 1 ≤ i + j)
    (Q := fun c st' => ∃ (r : Array Keyed) (z : Array Keyed × Nat × Nat × Nat), c = (some r, z) ∧ Q r st') ?step ?fin ⟨SmG.rfl' _, _, _, _, _, rfl, m0, by omega, by omega, by omega⟩) ?post)
  case post =>
    rintro c st' ⟨r, z, rfl, q⟩
    exact wpS_pure q
  case fin =>
    rintro c st' ⟨sg, o, i, j, g, rfl, lm, g1, g2, g3⟩
    omega
  case step =>
    rintro x c st1 _ hx ⟨sg1, o, i, j, g, rfl, lm, g1, g2, g3⟩
    refine wpS_bind (wpS_mono (wpS_forRange (I := fun y c st' => SmG st st' ∧ ∃ (o : Array Keyed) (i j ac bc : Nat), c = (none, o, i, j, ac, bc) ∧ LM a.toList b.toList o.toList i j ∧ i + 1 < a.size ∧ j < b.size ∧ x + 1 + y ≤ i + j)
      (Q := fun c st' => (∃ (r : Array Keyed) (z : Array Keyed × Nat × Nat × Nat × Nat), c = (some r, z) ∧ Q r st') ∨ SmG st st' ∧ ∃ (o : Array Keyed) (i j ac bc : Nat), c = (none, o, i, j, ac, bc) ∧ LM a.toList b.toList o.toList i j ∧ i + 1 < a.size ∧ j < b.size ∧ x + 2 ≤ i + j) ?istep ?ifin ⟨sg1, o, i, j, 0, 0, rfl, lm, g1, g2, by omega⟩) ?ipost)
    case ifin =>
      rintro c st' ⟨sg, o, i, j, ac, bc, rfl, lm, g1, g2, g3⟩
      exact .inr ⟨sg, o, i, j, ac, bc, rfl, lm, g1, g2, by omega⟩
    case istep =>
      rintro y c st2 _ hy ⟨sg2, o, i, j, ac, bc, rfl, lm, g1, g2, g3⟩
      obtain ⟨vb, hvb, ivb⟩ := atB j g2
      obtain ⟨va, hva, iva⟩ := atA i (by omega)
      dsimp only
      refine wpS_bind (wpS_elem2 (at_l hvb) (wpS_bind (wpS_elem2 (at_l hva) (wpS_bind (wpS_lt2 (sg2.k.trans hk) ivb iva ?_)))))
      by_cases c : ky vb < ky va
      · rw [decide_eq_true c]
        dsimp only
        refine wpS_pos rfl ?_
        refine wpS_bind (wpS_elem2 (at_l hvb) ?_)
        have m2 : LM a.toList b.toList (o.push vb).toList i (j + 1) := by
          rw [Array.toList_push]
          exact (lm.swap.a1 ub hvb fun z hz => by have := up_drop ua hva z hz; omega).swap
        by_cases d1 : (j + 1 == b.size) = true
        · refine wpS_pos d1 ?_
          exact wpS_pure (.inl ⟨_, _, rfl, dn _ _ _ _ sg2 m2 (by simpa using d1)⟩)
        · refine wpS_neg d1 ?_
          have d1' : j + 1 ≠ b.size := by simpa using d1
          split
          · exact wpS_pure (.inr ⟨sg2, _, _, _, _, _, rfl, m2, g1, by omega, by omega⟩)
          · exact wpS_pure ⟨sg2, _, _, _, _, _, rfl, m2, g1, by omega, by omega⟩
      · rw [decide_eq_false c]
        dsimp only
        refine wpS_neg Bool.false_ne_true ?_
        refine wpS_bind (wpS_elem2 (at_l hva) ?_)
        have m2 : LM a.toList b.toList (o.push va).toList (i + 1) j := by
          rw [Array.toList_push]
          exact lm.a1 ua hva fun z hz => by have := up_drop ub hvb z hz; omega
        by_cases d1 : (i + 1 + 1 == a.size) = true
        · refine wpS_pos d1 ?_
          exact wpS_pure (.inl ⟨_, _, rfl, ls _ _ _ _ sg2 m2 (by simpa using d1)⟩)
        · refine wpS_neg d1 ?_
          have d1' : i + 1 + 1 ≠ a.size := by simpa using d1
          split
          · exact wpS_pure (.inr ⟨sg2, _, _, _, _, _, rfl, m2, by omega, g2, by omega⟩)
          · exact wpS_pure ⟨sg2, _, _, _, _, _, rfl, m2, by omega, g2, by omega⟩
    case ipost =>
      rintro c st2 (⟨r, z, rfl, q⟩ | ⟨sg2, o, i, j, ac, bc, rfl, lm, g1, g2, g3⟩)
      · exact wpS_pure ⟨_, _, rfl, q⟩
      dsimp -zeta -zetaHave only
      refine wpS_bind (wpS_lift (wpAny_rule ⟨rfl, ?_⟩))
      refine wpS_bind (wpS_mono (wpS_forRange (I := fun y c st' => SmG st st' ∧ ∃ (o : Array Keyed) (i j g ac bc : Nat), c = (none, o, i, j, g, ac, bc) ∧ LM a.toList b.toList o.toList i j ∧ i + 1 < a.size ∧ j < b.size ∧ x + 2 ≤ i + j)
        (Q := fun c st' => (∃ (r : Array Keyed) (z : Array Keyed × Nat × Nat × Nat × Nat × Nat), c = (some r, z) ∧ Q r st') ∨ SmG st st' ∧ ∃ (o : Array Keyed) (i j g ac bc : Nat), c = (none, o, i, j, g, ac, bc) ∧ LM a.toList b.toList o.toList i j ∧ i + 1 < a.size ∧ j < b.size ∧ x + 2 ≤ i + j) ?jstep ?jfin ⟨sg2, o, i, j, _, ac, bc, rfl, lm, g1, g2, g3⟩) ?jpost)
      case jfin => exact fun c st' q => .inr q
      case jpost =>
        rintro c st3 (⟨r, z, rfl, q⟩ | ⟨sg3, o, i, j, g, ac, bc, rfl, lm, g1, g2, g3⟩)
        · exact wpS_pure ⟨_, _, rfl, q⟩
        dsimp only
        exact wpS_bind (wpS_setG fun st4 sg4 => wpS_pure ⟨sg3.trans sg4, _, _, _, _, rfl, lm, g1, g2, by omega⟩)
      case jstep =>
        rintro y c st3 _ hy ⟨sg3, o, i, j, g, ac, bc, rfl, lm, g1, g2, g3⟩
        walk_at "st"
        walk_at "l11"
        extract_lets -underBinder +onlyGivenNames jp
        clear_value (ej : jp = _)
        refine wpS_abs fun R hR => ?_
        refine ite_jp (F := fun z => jp () z) fun g' => ?_
        rw [ej]
        clear ej jp
        walk_at "st"
        refine wpS_bind (wpS_setG fun st4 sg4 => ?_)
        have sg34 := sg3.trans sg4
        have k4 := sg34.k.trans hk
        obtain ⟨vb, hvb, ivb⟩ := atB j g2
        refine wpS_bind (wpS_elem2 (at_l hvb) ?_)
        refine wpS_bind (wpS_galR k4 ivb ua ia (by omega) (by omega) fun k kn kt kf => ?_)
        walk_at "st"
        extract_lets -underBinder +onlyGivenNames ac jp
        subst ac
        clear_value (ej : jp = _)
        have vbl := up_drop ub hvb
        have hlo := fR_lo kt
        have hhi := fR_hi (by omega) kf
        have hj : ∀ (o' : Array Keyed) (i' : Nat), LM a.toList b.toList o'.toList i' j → i' + 1 < a.size → (∀ y ∈ a.toList.drop i', ky vb ≤ ky y) → x + 2 ≤ i' + j → wpS (model prog w) A E s (jp () o' i') R st4 := by
          intro o' i' lm' g1' gv g3'
          rw [ej]
          clear ej jp
          walk_at "st"
          refine wpS_bind (wpS_elem2 (at_l hvb) ?_)
          have m2 : LM a.toList b.toList (o'.push vb).toList i' (j + 1) := by
            rw [Array.toList_push]
            exact (lm'.swap.a1 ub hvb gv).swap
          by_cases d1 : (j + 1 == b.size) = true
          · refine wpS_pos d1 ?_
            exact wpS_pure (hR _ _ (.inl ⟨_, _, rfl, dn _ _ _ _ sg34 m2 (by simpa using d1)⟩))
          refine wpS_neg d1 ?_
          have d1' : j + 1 ≠ b.size := by simpa using d1
          obtain ⟨va, hva, iva⟩ := atA i' (by omega)
          have val := up_drop ua hva
          refine wpS_bind (wpS_elem2 (at_l hva) ?_)
          refine wpS_bind (wpS_galL k4 iva ub ib (by omega) (by omega) fun k2 kn2 kt2 kf2 => ?_)
          walk_at "st"
          extract_lets -underBinder +onlyGivenNames ac jp
          subst ac
          clear_value (ej : jp = _)
          have hlo2 := fL_lo kt2
          have hhi2 := fL_hi (by omega) kf2
          have hj : ∀ (o' : Array Keyed) (j' : Nat), LM a.toList b.toList o'.toList i' j' → j' < b.size → (∀ y ∈ b.toList.drop j', ky va ≤ ky y) → x + 2 ≤ i' + j' → wpS (model prog w) A E s (jp () o' j') R st4 := by
            intro o' j' lm2 g2' gv' g3''
            rw [ej]
            clear ej jp
            walk_at "st"
            refine wpS_bind (wpS_elem2 (at_l hva) ?_)
            have m3 : LM a.toList b.toList (o'.push va).toList (i' + 1) j' := by
              rw [Array.toList_push]
              exact lm2.a1 ua hva gv'
            by_cases d2 : (i' + 1 + 1 == a.size) = true
            · refine wpS_pos d2 ?_
              exact wpS_pure (hR _ _ (.inl ⟨_, _, rfl, ls _ _ _ _ sg34 m3 (by simpa using d2)⟩))
            refine wpS_neg d2 ?_
            have d2' : i' + 1 + 1 ≠ a.size := by simpa using d2
            split
            · exact wpS_pure (hR _ _ (.inr ⟨sg34, _, _, _, _, _, _, rfl, m3, by omega, g2', by omega⟩))
            · exact wpS_pure (hR _ _ ⟨sg34, _, _, _, _, _, _, rfl, m3, by omega, g2', by omega⟩)
          clear ej
          by_cases z2 : k2 > 0
          · refine wpS_pos z2 ?_
            have m3 : LM a.toList b.toList (o'.push vb ++ b.extract (j + 1) (j + 1 + k2)).toList i' (j + 1 + k2) := by
              rw [Array.toList_append, ext_some]
              exact (m2.swap.a ub k2 fun x hx y hy => by have := hlo2 x hx; have := val y hy; omega).swap
            by_cases d2 : (j + 1 + k2 == b.size) = true
            · refine wpS_pos d2 ?_
              exact wpS_pure (hR _ _ (.inl ⟨_, _, rfl, dn _ _ _ _ sg34 m3 (by simpa using d2)⟩))
            refine wpS_neg d2 ?_
            have d2' : j + 1 + k2 ≠ b.size := by simpa using d2
            exact hj _ _ m3 (by omega) hhi2 (by omega)
          · refine wpS_neg z2 ?_
            have : k2 = 0 := by omega
            subst this
            exact hj _ _ m2 (by omega) hhi2 (by omega)
        clear ej
        by_cases z : k > 0
        · refine wpS_pos z ?_
          have m2 : LM a.toList b.toList (o ++ a.extract i (i + k)).toList (i + k) j := by
            rw [Array.toList_append, ext_some]
            exact lm.a ua k fun x hx y hy => by have := hlo x hx; have := vbl y hy; omega
          by_cases d1 : (i + k + 1 == a.size) = true
          · refine wpS_pos d1 ?_
            exact wpS_pure (hR _ _ (.inl ⟨_, _, rfl, ls _ _ _ _ sg34 m2 (by simpa using d1)⟩))
          refine wpS_neg d1 ?_
          have d1' : i + k + 1 ≠ a.size := by simpa using d1
          by_cases d2 : (i + k == a.size) = true
          · exfalso
            have d2' : i + k = a.size := by simpa using d2
            obtain ⟨vl, hvl, _⟩ := atA (a.size - 1) (by omega)
            have h1 := kt (a.size - 1 - i) (by omega)
            rw [fR_at (show a.toList[i + (a.size - 1 - i)]? = some vl by rw [show i + (a.size - 1 - i) = a.size - 1 by omega]; exact hvl)] at h1
            have h2 := hst vb vl (List.mem_of_getElem? hvb) hvl
            simp only [Bool.not_eq_true', decide_eq_false_iff_not] at h1
            omega
          refine wpS_neg d2 ?_
          have d2' : i + k ≠ a.size := by simpa using d2
          exact hj _ _ m2 (by omega) (fun y hy => Int.le_of_lt (hhi y hy)) (by omega)
        · refine wpS_neg z ?_
          have : k = 0 := by omega
          subst this
          exact hj _ _ lm g1 (fun y hy => Int.le_of_lt (hhi y hy)) (by omega)
end PyProof.Rows
namespace PyProof.Rows
open PySem
local macro_rules | `(tactic| walk_at "mergeHi") => do
  let n := Lean.mkIdent (Lean.mkPrivateNameCore `PySem.Builtin.List.W1All `PySem.Builtin.mergeHi)
  `(tactic| delta $n)
local macro_rules | `(tactic| walk_at "st") => `(tactic| try dsimp -zeta -zetaHave only)
local macro_rules | `(tactic| walk_at "l3") => `(tactic| (extract_lets -underBinder +onlyGivenNames a b c; subst a b c))
local macro_rules | `(tactic| walk_at "l11") => `(tactic| (extract_lets -underBinder +onlyGivenNames a b c d e f g h i j k; subst a b c d e f g h i j k; dsimp -zeta -zetaHave only))
variable {prog : Program} {w : World} {A : Around} {E : Value → Shared → Prop} {s : Shared}
structure LH (P R o : List Keyed) (i j : Nat) : Prop where
  pm : o.Perm (P.drop i ++ R.drop j)
  up : Upl o
  la : ∀ x ∈ P.take i, ∀ y ∈ o, ky x ≤ ky y
  lb : ∀ x ∈ R.take j, ∀ y ∈ o, ky x ≤ ky y
theorem LH.swap {P R o : List Keyed} {i j : Nat} (h : LH P R o i j) : LH R P o j i := ⟨h.pm.trans List.perm_append_comm, h.up, h.lb, h.la⟩
theorem drop_mid (P : List Keyed) {i i' : Nat} (h : i' ≤ i) (hi : i ≤ P.length) : P.drop i' = (P.take i).drop i' ++ P.drop i := by
  have e := congrArg (List.drop i') (List.take_append_drop i P)
  rw [List.drop_append, List.length_take, show i' - min i P.length = 0 by omega, List.drop_zero] at e
  exact e.symm
theorem LH.a {P R o : List Keyed} {i j : Nat} (h : LH P R o i j) (u : Upl P) {i' : Nat} (hi' : i' ≤ i) (hi : i ≤ P.length) (c : ∀ x ∈ R.take j, ∀ y ∈ (P.take i).drop i', ky x ≤ ky y) : LH P R ((P.take i).drop i' ++ o) i' j where
  pm := by
    rw [drop_mid P hi' hi, List.append_assoc]
    exact List.Perm.append_left _ h.pm
  up := List.pairwise_append.mpr ⟨(u.take).drop, h.up, fun x hx y hy => h.la x (List.mem_of_mem_drop hx) y hy⟩
  la := fun x hx y hy => by
    have e : P.take i' = (P.take i).take i' := by rw [List.take_take, Nat.min_eq_left hi']
    rw [e] at hx
    rcases List.mem_append.mp hy with hy | hy
    · have z : Upl ((P.take i).take i' ++ (P.take i).drop i') := by rw [List.take_append_drop]; exact u.take
      exact (List.pairwise_append.mp z).2.2 x hx y hy
    · exact h.la x (List.mem_of_mem_take hx) y hy
  lb := fun x hx y hy => by
    rcases List.mem_append.mp hy with hy | hy
    · exact c x hx y hy
    · exact h.lb x hx y hy
theorem last_one {P : List Keyed} {i : Nat} {x : Keyed} (h : P[i]? = some x) : (P.take (i + 1)).drop i = [x] := by
  have hi := (List.getElem?_eq_some_iff.mp h).1
  rw [List.drop_take, show i + 1 - i = 1 by omega]
  exact take_one' h
theorem LH.a1 {P R o : List Keyed} {i j : Nat} {x : Keyed} (h : LH P R o (i + 1) j) (u : Upl P) (hx : P[i]? = some x) (c : ∀ y ∈ R.take j, ky y ≤ ky x) : LH P R (x :: o) i j := by
  have hi := (List.getElem?_eq_some_iff.mp hx).1
  have := h.a u (i' := i) (by omega) (by omega) (by rw [last_one hx]; intro y hy z hz; rw [List.mem_singleton.mp hz]; exact c y hy)
  rwa [last_one hx] at this
theorem LH.fin {P R o : List Keyed} {i j : Nat} (h : LH P R o i j) (u : Upl P) (v : Upl R) (c : ∀ x ∈ P.take i, ∀ y ∈ R.take j, ky x ≤ ky y) : (P.take i ++ R.take j ++ o).Perm (P ++ R) ∧ Upl (P.take i ++ R.take j ++ o) := by
  constructor
  · refine (List.Perm.append_left _ h.pm).trans ?_
    have e : P ++ R = (P.take i ++ P.drop i) ++ (R.take j ++ R.drop j) := by rw [List.take_append_drop, List.take_append_drop]
    rw [e, ← List.append_assoc, ← List.append_assoc]
    refine List.Perm.append_right _ ?_
    rw [List.append_assoc, List.append_assoc]
    exact List.Perm.append_left _ List.perm_append_comm
  · refine List.pairwise_append.mpr ⟨List.pairwise_append.mpr ⟨u.take, v.take, c⟩, h.up, fun x hx y hy => ?_⟩
    rcases List.mem_append.mp hx with hx | hx
    · exact h.la x hx y hy
    · exact h.lb x hx y hy
theorem up_take {P : List Keyed} {i : Nat} {x : Keyed} (u : Upl P) (hx : P[i]? = some x) : ∀ y ∈ P.take (i + 1), ky y ≤ ky x := fun y hy => by
  obtain ⟨m, hm, e⟩ := List.getElem_of_mem hy
  rw [List.length_take] at hm
  rw [List.getElem_take] at e
  exact up_at u (i := m) (by rw [List.getElem?_eq_getElem (by omega), e]) hx (by omega)
theorem fR_lo' {P : List Keyed} {k : Nat} {v : Keyed} (h : ∀ m, m < k → fR P 0 v m = true) : ∀ x ∈ P.take k, ky x ≤ ky v := fR_lo (P := P) (i := 0) h
theorem fL_lo' {P : List Keyed} {k : Nat} {v : Keyed} (h : ∀ m, m < k → fL P 0 v m = true) : ∀ x ∈ P.take k, ky x < ky v := fL_lo (P := P) (i := 0) h
theorem mem_midS {P : List Keyed} {i k : Nat} {y : Keyed} (h : y ∈ (P.take i).drop k) : ∃ m, k ≤ m ∧ m < i ∧ P[m]? = some y := by
  rw [List.drop_take] at h
  obtain ⟨m, hm, e⟩ := mem_tk h
  exact ⟨k + m, by omega, by omega, e⟩
theorem fR_hi' {P : List Keyed} {k n : Nat} {v : Keyed} (h : ∀ m, k ≤ m → m < n → fR P 0 v m = false) : ∀ y ∈ (P.take n).drop k, ky v < ky y := fun y hy => by
  obtain ⟨m, h1, h2, e⟩ := mem_midS hy
  have := h m h1 h2
  rw [fR_at (show P[0 + m]? = some y by rw [Nat.zero_add]; exact e)] at this
  simpa using this
theorem fL_hi' {P : List Keyed} {k n : Nat} {v : Keyed} (h : ∀ m, k ≤ m → m < n → fL P 0 v m = false) : ∀ y ∈ (P.take n).drop k, ky v ≤ ky y := fun y hy => by
  obtain ⟨m, h1, h2, e⟩ := mem_midS hy
  have := h m h1 h2
  rw [fL_at (show P[0 + m]? = some y by rw [Nat.zero_add]; exact e)] at this
  simp only [decide_eq_false_iff_not] at this
  omega
theorem ext_lo (a : Array Keyed) (i : Nat) : (a.extract 0 i).toList = a.toList.take i := by
  rw [Array.toList_extract, List.extract_eq_drop_take]
  rfl
theorem ext_mid (a : Array Keyed) (i k : Nat) : (a.extract k i).toList = (a.toList.take i).drop k := by
  rw [Array.toList_extract, List.extract_eq_drop_take, List.drop_take]
def rv (o : Array Keyed) : List Keyed := o.toList.reverse
theorem rv_push (o : Array Keyed) (x : Keyed) : rv (o.push x) = x :: rv o := by unfold rv; rw [Array.toList_push, List.reverse_append]; rfl
theorem rv_app (o p : Array Keyed) : rv (o ++ p.reverse) = p.toList ++ rv o := by unfold rv; rw [Array.toList_append, List.reverse_append, Array.toList_reverse, List.reverse_reverse]
def mergeHi2 : Array Keyed → Array Keyed → StateT SortSt Sem (Array Keyed) := sortPriv% PySem.Builtin.mergeHi
theorem wpS_mergeHi {st : SortSt} {a b : Array Keyed} {Q : Array Keyed → SortSt → Prop} (hk : kindOf st = oneType') (ua : Upl a.toList) (ub : Upl b.toList) (ia : ∀ x ∈ a.toList, IntP x) (ib : ∀ x ∈ b.toList, IntP x) (a1 : 1 ≤ a.size) (b1 : 1 ≤ b.size)
    (h0 : ∀ x y : Keyed, b.toList[0]? = some x → y ∈ a.toList → ky x < ky y) (hst : ∀ x y : Keyed, x ∈ b.toList → a.toList[a.size - 1]? = some y → ky x < ky y)
    (h : ∀ R st', SmG st st' → R.toList.Perm (a.toList ++ b.toList) → Upl R.toList → Q R st') : wpS (model prog w) A E s (mergeHi2 a b) Q st := by
  unfold mergeHi2
  walk_at "mergeHi"
  have la : a.toList.length = a.size := by simp
  have lb : b.toList.length = b.size := by simp
  have atA : ∀ i, i < a.size → ∃ x, a.toList[i]? = some x ∧ IntP x := fun i hi => ⟨_, List.getElem?_eq_getElem (by omega), ia _ (List.getElem_mem _)⟩
  have atB : ∀ i, i < b.size → ∃ x, b.toList[i]? = some x ∧ IntP x := fun i hi => ⟨_, List.getElem?_eq_getElem (by omega), ib _ (List.getElem_mem _)⟩
  have dn : ∀ (o : Array Keyed) (i j : Nat) (st' : SortSt), SmG st st' → LH a.toList b.toList (rv o) i j → i = 0 ∨ j = 0 → Q (a.extract 0 i ++ b.extract 0 j ++ o.reverse) st' := by
    intro o i j st' sg lm e
    obtain ⟨g1, g2⟩ := lm.fin ua ub (by
      rcases e with e | e
      · subst e; intro x hx; cases hx
      · subst e; intro x _ y hy; cases hy)
    refine h _ st' sg ?_ ?_
    · rw [Array.toList_append, Array.toList_append, ext_lo, ext_lo, Array.toList_reverse]; exact g1
    · rw [Array.toList_append, Array.toList_append, ext_lo, ext_lo, Array.toList_reverse]; exact g2
  have ls : ∀ (o : Array Keyed) (i j : Nat) (st' : SortSt), SmG st st' → LH a.toList b.toList (rv o) i j → j = 1 → Q (b.extract 0 j ++ a.extract 0 i ++ o.reverse) st' := by
    intro o i j st' sg lm e
    subst e
    obtain ⟨z, hz, _⟩ := atB 0 (by omega)
    have nb : b.toList.take 1 = [z] := take_one' (P := b.toList) (i := 0) hz
    obtain ⟨g1, g2⟩ := lm.swap.fin ub ua (by
      rw [nb]
      intro x hx y hy
      rw [List.mem_singleton.mp hx]
      exact Int.le_of_lt (h0 z y hz (List.mem_of_mem_take hy)))
    refine h _ st' sg ?_ ?_
    · rw [Array.toList_append, Array.toList_append, ext_lo, ext_lo, Array.toList_reverse]; exact g1.trans List.perm_append_comm
    · rw [Array.toList_append, Array.toList_append, ext_lo, ext_lo, Array.toList_reverse]; exact g2
  refine wpS_bind (wpS_lift (wpAny_rule ⟨rfl, ?_⟩))
  obtain ⟨y0, hy0, iy0⟩ := atA (a.size - 1) (by omega)
  walk_at "l3"
  refine wpS_bind (wpS_elem2 (at_l hy0) ?_)
  have m0 : LH a.toList b.toList (rv #[y0]) (a.size - 1) b.size := ⟨by
      show [y0].Perm _
      rw [List.drop_eq_nil_of_le (show b.toList.length ≤ b.size by omega), List.append_nil]
      have e := last_one hy0
      rw [show a.size - 1 + 1 = a.size by omega, List.take_of_length_le (by omega)] at e
      rw [e], List.pairwise_singleton .., fun x hx y hy => by
      have : y = y0 := List.mem_singleton.mp hy
      rw [this]
      refine up_take ua hy0 x ?_
      rw [show a.size - 1 + 1 = a.size by omega, List.take_of_length_le (by omega)]
      exact List.mem_of_mem_take hx, fun x hx y hy => by
      have : y = y0 := List.mem_singleton.mp hy
      rw [this]
      exact Int.le_of_lt (hst x y0 (List.mem_of_mem_take hx) hy0)⟩
  by_cases c1 : (a.size - 1 == 0) = true
  · refine wpS_pos c1 ?_
    exact wpS_pure (dn _ _ _ _ (SmG.rfl' _) m0 (.inl (by simpa using c1)))
  refine wpS_neg c1 ?_
  have c1' : a.size - 1 ≠ 0 := by simpa using c1
  by_cases c2 : (b.size == 1) = true
  · refine wpS_pos c2 ?_
    exact wpS_pure (ls _ _ _ _ (SmG.rfl' _) m0 (by simpa using c2))
  refine wpS_neg c2 ?_
  have c2' : b.size ≠ 1 := by simpa using c2
  refine wpS_bind (wpS_get ?_)
  refine wpS_bind (wpS_mono (wpS_forRange (I := fun x c st' => SmG st st' ∧ ∃ (o : Array Keyed) (i j g : Nat), c = (none, i, j, o, g) ∧ LH a.toList b.toList (rv o) i j ∧ 1 ≤ i ∧ i ≤ a.size ∧ 2 ≤ j ∧ j ≤ b.size ∧ x + 1 + (i + j) ≤ a.size + b.size)
    (Q := fun c st' => ∃ (r : Array Keyed) (z : Nat × Nat × Array Keyed × Nat), c = (some r, z) ∧ Q r st') ?step ?fin ⟨SmG.rfl' _, _, _, _, _, rfl, m0, by omega, by omega, by omega, by omega, by omega⟩) ?post)
  case post =>
    rintro c st' ⟨r, z, rfl, q⟩
    exact wpS_pure q
  case fin =>
    rintro c st' ⟨sg, o, i, j, g, rfl, lm, g1, g1', g2, g2', g3⟩
    omega
  case step =>
    rintro x c st1 _ hx ⟨sg1, o, i, j, g, rfl, lm, g1, g1', g2, g2', g3⟩
    refine wpS_bind (wpS_mono (wpS_forRange (I := fun y c st' => SmG st st' ∧ ∃ (o : Array Keyed) (i j ac bc : Nat), c = (none, i, j, o, ac, bc) ∧ LH a.toList b.toList (rv o) i j ∧ 1 ≤ i ∧ i ≤ a.size ∧ 2 ≤ j ∧ j ≤ b.size ∧ x + 1 + y + (i + j) ≤ a.size + b.size)
      (Q := fun c st' => (∃ (r : Array Keyed) (z : Nat × Nat × Array Keyed × Nat × Nat), c = (some r, z) ∧ Q r st') ∨ SmG st st' ∧ ∃ (o : Array Keyed) (i j ac bc : Nat), c = (none, i, j, o, ac, bc) ∧ LH a.toList b.toList (rv o) i j ∧ 1 ≤ i ∧ i ≤ a.size ∧ 2 ≤ j ∧ j ≤ b.size ∧ x + 2 + (i + j) ≤ a.size + b.size) ?istep ?ifin ⟨sg1, o, i, j, 0, 0, rfl, lm, g1, g1', g2, g2', by omega⟩) ?ipost)
    case ifin =>
      rintro c st' ⟨sg, o, i, j, ac, bc, rfl, lm, g1, g1', g2, g2', g3⟩
      exact .inr ⟨sg, o, i, j, ac, bc, rfl, lm, g1, g1', g2, g2', by omega⟩
    case istep =>
      rintro y c st2 _ hy ⟨sg2, o, i, j, ac, bc, rfl, lm, g1, g1', g2, g2', g3⟩
      obtain ⟨vb, hvb, ivb⟩ := atB (j - 1) (by omega)
      obtain ⟨va, hva, iva⟩ := atA (i - 1) (by omega)
      have ei : i - 1 + 1 = i := by omega
      have ej : j - 1 + 1 = j := by omega
      dsimp only
      refine wpS_bind (wpS_elem2 (at_l hvb) (wpS_bind (wpS_elem2 (at_l hva) (wpS_bind (wpS_lt2 (sg2.k.trans hk) ivb iva ?_)))))
      by_cases c : ky vb < ky va
      · rw [decide_eq_true c]
        dsimp only
        refine wpS_pos rfl ?_
        refine wpS_bind (wpS_elem2 (at_l hva) ?_)
        have m2 : LH a.toList b.toList (rv (o.push va)) (i - 1) j := by
          rw [rv_push]
          exact LH.a1 (by rw [ei]; exact lm) ua hva fun z hz => by
            have := up_take ub hvb z (by rw [ej]; exact hz)
            omega
        by_cases d1 : (i - 1 == 0) = true
        · refine wpS_pos d1 ?_
          exact wpS_pure (.inl ⟨_, _, rfl, dn _ _ _ _ sg2 m2 (.inl (by simpa using d1))⟩)
        · refine wpS_neg d1 ?_
          have d1' : i - 1 ≠ 0 := by simpa using d1
          split
          · exact wpS_pure (.inr ⟨sg2, _, _, _, _, _, rfl, m2, by omega, by omega, g2, g2', by omega⟩)
          · exact wpS_pure ⟨sg2, _, _, _, _, _, rfl, m2, by omega, by omega, g2, g2', by omega⟩
      · rw [decide_eq_false c]
        dsimp only
        refine wpS_neg Bool.false_ne_true ?_
        refine wpS_bind (wpS_elem2 (at_l hvb) ?_)
        have m2 : LH a.toList b.toList (rv (o.push vb)) i (j - 1) := by
          rw [rv_push]
          exact (LH.a1 (by rw [ej]; exact lm.swap) ub hvb fun z hz => by
            have := up_take ua hva z (by rw [ei]; exact hz)
            omega).swap
        by_cases d1 : (j - 1 == 1) = true
        · refine wpS_pos d1 ?_
          exact wpS_pure (.inl ⟨_, _, rfl, ls _ _ _ _ sg2 m2 (by simpa using d1)⟩)
        · refine wpS_neg d1 ?_
          have d1' : j - 1 ≠ 1 := by simpa using d1
          split
          · exact wpS_pure (.inr ⟨sg2, _, _, _, _, _, rfl, m2, g1, g1', by omega, by omega, by omega⟩)
          · exact wpS_pure ⟨sg2, _, _, _, _, _, rfl, m2, g1, g1', by omega, by omega, by omega⟩
    case ipost =>
      rintro c st2 (⟨r, z, rfl, q⟩ | ⟨sg2, o, i, j, ac, bc, rfl, lm, g1, g1', g2, g2', g3⟩)
      · exact wpS_pure ⟨_, _, rfl, q⟩
      dsimp -zeta -zetaHave only
      refine wpS_bind (wpS_lift (wpAny_rule ⟨rfl, ?_⟩))
      refine wpS_bind (wpS_mono (wpS_forRange (I := fun y c st' => SmG st st' ∧ ∃ (o : Array Keyed) (i j g ac bc : Nat), c = (none, i, j, o, g, ac, bc) ∧ LH a.toList b.toList (rv o) i j ∧ 1 ≤ i ∧ i ≤ a.size ∧ 2 ≤ j ∧ j ≤ b.size ∧ x + 2 + (i + j) ≤ a.size + b.size)
        (Q := fun c st' => (∃ (r : Array Keyed) (z : Nat × Nat × Array Keyed × Nat × Nat × Nat), c = (some r, z) ∧ Q r st') ∨ SmG st st' ∧ ∃ (o : Array Keyed) (i j g ac bc : Nat), c = (none, i, j, o, g, ac, bc) ∧ LH a.toList b.toList (rv o) i j ∧ 1 ≤ i ∧ i ≤ a.size ∧ 2 ≤ j ∧ j ≤ b.size ∧ x + 2 + (i + j) ≤ a.size + b.size) ?jstep ?jfin ⟨sg2, o, i, j, _, ac, bc, rfl, lm, g1, g1', g2, g2', g3⟩) ?jpost)
      case jfin => exact fun c st' q => .inr q
      case jpost =>
        rintro c st3 (⟨r, z, rfl, q⟩ | ⟨sg3, o, i, j, g, ac, bc, rfl, lm, g1, g1', g2, g2', g3⟩)
        · exact wpS_pure ⟨_, _, rfl, q⟩
        dsimp only
        exact wpS_bind (wpS_setG fun st4 sg4 => wpS_pure ⟨sg3.trans sg4, _, _, _, _, rfl, lm, g1, g1', g2, g2', by omega⟩)
      case jstep =>
        rintro y c st3 _ hy ⟨sg3, o, i, j, g, ac, bc, rfl, lm, g1, g1', g2, g2', g3⟩
        walk_at "st"
        walk_at "l11"
        extract_lets -underBinder +onlyGivenNames jp
        clear_value (ej : jp = _)
        refine wpS_abs fun R hR => ?_
        refine ite_jp (F := fun z => jp () z) fun g' => ?_
        rw [ej]
        clear ej jp
        walk_at "st"
        refine wpS_bind (wpS_setG fun st4 sg4 => ?_)
        have sg34 := sg3.trans sg4
        have k4 := sg34.k.trans hk
        have ej1 : j - 1 + 1 = j := by omega
        obtain ⟨vb, hvb, ivb⟩ := atB (j - 1) (by omega)
        refine wpS_bind (wpS_elem2 (at_l hvb) ?_)
        refine wpS_bind (wpS_galR k4 ivb ua ia (by omega) (by omega) fun k kn kt kf => ?_)
        walk_at "st"
        extract_lets -underBinder +onlyGivenNames kk ac jp
        subst kk ac
        clear_value (ej : jp = _)
        have vbl := up_take ub hvb
        rw [ej1] at vbl
        have hlo := fR_lo' kt
        have hhi := fR_hi' kf
        have hj : ∀ (i' : Nat) (o' : Array Keyed), LH a.toList b.toList (rv o') i' j → 1 ≤ i' → i' ≤ a.size → (∀ y ∈ a.toList.take i', ky y ≤ ky vb) → x + 2 + (i' + j) ≤ a.size + b.size → wpS (model prog w) A E s (jp () i' o') R st4 := by
          intro i' o' lm' q1 q1' gv g3'
          rw [ej]
          clear ej jp
          walk_at "st"
          refine wpS_bind (wpS_elem2 (at_l hvb) ?_)
          have m2 : LH a.toList b.toList (rv (o'.push vb)) i' (j - 1) := by
            rw [rv_push]
            exact (LH.a1 (by rw [ej1]; exact lm'.swap) ub hvb gv).swap
          by_cases d1 : (j - 1 == 1) = true
          · refine wpS_pos d1 ?_
            exact wpS_pure (hR _ _ (.inl ⟨_, _, rfl, ls _ _ _ _ sg34 m2 (by simpa using d1)⟩))
          refine wpS_neg d1 ?_
          have d1' : j - 1 ≠ 1 := by simpa using d1
          have ei1 : i' - 1 + 1 = i' := by omega
          obtain ⟨va, hva, iva⟩ := atA (i' - 1) (by omega)
          have val := up_take ua hva
          rw [ei1] at val
          refine wpS_bind (wpS_elem2 (at_l hva) ?_)
          refine wpS_bind (wpS_galL k4 iva ub ib (by omega) (by omega) fun k2 kn2 kt2 kf2 => ?_)
          walk_at "st"
          extract_lets -underBinder +onlyGivenNames kk ac jp
          subst kk ac
          clear_value (ej : jp = _)
          have hlo2 := fL_lo' kt2
          have hhi2 := fL_hi' kf2
          have hj : ∀ (j' : Nat) (o' : Array Keyed), LH a.toList b.toList (rv o') i' j' → 2 ≤ j' → j' ≤ b.size → (∀ y ∈ b.toList.take j', ky y ≤ ky va) → x + 2 + (i' + j') ≤ a.size + b.size → wpS (model prog w) A E s (jp () j' o') R st4 := by
            intro j' o' lm2 q2 q2' gv' g3''
            rw [ej]
            clear ej jp
            walk_at "st"
            refine wpS_bind (wpS_elem2 (at_l hva) ?_)
            have m3 : LH a.toList b.toList (rv (o'.push va)) (i' - 1) j' := by
              rw [rv_push]
              exact LH.a1 (by rw [ei1]; exact lm2) ua hva gv'
            by_cases d2 : (i' - 1 == 0) = true
            · refine wpS_pos d2 ?_
              exact wpS_pure (hR _ _ (.inl ⟨_, _, rfl, dn _ _ _ _ sg34 m3 (.inl (by simpa using d2))⟩))
            refine wpS_neg d2 ?_
            have d2' : i' - 1 ≠ 0 := by simpa using d2
            split
            · exact wpS_pure (hR _ _ (.inr ⟨sg34, _, _, _, _, _, _, rfl, m3, by omega, by omega, q2, q2', by omega⟩))
            · exact wpS_pure (hR _ _ ⟨sg34, _, _, _, _, _, _, rfl, m3, by omega, by omega, q2, q2', by omega⟩)
          clear ej
          by_cases z2 : j - 1 - k2 > 0
          · refine wpS_pos z2 ?_
            have m3 : LH a.toList b.toList (rv (o'.push vb ++ (b.extract k2 (j - 1)).reverse)) i' k2 := by
              rw [rv_app, ext_mid]
              exact (m2.swap.a ub (by omega) (by omega) fun x hx y hy => by have := hhi2 y hy; have := val x hx; omega).swap
            by_cases d2 : (k2 == 1) = true
            · refine wpS_pos d2 ?_
              exact wpS_pure (hR _ _ (.inl ⟨_, _, rfl, ls _ _ _ _ sg34 m3 (by simpa using d2)⟩))
            refine wpS_neg d2 ?_
            have d2' : k2 ≠ 1 := by simpa using d2
            by_cases d3 : (k2 == 0) = true
            · refine wpS_pos d3 ?_
              exact wpS_pure (hR _ _ (.inl ⟨_, _, rfl, dn _ _ _ _ sg34 m3 (.inr (by simpa using d3))⟩))
            refine wpS_neg d3 ?_
            have d3' : k2 ≠ 0 := by simpa using d3
            exact hj _ _ m3 (by omega) (by omega) (fun y hy => Int.le_of_lt (hlo2 y hy)) (by omega)
          · refine wpS_neg z2 ?_
            have : k2 = j - 1 := by omega
            subst this
            exact hj _ _ m2 (by omega) (by omega) (fun y hy => Int.le_of_lt (hlo2 y hy)) (by omega)
        clear ej
        by_cases z : i - k > 0
        · refine wpS_pos z ?_
          have m2 : LH a.toList b.toList (rv (o ++ (a.extract k i).reverse)) k j := by
            rw [rv_app, ext_mid]
            exact lm.a ua (by omega) (by omega) fun x hx y hy => by have := hhi y hy; have := vbl x hx; omega
          by_cases d1 : (k == 0) = true
          · refine wpS_pos d1 ?_
            exact wpS_pure (hR _ _ (.inl ⟨_, _, rfl, dn _ _ _ _ sg34 m2 (.inl (by simpa using d1))⟩))
          refine wpS_neg d1 ?_
          have d1' : k ≠ 0 := by simpa using d1
          exact hj _ _ m2 (by omega) (by omega) hlo (by omega)
        · refine wpS_neg z ?_
          have : k = i := by omega
          subst this
          exact hj _ _ lm g1 g1' hlo (by omega)
end PyProof.Rows
namespace PyProof.Rows
open PySem
local macro_rules | `(tactic| walk_at "countRun") => do
  let n := Lean.mkIdent (Lean.mkPrivateNameCore `PySem.Builtin.List.W1All `PySem.Builtin.countRun)
  `(tactic| delta $n)
local macro_rules | `(tactic| walk_at "binarySort") => do
  let n := Lean.mkIdent (Lean.mkPrivateNameCore `PySem.Builtin.List.W1All `PySem.Builtin.binarySort)
  `(tactic| delta $n)
local macro_rules | `(tactic| walk_at "st") => `(tactic| try dsimp -zeta -zetaHave only)
local macro_rules | `(tactic| walk_at "l3") => `(tactic| (extract_lets -underBinder +onlyGivenNames a b c; subst a b c))
local macro_rules | `(tactic| walk_at "l11") => `(tactic| (extract_lets -underBinder +onlyGivenNames a b c d e f g h i j k; subst a b c d e f g h i j k; dsimp -zeta -zetaHave only))
local macro_rules | `(tactic| walk_at "l1") => `(tactic| (extract_lets -underBinder +onlyGivenNames a; subst a; try dsimp -zeta -zetaHave only))
local macro_rules | `(tactic| walk_at "l2") => `(tactic| (extract_lets -underBinder +onlyGivenNames a b; subst a b; try dsimp -zeta -zetaHave only))
local macro_rules | `(tactic| walk_at "l4") => `(tactic| (extract_lets -underBinder +onlyGivenNames a b c d; subst a b c d; try dsimp -zeta -zetaHave only))
variable {prog : Program} {w : World} {A : Around} {E : Value → Shared → Prop} {s : Shared}
/-- as st0, but for the order of what lies at lo and behind it -/
structure SB (lo : Nat) (st0 st : SortSt) : Prop where
  perm : (arrOf st).Perm (arrOf st0)
  kind : kindOf st = oneType'
  failed : failedOf st = failedOf st0
  pend : pendingOf st = pendingOf st0
  low : ∀ i, i < lo → (arrOf st)[i]? = (arrOf st0)[i]?
theorem SB.set {lo : Nat} {st0 st : SortSt} (h : SB lo st0 st) {xs : Array Keyed} (hp : xs.Perm (arrOf st)) (hl : ∀ i, i < lo → xs[i]? = (arrOf st)[i]?) : SB lo st0 (setArr st xs) :=
  ⟨hp.trans h.perm, h.kind, h.failed, h.pend, fun i hi => (hl i hi).trans (h.low i hi)⟩
theorem SB.size {lo : Nat} {st0 st : SortSt} (h : SB lo st0 st) : (arrOf st).size = (arrOf st0).size := h.perm.size_eq
def Sin (xs : Array Keyed) (lo n : Nat) : Prop := ∀ i j, lo ≤ i → i ≤ j → j < lo + n → K xs i ≤ K xs j
def Nin (xs : Array Keyed) (lo n : Nat) : Prop := ∀ i j, lo ≤ i → i ≤ j → j < lo + n → K xs j ≤ K xs i
theorem wpS_ltS {lo : Nat} {st0 st : SortSt} {i j : Nat} {Q : Option Bool → SortSt → Prop} (hB : SB lo st0 st) (h0 : IntKeys (arrOf st0)) (hi : i < (arrOf st0).size) (hj : j < (arrOf st0).size)
    (h : Q (some (decide (K (arrOf st) i < K (arrOf st) j))) st) : wpS (model prog w) A E s ((sortPriv% PySem.Builtin.ltAt) i j) Q st := by
  have at' : ∀ i, i < (arrOf st0).size → ∃ t q, (arrOf st)[i]? = some (.int (K (arrOf st) i) t, q) := fun i hi => by
    have hi' : i < (arrOf st).size := by rw [hB.size]; exact hi
    obtain ⟨n, t, hn⟩ := h0 (arrOf st)[i] ((Array.perm_iff_toList_perm.mp hB.perm).mem_iff.mp (by simp))
    have e : (arrOf st)[i]? = some (arrOf st)[i] := getElem?_pos _ i hi'
    refine ⟨t, (arrOf st)[i].2, ?_⟩
    unfold K
    rw [e]
    show some (arrOf st)[i] = some (.int (numOf (arrOf st)[i].1) t, (arrOf st)[i].2)
    rw [hn]
    exact congrArg some (Prod.ext hn rfl)
  obtain ⟨t, p, e1⟩ := at' i hi
  obtain ⟨u, q, e2⟩ := at' j hj
  exact wpS_ltAt hB.kind e1 e2 h
theorem wpS_revS {lo : Nat} {st0 st : SortSt} {i j : Nat} {Q : Unit → SortSt → Prop} (hB : SB lo st0 st) (hl : lo ≤ i) (hj : j ≤ (arrOf st0).size) (h : ∀ st', SB lo st0 st' → (∀ k, K (arrOf st') k = if i ≤ k ∧ k < j then K (arrOf st) (i + j - 1 - k) else K (arrOf st) k) → Q () st') :
    wpS (model prog w) A E s ((sortPriv% PySem.Builtin.reverseSlice) i j) Q st := by
  have hj' : j ≤ (arrOf st).size := by rw [hB.size]; exact hj
  refine wpS_reverse (h _ (hB.set (mirror_perm _ _ _ _) fun k hk => ?_) fun k => K_mirror hj' k)
  rw [getElem?_mirror_all hj', if_neg (by omega)]
theorem sin_one (xs : Array Keyed) (lo : Nat) : Sin xs lo 1 := fun i j h1 h2 h3 => by
  have : i = j := by omega
  rw [this]; exact Int.le_refl _
theorem sin_up {xs : Array Keyed} {lo n : Nat} (h : Sin xs lo n) (n1 : 1 ≤ n) (c : ¬ K xs (lo + n) < K xs (lo + n - 1)) : Sin xs lo (n + 1) := fun i j h1 h2 h3 => by
  by_cases z : j < lo + n
  · exact h i j h1 h2 z
  · have ej : j = lo + n := by omega
    by_cases zi : i = j
    · rw [zi]; exact Int.le_refl _
    · have := h i (lo + n - 1) h1 (by omega) (by omega)
      rw [ej]; omega
theorem nin_dn {xs : Array Keyed} {lo n : Nat} (h : Nin xs lo n) (n1 : 1 ≤ n) (c : K xs (lo + n) ≤ K xs (lo + n - 1)) : Nin xs lo (n + 1) := fun i j h1 h2 h3 => by
  by_cases z : j < lo + n
  · exact h i j h1 h2 z
  · have ej : j = lo + n := by omega
    by_cases zi : i = j
    · rw [zi]; exact Int.le_refl _
    · have := h i (lo + n - 1) h1 (by omega) (by omega)
      rw [ej]; omega
def countRun2 : Nat → Nat → StateT SortSt Sem (Option Nat) := sortPriv% PySem.Builtin.countRun
theorem wpS_countS {st0 : SortSt} {lo nrem : Nat} {Q : Option Nat → SortSt → Prop} (hk : kindOf st0 = oneType') (h0 : IntKeys (arrOf st0)) (hn : lo + nrem ≤ (arrOf st0).size) (n1 : 1 ≤ nrem)
    (h : ∀ m st', SB lo st0 st' → 1 ≤ m → m ≤ nrem → Sin (arrOf st') lo m → Q (some m) st') : wpS (model prog w) A E s (countRun2 lo nrem) Q st0 := by
  have hB : SB lo st0 st0 := ⟨Array.Perm.refl _, hk, rfl, rfl, fun _ _ => rfl⟩
  unfold countRun2
  walk_at "countRun"
  refine wpS_bind (wpS_mono (wpS_forRange (I := fun x c st' => st' = st0 ∧ c = (none, x) ∧ Sin (arrOf st0) lo x)
    (Q := fun c st' => st' = st0 ∧ ∃ n, c = (none, n) ∧ 1 ≤ n ∧ n ≤ nrem ∧ Sin (arrOf st0) lo n ∧ (n = nrem ∨ K (arrOf st0) (lo + n) < K (arrOf st0) (lo + n - 1))) ?step ?fin ⟨rfl, rfl, sin_one _ _⟩) ?post)
  case fin =>
    rintro c st' ⟨rfl, rfl, hs⟩
    rw [show max 1 nrem = nrem by omega] at hs ⊢
    exact ⟨rfl, nrem, rfl, n1, Nat.le_refl _, hs, .inl rfl⟩
  case step =>
    rintro x c st' h1 h2 ⟨rfl, rfl, hs⟩
    dsimp only
    refine wpS_bind (wpS_ltS hB h0 (by omega) (by omega) ?_)
    by_cases z : K (arrOf st') (lo + x) < K (arrOf st') (lo + x - 1)
    · simp only [z, decide_true, if_true]
      exact wpS_pure ⟨rfl, x, rfl, h1, by omega, hs, .inr z⟩
    · simp only [z, decide_false, Bool.false_eq_true, if_false]
      exact wpS_pure ⟨rfl, rfl, sin_up hs h1 z⟩
  case post =>
    rintro c st' ⟨rfl, n, rfl, g1, g2, hs, hor⟩
    walk_at "st"
    walk_at "l2"
    by_cases z : (n == nrem) = true
    · refine wpS_pos z ?_
      exact wpS_pure (h n st' hB g1 g2 hs)
    refine wpS_neg z ?_
    have z' : n ≠ nrem := by simpa using z
    have hlt := hor.resolve_left z'
    extract_lets -underBinder +onlyGivenNames jp
    clear_value (ej : jp = _)
    have hj : ∀ st1, SB lo st' st1 → Nin (arrOf st1) lo (n + 1) → wpS (model prog w) A E s (jp ()) Q st1 := by
      intro st1 hB1 hs1
      rw [ej]
      clear ej jp
      walk_at "st"
      refine wpS_bind (wpS_lift (wpAny_rule ⟨rfl, ?_⟩))
      refine wpS_bind (wpS_mono (wpS_forRange (I := fun x c st2 => SB lo st' st2 ∧ ∃ neq, c = (none, x, neq) ∧ Nin (arrOf st2) lo x ∧ neq + 1 ≤ x ∧ (∀ i, lo + x - (neq + 1) ≤ i → i < lo + x → K (arrOf st2) i = K (arrOf st2) (lo + x - 1)))
        (Q := fun c st2 => SB lo st' st2 ∧ ∃ m neq, c = (none, m, neq) ∧ 1 ≤ m ∧ m ≤ nrem ∧ Nin (arrOf st2) lo m ∧ neq + 1 ≤ m ∧ (∀ i, lo + m - (neq + 1) ≤ i → i < lo + m → K (arrOf st2) i = K (arrOf st2) (lo + m - 1))) ?dstep ?dfin ⟨hB1, 0, rfl, hs1, by omega, fun i h1 h2 => by congr 1; omega⟩) ?dpost)
      case dfin =>
        rintro c st2 ⟨hB2, neq, rfl, hs2, q1, q2⟩
        rw [show max (n + 1) nrem = nrem by omega] at hs2 q1 q2 ⊢
        exact ⟨hB2, nrem, neq, rfl, by omega, Nat.le_refl _, hs2, q1, q2⟩
      case dstep =>
        rintro x c st2 h1 h2 ⟨hB2, neq, rfl, hs2, q1, q2⟩
        dsimp only
        refine wpS_bind (wpS_ltS hB2 h0 (by omega) (by omega) ?_)
        by_cases z : K (arrOf st2) (lo + x) < K (arrOf st2) (lo + x - 1)
        · simp only [z, decide_true, if_true]
          have nx := nin_dn hs2 (by omega) (Int.le_of_lt z)
          by_cases y : neq > 0
          · refine wpS_pos y ?_
            refine wpS_bind (wpS_revS hB2 (by omega) (by omega) fun st3 hB3 e3 => ?_)
            have e3' : ∀ k, K (arrOf st3) k = K (arrOf st2) k := fun k => by
              rw [e3]
              split
              · rename_i hk
                rw [q2 _ (by omega) (by omega), q2 k (by omega) (by omega)]
              · rfl
            refine wpS_pure ⟨hB3, 0, rfl, fun i j a1 a2 a3 => ?_, by omega, fun i h1 h2 => by congr 1; omega⟩
            rw [e3', e3']
            exact nx i j a1 a2 a3
          · refine wpS_neg y ?_
            exact wpS_pure ⟨hB2, 0, rfl, nx, by omega, fun i h1 h2 => by congr 1; omega⟩
        · simp only [z, decide_false, Bool.false_eq_true, if_false]
          refine wpS_bind (wpS_ltS hB2 h0 (by omega) (by omega) ?_)
          by_cases y : K (arrOf st2) (lo + x - 1) < K (arrOf st2) (lo + x)
          · simp only [y, decide_true, if_true]
            exact wpS_pure ⟨hB2, x, neq, rfl, by omega, by omega, hs2, q1, q2⟩
          · simp only [y, decide_false, Bool.false_eq_true, if_false]
            have eq : K (arrOf st2) (lo + x) = K (arrOf st2) (lo + x - 1) := by omega
            refine wpS_pure ⟨hB2, neq + 1, rfl, nin_dn hs2 (by omega) (by omega), by omega, fun i a1 a2 => ?_⟩
            rw [show lo + (x + 1) - 1 = lo + x by omega]
            by_cases ix : i = lo + x
            · rw [ix]
            · rw [eq]; exact q2 i (by omega) (by omega)
      case dpost =>
        rintro c st2 ⟨hB2, m, neq, rfl, m1, m2, hs2, q1, q2⟩
        walk_at "st"
        walk_at "l4"
        extract_lets -underBinder +onlyGivenNames jp
        clear_value (ej : jp = _)
        have hj : ∀ st3, SB lo st' st3 → Nin (arrOf st3) lo m → wpS (model prog w) A E s (jp ()) Q st3 := by
          intro st3 hB3 hs3
          rw [ej]
          clear ej jp
          walk_at "st"
          refine wpS_bind (wpS_revS hB3 (Nat.le_refl _) (by omega) fun st4 hB4 e4 => ?_)
          have hs4 : Sin (arrOf st4) lo m := fun i j a1 a2 a3 => by
            rw [e4, e4, if_pos (by omega), if_pos (by omega)]
            exact hs3 _ _ (by omega) (by omega) (by omega)
          refine wpS_bind (wpS_mono (wpS_forRange (I := fun x c st' => st' = st4 ∧ c = (none, x) ∧ Sin (arrOf st4) lo x) (Q := fun c st' => st' = st4 ∧ ∃ n, c = (none, n) ∧ 1 ≤ n ∧ n ≤ nrem ∧ Sin (arrOf st4) lo n) ?ustep ?ufin ⟨rfl, rfl, hs4⟩) ?upost)
          case ufin =>
            rintro c st5 ⟨rfl, rfl, hs5⟩
            rw [show max m nrem = nrem by omega] at hs5 ⊢
            exact ⟨rfl, nrem, rfl, n1, Nat.le_refl _, hs5⟩
          case ustep =>
            rintro x c st5 h1 h2 ⟨rfl, rfl, hs5⟩
            dsimp only
            refine wpS_bind (wpS_ltS hB4 h0 (by omega) (by omega) ?_)
            by_cases z : K (arrOf st5) (lo + x) < K (arrOf st5) (lo + x - 1)
            · simp only [z, decide_true, if_true]
              exact wpS_pure ⟨rfl, x, rfl, by omega, by omega, hs5⟩
            · simp only [z, decide_false, Bool.false_eq_true, if_false]
              exact wpS_pure ⟨rfl, rfl, sin_up hs5 (by omega) z⟩
          case upost =>
            rintro c st5 ⟨rfl, k, rfl, k1, k2, hs5⟩
            exact wpS_pure (h k st5 hB4 k1 k2 hs5)
        by_cases y : neq > 0
        · refine wpS_pos y ?_
          refine wpS_bind (wpS_revS hB2 (by omega) (by omega) fun st3 hB3 e3 => hj st3 hB3 fun i j a1 a2 a3 => ?_)
          have e3' : ∀ k, K (arrOf st3) k = K (arrOf st2) k := fun k => by
            rw [e3]
            split
            · rename_i hk
              rw [q2 _ (by omega) (by omega), q2 k (by omega) (by omega)]
            · rfl
          rw [e3', e3']
          exact hs2 i j a1 a2 a3
        · refine wpS_neg y ?_
          exact hj st2 hB2 hs2
    by_cases y : n > 1
    · refine wpS_pos y ?_
      refine wpS_bind (wpS_ltS hB h0 (by omega) (by omega) ?_)
      by_cases r : K (arrOf st') lo < K (arrOf st') (lo + n - 1)
      · simp only [r, decide_true, if_true]
        exact wpS_pure (h n st' hB g1 g2 hs)
      · simp only [r, decide_false, Bool.false_eq_true, if_false]
        have all : ∀ k, lo ≤ k → k < lo + n → K (arrOf st') k = K (arrOf st') (lo + n - 1) := fun k a1 a2 => by
          have b1 := hs lo k (Nat.le_refl _) a1 a2
          have b2 := hs k (lo + n - 1) a1 (by omega) (by omega)
          omega
        refine wpS_bind (wpS_revS hB (Nat.le_refl _) (by omega) fun st1 hB1 e1 => hj st1 hB1 ?_)
        have e1' : ∀ k, K (arrOf st1) k = K (arrOf st') k := fun k => by
          rw [e1]
          split
          · rename_i hk
            rw [all _ (by omega) (by omega), all k (by omega) (by omega)]
          · rfl
        refine nin_dn (fun i j a1 a2 a3 => ?_) (by omega) ?_
        · rw [e1', e1', all i a1 (by omega), all j (by omega) a3]
          exact Int.le_refl _
        · rw [e1', e1']
          exact Int.le_of_lt hlt
    · refine wpS_neg y ?_
      have : n = 1 := by omega
      subst this
      refine hj st' hB (nin_dn (fun i j a1 a2 a3 => ?_) (by omega) (Int.le_of_lt hlt))
      have : i = j := by omega
      rw [this]; exact Int.le_refl _
def binarySort2 : Nat → Nat → Nat → StateT SortSt Sem Bool := sortPriv% PySem.Builtin.binarySort
theorem wpS_binS {st0 st : SortSt} {lo n m : Nat} {Q : Bool → SortSt → Prop} (h0 : IntKeys (arrOf st0)) (hn : lo + n ≤ (arrOf st0).size) (hm : m ≤ n) (hB : SB lo st0 st) (hs : Sin (arrOf st) lo m)
    (h : ∀ st', SB lo st0 st' → Sin (arrOf st') lo n → Q true st') : wpS (model prog w) A E s (binarySort2 lo n m) Q st := by
  unfold binarySort2
  walk_at "binarySort"
  refine wpS_bind (wpS_mono (wpS_forRange (I := fun k c st' => c = (none, ()) ∧ SB lo st0 st' ∧ Sin (arrOf st') lo (min k n))
    (Q := fun c st' => c = (none, ()) ∧ SB lo st0 st' ∧ Sin (arrOf st') lo n) ?step ?fin ?init) ?post)
  case post =>
    rintro c st' ⟨rfl, hB', hs'⟩
    exact wpS_pure (h st' hB' hs')
  case init =>
    refine ⟨rfl, hB, fun i j h1 h2 h3 => ?_⟩
    by_cases z : m = 0
    · have : i = j := by omega
      rw [this]; exact Int.le_refl _
    · exact hs i j h1 h2 (by omega)
  case fin =>
    rintro c st' ⟨hc, hB', hs'⟩
    refine ⟨hc, hB', ?_⟩
    rwa [show min (max (max m 1) n) n = n by omega] at hs'
  case step =>
    rintro k c st' hak hkn ⟨rfl, hB', hs'⟩
    rw [show min k n = k by omega] at hs'
    dsimp only
    refine wpS_bind (wpS_mono (wpS_forRange (I := fun x c st'' => st'' = st' ∧ ∃ l r, c = (none, l, r) ∧ l ≤ r ∧ r ≤ k ∧ r - l ≤ k - x ∧
        (∀ i, lo ≤ i → i < lo + l → K (arrOf st') i ≤ K (arrOf st') (lo + k)) ∧ (∀ i, lo + r ≤ i → i < lo + k → K (arrOf st') (lo + k) < K (arrOf st') i))
      (Q := fun c st'' => st'' = st' ∧ ∃ l, c = (none, l, l) ∧ l ≤ k ∧
        (∀ i, lo ≤ i → i < lo + l → K (arrOf st') i ≤ K (arrOf st') (lo + k)) ∧ (∀ i, lo + l ≤ i → i < lo + k → K (arrOf st') (lo + k) < K (arrOf st') i)) ?istep ?ifin ⟨rfl, 0, k, rfl, by omega, by omega, by omega, fun i h1 h2 => by omega, fun i h1 h2 => by omega⟩) ?ipost)
    case ifin =>
      rintro c st'' ⟨rfl, l, r, rfl, q1, q2, q3, q4, q5⟩
      have : l = r := by omega
      subst this
      exact ⟨rfl, l, rfl, q2, q4, q5⟩
    case istep =>
      rintro x c st'' _ hxk ⟨rfl, l, r, rfl, q1, q2, q3, q4, q5⟩
      dsimp only
      by_cases z : l ≥ r
      · refine wpS_pos z ?_
        have : l = r := by omega
        subst this
        exact wpS_pure ⟨rfl, l, rfl, q2, q4, q5⟩
      · refine wpS_neg z ?_
        refine wpS_bind (wpS_ltS hB' h0 (by omega) (by omega) ?_)
        by_cases y : K (arrOf st'') (lo + k) < K (arrOf st'') (lo + (l + r) / 2)
        · simp only [y, decide_true, if_true]
          refine wpS_pure ⟨rfl, l, (l + r) / 2, rfl, by omega, by omega, by omega, q4, fun i h1 h2 => ?_⟩
          have := hs' (lo + (l + r) / 2) i (by omega) h1 h2
          omega
        · simp only [y, decide_false, Bool.false_eq_true, if_false]
          refine wpS_pure ⟨rfl, (l + r) / 2 + 1, r, rfl, by omega, by omega, by omega, fun i h1 h2 => ?_, q5⟩
          have := hs' i (lo + (l + r) / 2) h1 (by omega) (by omega)
          omega
    case ipost =>
      rintro c st'' ⟨rfl, l, rfl, q1, q2, q3⟩
      dsimp only
      have hks : lo + k < (arrOf st'').size := by rw [hB'.size]; omega
      have el : lo + k - (lo + k - (lo + l)) = lo + l := by omega
      refine wpS_bind ?_
      show wpS _ _ _ _ (moveDown' (lo + k) (lo + l)) _ _
      rw [moveDown'_eq]
      refine wpS_modify (wpS_pure ⟨rfl, hB'.set (bubble_perm _ _ _) fun i hi => ?_, ?_⟩)
      · rw [getElem?_bubble hks _ (by omega), el, if_neg (by omega), if_neg (by omega)]
      · rw [show min (k + 1) n = k + 1 by omega]
        intro i j h1 h2 h3
        show K (bubble (arrOf st'') (lo + k) (lo + k - (lo + l))) i ≤ K (bubble (arrOf st'') (lo + k) (lo + k - (lo + l))) j
        rw [K_bubble hks (by omega), K_bubble hks (by omega), el]
        repeat' split
        all_goals first
          | (exfalso; omega)
          | exact Int.le_refl _
          | exact q2 _ (by omega) (by omega)
          | exact Int.le_of_lt (q3 _ (by omega) (by omega))
          | exact hs' _ _ (by omega) (by omega) (by omega)
end PyProof.Rows
namespace PyProof.Rows
open PySem
local macro_rules | `(tactic| walk_at "mergeAt") => do
  let n := Lean.mkIdent (Lean.mkPrivateNameCore `PySem.Builtin.List.W1All `PySem.Builtin.mergeAt)
  `(tactic| delta $n)
local macro_rules | `(tactic| walk_at "st") => `(tactic| try dsimp -zeta -zetaHave only)
local macro_rules | `(tactic| walk_at "l3") => `(tactic| (extract_lets -underBinder +onlyGivenNames a b c; subst a b c))
local macro_rules | `(tactic| walk_at "l11") => `(tactic| (extract_lets -underBinder +onlyGivenNames a b c d e f g h i j k; subst a b c d e f g h i j k; dsimp -zeta -zetaHave only))
local macro_rules | `(tactic| walk_at "l1") => `(tactic| (extract_lets -underBinder +onlyGivenNames a; subst a; try dsimp -zeta -zetaHave only))
local macro_rules | `(tactic| walk_at "l2") => `(tactic| (extract_lets -underBinder +onlyGivenNames a b; subst a b; try dsimp -zeta -zetaHave only))
local macro_rules | `(tactic| walk_at "l4") => `(tactic| (extract_lets -underBinder +onlyGivenNames a b c d; subst a b c d; try dsimp -zeta -zetaHave only))
variable {prog : Program} {w : World} {A : Around} {E : Value → Shared → Prop} {s : Shared}
/-! parts of a row -/
theorem seg_at {P : List Keyed} {i n m : Nat} (hm : m < n) : ((P.drop i).take n)[m]? = P[i + m]? := by
  rw [List.getElem?_take, if_pos hm, List.getElem?_drop]
theorem seg_le {P : List Keyed} {i n x y : Nat} {p q : Keyed} (u : Upl ((P.drop i).take n)) (hp : P[i + x]? = some p) (hq : P[i + y]? = some q) (h : x ≤ y) (hy : y < n) : ky p ≤ ky q :=
  up_at u (i := x) (j := y) (by rw [seg_at (by omega)]; exact hp) (by rw [seg_at hy]; exact hq) h
theorem wpS_galRs {st : SortSt} {key : Keyed} {arr : Array Keyed} {base n hint : Nat} {Q : Option Nat → SortSt → Prop} (hk : kindOf st = oneType') (hkey : IntP key) (u : Upl ((arr.toList.drop base).take n)) (ip : ∀ x ∈ arr.toList, IntP x) (hn : base + n ≤ arr.size) (hh : hint < n)
    (h : ∀ k, k ≤ n → (∀ i, i < k → fR arr.toList base key i = true) → (∀ i, k ≤ i → i < n → fR arr.toList base key i = false) → Q (some k) st) : wpS (model prog w) A E s ((sortPriv% PySem.Builtin.gallop) false key arr base n hint) Q st := by
  have la : arr.toList.length = arr.size := by simp
  refine wpS_gallop (fR arr.toList base key) hk hkey (fun i hi => ?_) (fun x y hxy hy e => ?_) hh h
  · have hx : arr.toList[base + i]? = some arr.toList[base + i] := List.getElem?_eq_getElem (by omega)
    exact ⟨_, by rw [← hx]; simp, ip _ (List.getElem_mem _), by rw [fR_at hx]; rfl⟩
  · have hx : arr.toList[base + x]? = some arr.toList[base + x] := List.getElem?_eq_getElem (by omega)
    have hy' : arr.toList[base + y]? = some arr.toList[base + y] := List.getElem?_eq_getElem (by omega)
    rw [fR_at hy'] at e
    rw [fR_at hx]
    have := seg_le u hx hy' hxy hy
    simp only [Bool.not_eq_true', decide_eq_false_iff_not] at e ⊢
    omega
theorem wpS_galLs {st : SortSt} {key : Keyed} {arr : Array Keyed} {base n hint : Nat} {Q : Option Nat → SortSt → Prop} (hk : kindOf st = oneType') (hkey : IntP key) (u : Upl ((arr.toList.drop base).take n)) (ip : ∀ x ∈ arr.toList, IntP x) (hn : base + n ≤ arr.size) (hh : hint < n)
    (h : ∀ k, k ≤ n → (∀ i, i < k → fL arr.toList base key i = true) → (∀ i, k ≤ i → i < n → fL arr.toList base key i = false) → Q (some k) st) : wpS (model prog w) A E s ((sortPriv% PySem.Builtin.gallop) true key arr base n hint) Q st := by
  have la : arr.toList.length = arr.size := by simp
  refine wpS_gallop (fL arr.toList base key) hk hkey (fun i hi => ?_) (fun x y hxy hy e => ?_) hh h
  · have hx : arr.toList[base + i]? = some arr.toList[base + i] := List.getElem?_eq_getElem (by omega)
    exact ⟨_, by rw [← hx]; simp, ip _ (List.getElem_mem _), by rw [fL_at hx]; rfl⟩
  · have hx : arr.toList[base + x]? = some arr.toList[base + x] := List.getElem?_eq_getElem (by omega)
    have hy' : arr.toList[base + y]? = some arr.toList[base + y] := List.getElem?_eq_getElem (by omega)
    rw [fL_at hy'] at e
    rw [fL_at hx]
    have := seg_le u hx hy' hxy hy
    simp only [decide_eq_true_eq] at e ⊢
    omega
theorem mem_seg {P : List Keyed} {i n k : Nat} {y : Keyed} (h : y ∈ ((P.drop i).take n).drop k) : ∃ m, k ≤ m ∧ m < n ∧ P[i + m]? = some y := by
  obtain ⟨m, e⟩ := mem_dr h
  have hl := (List.getElem?_eq_some_iff.mp e).1
  rw [List.length_take] at hl
  rw [seg_at (by omega)] at e
  exact ⟨k + m, by omega, by omega, e⟩
theorem fR_sh {P : List Keyed} {i n k : Nat} {v : Keyed} (h : ∀ m, k ≤ m → m < n → fR P i v m = false) : ∀ y ∈ ((P.drop i).take n).drop k, ky v < ky y := fun y hy => by
  obtain ⟨m, h1, h2, e⟩ := mem_seg hy
  have := h m h1 h2
  rw [fR_at e] at this
  simpa using this
theorem fL_sh {P : List Keyed} {i n k : Nat} {v : Keyed} (h : ∀ m, k ≤ m → m < n → fL P i v m = false) : ∀ y ∈ ((P.drop i).take n).drop k, ky v ≤ ky y := fun y hy => by
  obtain ⟨m, h1, h2, e⟩ := mem_seg hy
  have := h m h1 h2
  rw [fL_at e] at this
  simp only [decide_eq_false_iff_not] at this
  omega
theorem fold_set (c : Nat) : ∀ (l : List Keyed) (n : Nat) (xs : Array Keyed), c + n + l.length ≤ xs.size → ((l.zipIdx n).foldl (fun a x => match x with | (p, j) => a.setIfInBounds (c + j) p) xs).toList = xs.toList.take (c + n) ++ l ++ xs.toList.drop (c + n + l.length)
  | [], n, xs, _ => by
    show xs.toList = _
    rw [List.append_nil, List.length_nil, Nat.add_zero, List.take_append_drop]
  | p :: l, n, xs, h => by
    have ll : xs.toList.length = xs.size := by simp
    rw [List.length_cons] at h ⊢
    rw [List.zipIdx_cons, List.foldl_cons]
    show ((l.zipIdx (n + 1)).foldl _ (xs.setIfInBounds (c + n) p)).toList = _
    rw [fold_set c l (n + 1) _ (by rw [Array.size_setIfInBounds]; omega), Array.toList_setIfInBounds, List.drop_set_of_lt (by omega), show c + (n + 1) = c + n + 1 by omega, show c + n + 1 + l.length = c + n + (l.length + 1) by omega]
    have e : (xs.toList.set (c + n) p).take (c + n + 1) = xs.toList.take (c + n) ++ [p] := by
      rw [List.take_add_one, List.take_set_of_le (Nat.le_refl _), List.getElem?_set_self (by omega)]
      rfl
    rw [e, List.append_assoc (xs.toList.take (c + n)) [p] l]
    rfl
theorem up_app {P R : List Keyed} (u : Upl P) (v : Upl R) (c : ∀ x ∈ P, ∀ y ∈ R, ky x ≤ ky y) : Upl (P ++ R) := List.pairwise_append.mpr ⟨u, v, c⟩
theorem wpS_set {σ : Type} {M : Model} {x st : σ} {Q : PUnit → σ → Prop} (h : Q ⟨⟩ x) : wpS M A E s (set x : StateT σ Sem PUnit) Q st := by
  unfold wpS
  rw [StateT.run_set]
  exact wpAny_pure ⟨rfl, h⟩
def mergeAt2 : Nat → StateT SortSt Sem Bool := sortPriv% PySem.Builtin.mergeAt
theorem wpS_mergeAt {st : SortSt} {i sa na pa sb nb pb : Nat} {Q : Bool → SortSt → Prop} (hk : kindOf st = oneType') (hf : failedOf st = none) (h0 : IntKeys (arrOf st)) (p1 : (pendingOf st)[i]? = some (sa, na, pa)) (p2 : (pendingOf st)[i + 1]? = some (sb, nb, pb)) (es : sb = sa + na) (a1 : 1 ≤ na) (b1 : 1 ≤ nb) (le : sb + nb ≤ (arrOf st).size)
    (s1 : Upl (((arrOf st).toList.drop sa).take na)) (s2 : Upl (((arrOf st).toList.drop sb).take nb))
    (h : ∀ (st' : SortSt) (M : List Keyed), kindOf st' = oneType' → failedOf st' = none → pendingOf st' = ((pendingOf st).setIfInBounds i (sa, na + nb, pa)).eraseIdxIfInBounds (i + 1) → (arrOf st').toList = (arrOf st).toList.take sa ++ M ++ (arrOf st).toList.drop (sb + nb) → M.Perm (((arrOf st).toList.drop sa).take na ++ ((arrOf st).toList.drop sb).take nb) → Upl M → Q true st') :
    wpS (model prog w) A E s (mergeAt2 i) Q st := by
  unfold mergeAt2
  walk_at "mergeAt"
  refine wpS_bind (wpS_get ?_)
  rw [show ((sortPriv% PySem.Builtin.SortState.pending) st)[i]? = some (sa, na, pa) from p1, show ((sortPriv% PySem.Builtin.SortState.pending) st)[i + 1]? = some (sb, nb, pb) from p2]
  dsimp -zeta -zetaHave only
  refine wpS_bind (wpS_set ?_)
  obtain ⟨xs, exs⟩ : ∃ xs, arrOf st = xs := ⟨_, rfl⟩
  obtain ⟨st1, est1⟩ : ∃ st1 : SortSt, SortSt.mk' (kindOf st) (arrOf st) (((pendingOf st).setIfInBounds i (sa, na + nb, pa)).eraseIdxIfInBounds (i + 1)) (gallopOf st) (failedOf st) = st1 := ⟨_, rfl⟩
  have k1 : kindOf st1 = oneType' := by rw [← est1]; exact hk
  have f1 : failedOf st1 = none := by rw [← est1]; exact hf
  have e1 : arrOf st1 = xs := by rw [← est1, ← exs]
  have q1 : pendingOf st1 = ((pendingOf st).setIfInBounds i (sa, na + nb, pa)).eraseIdxIfInBounds (i + 1) := by rw [← est1]
  show wpS (model prog w) A E s _ Q (SortSt.mk' (kindOf st) (arrOf st) (((pendingOf st).setIfInBounds i (sa, na + nb, pa)).eraseIdxIfInBounds (i + 1)) (gallopOf st) (failedOf st))
  rw [est1]
  clear est1
  rw [show (sortPriv% PySem.Builtin.SortState.a) st = xs from exs]
  rw [exs] at h0 le s1 s2 h
  clear exs p1 p2 hf hk
  have ll : xs.toList.length = xs.size := by simp
  have ip : ∀ x ∈ xs.toList, IntP x := fun x hx => h0 x hx
  have at' : ∀ i, i < xs.size → ∃ x, xs.toList[i]? = some x ∧ IntP x := fun i hi => ⟨_, List.getElem?_eq_getElem (by omega), ip _ (List.getElem_mem _)⟩
  obtain ⟨b0, hb0, ib0⟩ := at' sb (by omega)
  refine wpS_bind (wpS_elem2 (at_l hb0) ?_)
  refine wpS_bind (wpS_galRs k1 ib0 s1 ip (by omega) (by omega) fun k kn kt kf => ?_)
  dsimp -zeta -zetaHave only
  obtain ⟨S1, eS1⟩ : ∃ S1, (xs.toList.drop sa).take na = S1 := ⟨_, rfl⟩
  obtain ⟨S2, eS2⟩ : ∃ S2, (xs.toList.drop sb).take nb = S2 := ⟨_, rfl⟩
  have l1 : S1.length = na := by rw [← eS1, List.length_take, List.length_drop]; omega
  have l2 : S2.length = nb := by rw [← eS2, List.length_take, List.length_drop]; omega
  have tk1 : S1.take k = (xs.toList.drop sa).take k := by rw [← eS1, List.take_take, Nat.min_eq_left kn]
  have lo1 : ∀ x ∈ S1.take k, ky x ≤ ky b0 := by rw [tk1]; exact fR_lo kt
  have hi1 : ∀ y ∈ S1.drop k, ky b0 < ky y := by rw [← eS1]; exact fR_sh kf
  have bS : S2[0]? = some b0 := by rw [← eS2, seg_at (by omega)]; exact hb0
  rw [eS1] at s1
  rw [eS2] at s2
  have b0l : ∀ y ∈ S2, ky b0 ≤ ky y := up_drop (i := 0) s2 bS
  have whole : Upl (S1 ++ S2) → Q true st1 := fun u => h st1 (S1 ++ S2) k1 f1 q1 (by
    rw [e1, ← eS1, ← eS2, ← List.append_assoc, es, ← List.take_add, ← List.take_add, ← es, List.take_append_drop]) (by rw [eS1, eS2]) u
  by_cases z : (na - k == 0) = true
  · refine wpS_pos z ?_
    have z' : na - k = 0 := by simpa using z
    refine wpS_pure (whole (up_app s1 s2 fun x hx y hy => ?_))
    have := lo1 x (by rw [List.take_of_length_le (by omega)]; exact hx)
    have := b0l y hy
    omega
  refine wpS_neg z ?_
  have z' : na - k ≠ 0 := by simpa using z
  obtain ⟨al, hal, ial⟩ := at' (sa + k + (na - k) - 1) (by omega)
  have aS : S1[na - 1]? = some al := by rw [← eS1, seg_at (by omega), ← hal]; congr 1; omega
  refine wpS_bind (wpS_elem2 (at_l hal) ?_)
  refine wpS_bind (wpS_galLs k1 ial (by rw [eS2]; exact s2) ip (by omega) (by omega) fun m mn mt mf => ?_)
  dsimp -zeta -zetaHave only
  have tk2 : S2.take m = (xs.toList.drop sb).take m := by rw [← eS2, List.take_take, Nat.min_eq_left mn]
  have lo2 : ∀ x ∈ S2.take m, ky x < ky al := by rw [tk2]; exact fL_lo mt
  have hi2 : ∀ y ∈ S2.drop m, ky al ≤ ky y := by rw [← eS2]; exact fL_sh mf
  have all : ∀ x ∈ S1, ky x ≤ ky al := fun x hx => up_take s1 aS x (by rw [List.take_of_length_le (by omega)]; exact hx)
  by_cases y : (m == 0) = true
  · refine wpS_pos y ?_
    have y' : m = 0 := by simpa using y
    subst y'
    exact wpS_pure (whole (up_app s1 s2 fun x hx y hy => Int.le_trans (all x hx) (hi2 y hy)))
  refine wpS_neg y ?_
  have y' : m ≠ 0 := by simpa using y
  walk_at "st"
  extract_lets -underBinder +onlyGivenNames xx yy jp
  subst xx yy
  clear_value (ej : jp = _)
  have ea : (xs.extract (sa + k) sb).toList = S1.drop k := by
    rw [ext_mid, ← eS1, List.drop_take, List.drop_take, List.drop_drop]
    congr 1
    omega
  have eb : (xs.extract sb (sb + m)).toList = S2.take m := by rw [ext_some, tk2]
  have za : (xs.extract (sa + k) sb).size = na - k := by rw [← Array.length_toList, ea, List.length_drop, l1]
  have zb : (xs.extract sb (sb + m)).size = m := by rw [← Array.length_toList, eb, List.length_take]; omega
  have ipa : ∀ x ∈ (xs.extract (sa + k) sb).toList, IntP x := fun x hx => by
    rw [ext_mid] at hx
    exact ip x (List.mem_of_mem_take (List.mem_of_mem_drop hx))
  have ipb : ∀ x ∈ (xs.extract sb (sb + m)).toList, IntP x := fun x hx => by
    rw [ext_some] at hx
    exact ip x (List.mem_of_mem_drop (List.mem_of_mem_take hx))
  have ua : Upl (xs.extract (sa + k) sb).toList := by rw [ea]; exact s1.drop
  have ub : Upl (xs.extract sb (sb + m)).toList := by rw [eb]; exact s2.take
  have c0 : ∀ x y : Keyed, (xs.extract sb (sb + m)).toList[0]? = some x → y ∈ (xs.extract (sa + k) sb).toList → ky x < ky y := fun x y hx hy => by
    rw [eb, List.getElem?_take, if_pos (by omega), bS] at hx
    cases hx
    rw [ea] at hy
    exact hi1 y hy
  have cl : ∀ x y : Keyed, x ∈ (xs.extract sb (sb + m)).toList → (xs.extract (sa + k) sb).toList[(xs.extract (sa + k) sb).size - 1]? = some y → ky x < ky y := fun x y hx hy => by
    rw [za, ea, List.getElem?_drop, show k + (na - k - 1) = na - 1 by omega, aS] at hy
    cases hy
    rw [eb] at hx
    exact lo2 x hx
  have hj : ∀ (R : Array Keyed) (st2 : SortSt), SmG st1 st2 → R.toList.Perm ((xs.extract (sa + k) sb).toList ++ (xs.extract sb (sb + m)).toList) → Upl R.toList → wpS (model prog w) A E s (jp R) Q st2 := by
    intro R st2 sg pm up
    rw [ej]
    clear ej jp
    walk_at "st"
    rw [ea, eb] at pm
    have rl : R.toList.length = na - k + m := by rw [pm.length_eq, List.length_append, List.length_drop, List.length_take, l1, l2]; omega
    refine wpS_bind (wpS_modify ?_)
    refine wpS_bind (wpS_get ?_)
    have ff : (sortPriv% PySem.Builtin.SortState.failed) st2 = none := sg.f.trans f1
    show wpS (model prog w) A E s (pure ((sortPriv% PySem.Builtin.SortState.failed) st2).isNone) Q _
    rw [ff]
    have tk : ∀ x ∈ S1.take k, ∀ y ∈ S1.drop k, ky x ≤ ky y := by
      have : Upl (S1.take k ++ S1.drop k) := by rw [List.take_append_drop]; exact s1
      exact (List.pairwise_append.mp this).2.2
    have tk' : ∀ x ∈ S2.take m, ∀ y ∈ S2.drop m, ky x ≤ ky y := by
      have : Upl (S2.take m ++ S2.drop m) := by rw [List.take_append_drop]; exact s2
      exact (List.pairwise_append.mp this).2.2
    refine wpS_pure (h _ (S1.take k ++ R.toList ++ S2.drop m) (sg.k.trans k1) rfl (sg.p.trans q1) ?_ ?_ ?_)
    · show (R.toList.zipIdx.foldl (fun a x => match x with | (p, j) => a.setIfInBounds (sa + k + j) p) (arrOf st2)).toList = _
      rw [sg.a, e1, fold_set (sa + k) R.toList 0 xs (by omega), Nat.add_zero, rl, show sa + k + (na - k + m) = sb + m by omega, List.take_add, ← tk1]
      have ed : xs.toList.drop (sb + m) = S2.drop m ++ xs.toList.drop (sb + nb) := by
        rw [← List.drop_drop, ← eS2]
        have e := congrArg (List.drop m) (List.take_append_drop nb (xs.toList.drop sb))
        rw [List.drop_append, List.length_take, List.length_drop, show m - min nb (xs.toList.length - sb) = 0 by omega, List.drop_zero, List.drop_drop] at e
        exact e.symm
      rw [ed]
      simp only [List.append_assoc]
    · rw [eS1, eS2]
      have e : S1 ++ S2 = S1.take k ++ (S1.drop k ++ S2.take m) ++ S2.drop m := by
        rw [List.append_assoc, List.append_assoc, List.take_append_drop, ← List.append_assoc, List.take_append_drop]
      rw [e]
      exact (List.Perm.append_left _ pm).append_right _
    · refine up_app (up_app s1.take up fun x hx y hy => ?_) s2.drop fun x hx y hy => ?_
      · rcases List.mem_append.mp (pm.mem_iff.mp hy) with hy | hy
        · exact tk x hx y hy
        · have := lo1 x hx
          have := b0l y (List.mem_of_mem_take hy)
          omega
      · rcases List.mem_append.mp hx with hx | hx
        · have := lo1 x hx
          have := b0l y (List.mem_of_mem_drop hy)
          omega
        · rcases List.mem_append.mp (pm.mem_iff.mp hx) with hx | hx
          · exact Int.le_trans (all x (List.mem_of_mem_drop hx)) (hi2 y hy)
          · exact tk' x hx y hy
  clear ej
  by_cases c : na - k ≤ m
  · refine wpS_pos c ?_
    exact wpS_bind (wpS_mergeLo k1 ua ub ipa ipb (by omega) (by omega) (fun x y a b => Int.le_of_lt (c0 x y a b)) cl fun R st2 sg pm up => hj R st2 sg pm up)
  · refine wpS_neg c ?_
    exact wpS_bind (wpS_mergeHi k1 ua ub ipa ipb (by omega) (by omega) c0 cl fun R st2 sg pm up => hj R st2 sg pm up)
end PyProof.Rows
namespace PyProof.Rows
open PySem
local macro_rules | `(tactic| walk_at "sortRuns") => do
  let n := Lean.mkIdent (Lean.mkPrivateNameCore `PySem.Builtin.List.W1All `PySem.Builtin.sortRuns)
  `(tactic| delta $n)
local macro_rules | `(tactic| walk_at "st") => `(tactic| try dsimp -zeta -zetaHave only)
local macro_rules | `(tactic| walk_at "l3") => `(tactic| (extract_lets -underBinder +onlyGivenNames a b c; subst a b c))
local macro_rules | `(tactic| walk_at "l11") => `(tactic| (extract_lets -underBinder +onlyGivenNames a b c d e f g h i j k; subst a b c d e f g h i j k; dsimp -zeta -zetaHave only))
local macro_rules | `(tactic| walk_at "l1") => `(tactic| (extract_lets -underBinder +onlyGivenNames a; subst a; try dsimp -zeta -zetaHave only))
local macro_rules | `(tactic| walk_at "l2") => `(tactic| (extract_lets -underBinder +onlyGivenNames a b; subst a b; try dsimp -zeta -zetaHave only))
local macro_rules | `(tactic| walk_at "l4") => `(tactic| (extract_lets -underBinder +onlyGivenNames a b c d; subst a b c d; try dsimp -zeta -zetaHave only))
variable {prog : Program} {w : World} {A : Around} {E : Value → Shared → Prop} {s : Shared}
/-- runs that rise, one behind the other, from c to e -/
def Rn (L : List Keyed) : List (Nat × Nat × Nat) → Nat → Nat → Prop
  | [], c, e => c = e
  | p :: t, c, e => p.1 = c ∧ 1 ≤ p.2.1 ∧ Upl ((L.drop p.1).take p.2.1) ∧ Rn L t (c + p.2.1) e
theorem Rn.le {L : List Keyed} : ∀ {T : List (Nat × Nat × Nat)} {c e : Nat}, Rn L T c e → c + T.length ≤ e
  | [], c, e, h => by cases h; exact Nat.le_refl _
  | p :: t, c, e, ⟨_, h1, _, h⟩ => by
    have := Rn.le h
    rw [List.length_cons]
    omega
theorem Rn.app {L : List Keyed} : ∀ {T1 T2 : List (Nat × Nat × Nat)} {c e : Nat}, Rn L (T1 ++ T2) c e ↔ ∃ m, Rn L T1 c m ∧ Rn L T2 m e
  | [], T2, c, e => ⟨fun h => ⟨c, rfl, h⟩, fun ⟨m, h1, h2⟩ => by cases h1; exact h2⟩
  | p :: t, T2, c, e => by
    constructor
    · rintro ⟨h1, h2, h3, h4⟩
      obtain ⟨m, g1, g2⟩ := Rn.app.mp h4
      exact ⟨m, ⟨h1, h2, h3, g1⟩, g2⟩
    · rintro ⟨m, ⟨h1, h2, h3, g1⟩, g2⟩
      exact ⟨h1, h2, h3, Rn.app.mpr ⟨m, g1, g2⟩⟩
theorem Rn.lo {L L' : List Keyed} {m : Nat} (hm : L.take m = L'.take m) : ∀ {T : List (Nat × Nat × Nat)} {c e : Nat}, Rn L T c e → e ≤ m → Rn L' T c e
  | [], c, e, h, _ => h
  | p :: t, c, e, ⟨h1, h2, h3, h4⟩, he => by
    have hl := h4.le
    refine ⟨h1, h2, ?_, Rn.lo hm h4 he⟩
    have cut : ∀ Z : List Keyed, (Z.drop p.1).take p.2.1 = ((Z.take m).drop p.1).take p.2.1 := fun Z => by
      rw [List.drop_take, List.take_take, Nat.min_eq_left (by omega)]
    rw [cut L', ← hm, ← cut L]
    exact h3
theorem Rn.hi {L L' : List Keyed} {m : Nat} (hm : L.drop m = L'.drop m) : ∀ {T : List (Nat × Nat × Nat)} {c e : Nat}, Rn L T c e → m ≤ c → Rn L' T c e
  | [], c, e, h, _ => h
  | p :: t, c, e, ⟨h1, h2, h3, h4⟩, he => by
    refine ⟨h1, h2, ?_, Rn.hi hm h4 (by omega)⟩
    have cut : ∀ Z : List Keyed, Z.drop p.1 = (Z.drop m).drop (p.1 - m) := fun Z => by rw [List.drop_drop]; congr 1; omega
    rw [cut L', ← hm, ← cut L]
    exact h3
theorem Rn.like {L : List Keyed} : ∀ {T T' : List (Nat × Nat × Nat)} {c e : Nat}, T.map (fun p => (p.1, p.2.1)) = T'.map (fun p => (p.1, p.2.1)) → Rn L T c e → Rn L T' c e
  | [], [], c, e, _, h => h
  | p :: t, q :: t', c, e, hm, ⟨h1, h2, h3, h4⟩ => by
    rw [List.map_cons, List.map_cons] at hm
    injection hm with a b
    injection a with a1 a2
    refine ⟨by rw [← a1]; exact h1, by rw [← a2]; exact h2, by rw [← a1, ← a2]; exact h3, ?_⟩
    rw [← a2]
    exact Rn.like b h4
  | [], q :: t', c, e, hm, h => by cases hm
  | p :: t, [], c, e, hm, h => by cases hm
structure SI (a₀ : Array Keyed) (lo : Nat) (st : SortSt) : Prop where
  perm : (arrOf st).Perm a₀
  kind : kindOf st = oneType'
  failed : failedOf st = none
  rn : Rn (arrOf st).toList (pendingOf st).toList 0 lo
  le : lo ≤ a₀.size
theorem SI.size {a₀ : Array Keyed} {lo : Nat} {st : SortSt} (h : SI a₀ lo st) : (arrOf st).size = a₀.size := h.perm.size_eq
theorem SI.keys {a₀ : Array Keyed} {lo : Nat} {st : SortSt} (h : SI a₀ lo st) (h0 : IntKeys a₀) : IntKeys (arrOf st) := fun p hp => h0 p ((Array.perm_iff_toList_perm.mp h.perm).mem_iff.mp hp)
theorem wpS_mergeSI {a₀ : Array Keyed} {lo i : Nat} {st : SortSt} {Q : Bool → SortSt → Prop} (h0 : IntKeys a₀) (hS : SI a₀ lo st) (hi : i + 1 < (pendingOf st).size) (h : ∀ st', SI a₀ lo st' → (pendingOf st').size + 1 = (pendingOf st).size → (arrOf st').toList.drop lo = (arrOf st).toList.drop lo → Q true st') :
    wpS (model prog w) A E s ((sortPriv% PySem.Builtin.mergeAt) i) Q st := by
  have tl : (pendingOf st).toList.length = (pendingOf st).size := by simp
  obtain ⟨T, eT⟩ : ∃ T, (pendingOf st).toList = T := ⟨_, rfl⟩
  rw [eT] at tl
  have g1 : (pendingOf st)[i]? = some T[i] := by rw [← List.getElem?_eq_getElem, ← eT]; simp
  have g2 : (pendingOf st)[i + 1]? = some T[i + 1] := by rw [← List.getElem?_eq_getElem, ← eT]; simp
  have sp : T = T.take i ++ T[i] :: T[i + 1] :: T.drop (i + 2) := by
    rw [← List.drop_eq_getElem_cons, ← List.drop_eq_getElem_cons, List.take_append_drop]
  obtain ⟨T1, eT1⟩ : ∃ T1, T.take i = T1 := ⟨_, rfl⟩
  obtain ⟨T2, eT2⟩ : ∃ T2, T.drop (i + 2) = T2 := ⟨_, rfl⟩
  obtain ⟨⟨sa, na, pa⟩, ep⟩ : ∃ p, T[i] = p := ⟨_, rfl⟩
  obtain ⟨⟨sb, nb, pb⟩, eq⟩ : ∃ p, T[i + 1] = p := ⟨_, rfl⟩
  have t1l : T1.length = i := by rw [← eT1, List.length_take]; omega
  rw [ep] at g1
  rw [eq] at g2
  rw [eT1, eT2, ep, eq] at sp
  have rn := hS.rn
  rw [eT, sp] at rn
  obtain ⟨m, r1, ⟨x1, x2, x3, ⟨y1, y2, y3, r2⟩⟩⟩ := Rn.app.mp rn
  dsimp only at x1 x2 x3 y1 y2 y3 r2
  have le2 := r2.le
  have le := hS.le
  have sz := hS.size
  have ll : (arrOf st).toList.length = (arrOf st).size := by simp
  refine wpS_mergeAt hS.kind hS.failed (hS.keys h0) g1 g2 (by omega) x2 y2 (by omega) x3 y3 fun st' M k' f' p' e' pm up => ?_
  have Ml : M.length = na + nb := by
    rw [pm.length_eq, List.length_append, List.length_take, List.length_take, List.length_drop, List.length_drop]
    omega
  have hpp : (pendingOf st').toList = T1 ++ (sa, na + nb, pa) :: T2 := by
    rw [p']
    have : (((pendingOf st).setIfInBounds i (sa, na + nb, pa)).eraseIdxIfInBounds (i + 1)).toList = (T.set i (sa, na + nb, pa)).eraseIdx (i + 1) := by
      unfold Array.eraseIdxIfInBounds
      rw [dif_pos (by rw [Array.size_setIfInBounds]; exact hi), Array.toList_eraseIdx, Array.toList_setIfInBounds, eT]
    rw [this, sp, ← t1l, List.set_append_right _ _ (Nat.le_refl _), Nat.sub_self, List.set_cons_zero, List.eraseIdx_append_of_length_le (by omega), show T1.length + 1 - T1.length = 1 by omega]
    rfl
  have ptl : (pendingOf st').size + 1 = (pendingOf st).size := by
    have a := congrArg List.length hpp
    have b := congrArg List.length sp
    simp only [List.length_append, List.length_cons, Array.length_toList] at a b
    omega
  have es : sb = sa + na := by omega
  have lt : ((arrOf st).toList.take sa).length = sa := by rw [List.length_take]; omega
  have tke : (arrOf st).toList.take m = (arrOf st').toList.take m := by
    rw [e', List.append_assoc, List.take_append_of_le_length (by omega), List.take_take, x1, Nat.min_self]
  have dre : (arrOf st).toList.drop (sb + nb) = (arrOf st').toList.drop (sb + nb) := by
    rw [e', List.drop_left' (by rw [List.length_append, lt, Ml]; omega)]
  refine h st' ⟨?_, k', f', ?_, le⟩ ptl (by
    have e := congrArg (List.drop (lo - (sb + nb))) dre
    rw [List.drop_drop, List.drop_drop, show sb + nb + (lo - (sb + nb)) = lo by omega] at e
    exact e.symm)
  · refine Array.Perm.trans (Array.perm_iff_toList_perm.mpr ?_) hS.perm
    rw [e']
    have e2 : (arrOf st).toList = (arrOf st).toList.take sa ++ (((arrOf st).toList.drop sa).take na ++ ((arrOf st).toList.drop sb).take nb) ++ (arrOf st).toList.drop (sb + nb) := by
      have es : sb = sa + na := by omega
      rw [← List.append_assoc, es, ← List.take_add, ← List.take_add, List.take_append_drop]
    exact ((List.Perm.append_left _ pm).append_right _).trans (List.Perm.of_eq e2.symm)
  · rw [hpp]
    refine Rn.app.mpr ⟨m, r1.lo tke (Nat.le_refl _), x1, by show 1 ≤ na + nb; omega, ?_, ?_⟩
    · show Upl (((arrOf st').toList.drop sa).take (na + nb))
      have : ((arrOf st').toList.drop sa).take (na + nb) = M := by
        rw [e', List.append_assoc, List.drop_append, lt, Nat.sub_self, List.drop_zero, List.drop_eq_nil_of_le (by omega), List.nil_append, List.take_append_of_le_length (by omega), List.take_of_length_le (by omega)]
      rw [this]
      exact up
    · show Rn _ T2 (m + (na + nb)) lo
      have := r2.hi dre (by omega)
      rw [show m + (na + nb) = m + na + nb by omega]
      exact this
theorem sin_up' {xs : Array Keyed} {lo n : Nat} (h : Sin xs lo n) (hn : lo + n ≤ xs.size) : Upl ((xs.toList.drop lo).take n) := by
  have ll : xs.toList.length = xs.size := by simp
  refine List.pairwise_iff_getElem.mpr fun i j hi hj hij => ?_
  rw [List.length_take, List.length_drop] at hj
  rw [List.getElem_take, List.getElem_drop, List.getElem_take, List.getElem_drop]
  have z := h (lo + i) (lo + j) (by omega) (by omega) (by omega)
  rw [K_eq (by omega), K_eq (by omega)] at z
  simpa [ky] using z
theorem SB.si {a₀ : Array Keyed} {lo : Nat} {st0 st : SortSt} (h : SB lo st0 st) (hS : SI a₀ lo st0) : SI a₀ lo st := by
  refine ⟨h.perm.trans hS.perm, h.kind, h.failed.trans hS.failed, ?_, hS.le⟩
  rw [h.pend]
  refine hS.rn.lo (List.ext_getElem? fun i => ?_) (Nat.le_refl _)
  rw [List.getElem?_take, List.getElem?_take]
  split
  · rename_i hi
    have := h.low i hi
    rw [← Array.getElem?_toList, ← Array.getElem?_toList] at this
    exact this.symm
  · rfl
theorem ite_lt (c : Bool) {n : Nat} (h : ¬ n ≤ 1) : (if c = true then n - 2 - 1 else n - 2) + 1 < n := by split <;> omega
def sortRuns2 : StateT SortSt Sem Unit := sortPriv% PySem.Builtin.sortRuns
theorem wpS_sortAll {a₀ : Array Keyed} {st : SortSt} {Q : Unit → SortSt → Prop} (h0 : IntKeys a₀) (hS : SI a₀ 0 st) (h : ∀ st', (arrOf st').Perm a₀ → failedOf st' = none → Upl (arrOf st').toList → Q () st') : wpS (model prog w) A E s sortRuns2 Q st := by
  unfold sortRuns2
  walk_at "sortRuns"
  refine wpS_bind (wpS_get ?_)
  rw [show ((sortPriv% PySem.Builtin.SortState.a) st).size = a₀.size from hS.size]
  walk_at "st"
  walk_at "l3"
  generalize (sortPriv% PySem.Builtin.minRun) a₀.size a₀.size 0 = mr
  refine wpS_bind (wpS_mono (wpS_forRange (I := fun x c st' => ∃ lo, c = (none, lo) ∧ SI a₀ lo st' ∧ (lo = a₀.size ∨ x ≤ lo)) (Q := fun c st' => c = (none, a₀.size) ∧ SI a₀ a₀.size st') ?step ?fin ⟨0, rfl, hS, .inr (Nat.le_refl _)⟩) ?post)
  case fin =>
    rintro c st' ⟨lo, rfl, hS', g⟩
    have := hS'.le
    have : lo = a₀.size := by omega
    subst this
    exact ⟨rfl, hS'⟩
  case step =>
    rintro x c st' _ hx ⟨lo, rfl, hS', g⟩
    have le := hS'.le
    have sz := hS'.size
    by_cases z : lo ≥ a₀.size
    · refine wpS_pos z ?_
      have : lo = a₀.size := by omega
      subst this
      exact wpS_pure ⟨rfl, hS'⟩
    refine wpS_neg z ?_
    refine wpS_abs fun R hR => ?_
    refine wpS_bind (wpS_countS hS'.kind (hS'.keys h0) (by omega) (by omega) fun m st1 hB1 m1 m2 hs1 => ?_)
    walk_at "st"
    extract_lets -underBinder +onlyGivenNames nn jp
    subst nn
    clear_value (ej : jp = _)
    have hj : ∀ (n : Nat) (st2 : SortSt), SB lo st' st2 → 1 ≤ n → lo + n ≤ a₀.size → Sin (arrOf st2) lo n → wpS (model prog w) A E s (jp () n) R st2 := by
      intro n st2 hB2 n1 n2 hs2
      rw [ej]
      clear ej jp
      walk_at "st"
      have S2 := hB2.si hS'
      have u2 := sin_up' hs2 (by rw [S2.size]; exact n2)
      refine wpS_bind (wpS_get ?_)
      walk_at "st"
      extract_lets -underBinder +onlyGivenNames jp
      clear_value (ej : jp = _)
      have hj : ∀ st3 : SortSt, SI a₀ lo st3 → (arrOf st3).toList.drop lo = (arrOf st2).toList.drop lo → wpS (model prog w) A E s (jp ()) R st3 := by
        intro st3 S3 e3
        rw [ej]
        clear ej jp
        walk_at "st"
        refine wpS_bind (wpS_modify (wpS_pure (hR _ _ ⟨lo + n, rfl, ⟨S3.perm, S3.kind, S3.failed, ?_, n2⟩, ?_⟩)))
        · show Rn (arrOf st3).toList ((pendingOf st3).push (lo, n, 0)).toList 0 (lo + n)
          rw [Array.toList_push]
          refine Rn.app.mpr ⟨lo, S3.rn, rfl, n1, ?_, rfl⟩
          show Upl (((arrOf st3).toList.drop lo).take n)
          rw [e3]
          exact u2
        · rcases g with g | g
          · exact absurd g (by omega)
          · exact .inr (by omega)
      clear ej
      cases eb : ((sortPriv% PySem.Builtin.SortState.pending) st2).back? with
      | none => exact hj st2 S2 rfl
      | some p =>
        obtain ⟨s1, n1', p1⟩ := p
        walk_at "st"
        extract_lets -underBinder +onlyGivenNames pw
        clear_value pw
        refine wpS_bind (wpS_mono (wpS_forRange (I := fun _ c st3 => c = (none, ()) ∧ SI a₀ lo st3 ∧ (arrOf st3).toList.drop lo = (arrOf st2).toList.drop lo) (Q := fun c st3 => c = (none, ()) ∧ SI a₀ lo st3 ∧ (arrOf st3).toList.drop lo = (arrOf st2).toList.drop lo) ?pstep (fun c st3 q => q) ⟨rfl, S2, rfl⟩) ?ppost)
        case pstep =>
          rintro y c st3 _ hy ⟨rfl, S3, e3⟩
          refine wpS_bind (wpS_get ?_)
          walk_at "st"
          walk_at "l1"
          by_cases big : ((sortPriv% PySem.Builtin.SortState.pending) st3).size > 1
          · rw [if_pos big]
            obtain ⟨⟨q1, q2, q3⟩, eq⟩ : ∃ p, ((sortPriv% PySem.Builtin.SortState.pending) st3)[((sortPriv% PySem.Builtin.SortState.pending) st3).size - 2]? = some p := ⟨_, getElem?_pos _ _ (by omega)⟩
            rw [eq]
            dsimp -zeta -zetaHave only
            split
            · exact wpS_pure ⟨rfl, S3, e3⟩
            · exact wpS_bind (wpS_mergeSI h0 S3 (show (pendingOf st3).size - 2 + 1 < (pendingOf st3).size from by have : (pendingOf st3).size > 1 := big; omega) fun st4 S4 _ e4 => wpS_pure ⟨rfl, S4, e4.trans e3⟩)
          · rw [if_neg big]
            exact wpS_pure ⟨rfl, S3, e3⟩
        case ppost =>
          rintro c st3 ⟨rfl, S3, e3⟩
          walk_at "st"
          walk_at "l1"
          refine wpS_bind (wpS_modify (hj _ ⟨S3.perm, S3.kind, S3.failed, ?_, S3.le⟩ e3))
          refine Rn.like ?_ S3.rn
          show _ = List.map _ ((pendingOf st3).modify _ _).toList
          rw [Array.toList_modify]
          refine List.ext_getElem? fun i => ?_
          rw [List.getElem?_map, List.getElem?_map, List.getElem?_modify]
          cases (pendingOf st3).toList[i]? with
          | none => rfl
          | some p =>
            show some (p.1, p.2.1) = some ((if _ = i then _ else p).1, (if _ = i then _ else p).2.1)
            split <;> rfl
    clear ej
    by_cases c : m < mr
    · refine wpS_pos c ?_
      refine wpS_bind (wpS_lift (wpAny_rule ⟨rfl, ?_⟩))
      refine wpS_bind (wpS_binS (hS'.keys h0) (by rw [sz]; omega) (by omega) hB1 hs1 fun st2 hB2 hs2 => ?_)
      exact hj _ st2 hB2 (by omega) (by omega) hs2
    · refine wpS_neg c ?_
      exact hj m st1 hB1 m1 (by omega) hs1
  case post =>
    rintro c st' ⟨rfl, hS'⟩
    walk_at "st"
    walk_at "l1"
    have pl : (pendingOf st').size ≤ a₀.size := by
      have := hS'.rn.le
      rw [Array.length_toList] at this
      omega
    refine wpS_bind (wpS_mono (wpS_forRange (I := fun x c st3 => c = (none, ()) ∧ SI a₀ a₀.size st3 ∧ ((pendingOf st3).size ≤ 1 ∨ (pendingOf st3).size + x ≤ a₀.size)) (Q := fun c st3 => c = (none, ()) ∧ SI a₀ a₀.size st3 ∧ (pendingOf st3).size ≤ 1) ?fstep ?ffin ⟨rfl, hS', .inr pl⟩) ?fpost)
    case ffin =>
      rintro c st3 ⟨rfl, S3, g⟩
      exact ⟨rfl, S3, by omega⟩
    case fpost =>
      rintro c st3 ⟨rfl, S3, g⟩
      refine wpS_pure (h st3 S3.perm S3.failed ?_)
      have rn := S3.rn
      have sz := S3.size
      have ll : (arrOf st3).toList.length = (arrOf st3).size := by simp
      have tl : (pendingOf st3).toList.length = (pendingOf st3).size := by simp
      match e : (pendingOf st3).toList with
      | [] =>
        rw [e] at rn
        have rn' : 0 = a₀.size := rn
        rw [List.eq_nil_of_length_eq_zero (show (arrOf st3).toList.length = 0 by omega)]
        exact List.Pairwise.nil
      | [p] =>
        rw [e] at rn
        obtain ⟨r1, _, r3, r4⟩ := rn
        have r4' : 0 + p.2.1 = a₀.size := r4
        rw [r1, List.drop_zero, List.take_of_length_le (by omega)] at r3
        exact r3
      | p :: q :: t =>
        rw [e] at tl
        simp only [List.length_cons] at tl
        omega
    case fstep =>
      rintro x c st3 _ hx ⟨rfl, S3, g⟩
      refine wpS_bind (wpS_get ?_)
      by_cases z : ((sortPriv% PySem.Builtin.SortState.pending) st3).size ≤ 1
      · refine wpS_pos z ?_
        exact wpS_pure ⟨rfl, S3, z⟩
      refine wpS_neg z ?_
      refine wpS_bind (wpS_mergeSI h0 S3 (ite_lt _ z) fun st4 S4 p4 _ => wpS_pure ⟨rfl, S4, ?_⟩)
      have z' : ¬ (pendingOf st3).size ≤ 1 := z
      omega
end PyProof.Rows
namespace PyProof.Rows
open PySem
variable {prog : Program} {w : World} {A : Around} {E : Value → Shared → Prop} {s : Shared}
theorem upl_to {xs : Array Keyed} (u : Upl xs.toList) : SortedTo xs xs.size := fun i j hij hj => by
  have ll : xs.toList.length = xs.size := by simp
  have hi' : i < xs.size := by omega
  rw [K_eq hi', K_eq hj]
  have := up_at u (i := i) (j := j) (List.getElem?_eq_getElem (by omega)) (List.getElem?_eq_getElem (by omega)) hij
  simpa [ky] using this
/-- what is left to do behind the sorting itself -/
theorem sort_any {a : Addr} {vs : List Value} {ns : List Int} {n : Nat} {P : Fin → Shared → Prop} (ho : s.heap.get? a = some (seqObj "list" vs.toArray n)) (hI : IntsAre vs ns) (hz : vs.length ≤ sizeLine)
    (h : ∀ (out : Array Value) (ns' : List Int), IntsAre out.toList ns' → ns'.Perm ns → ns'.Pairwise (· ≤ ·) → P (.done (.ret .none)) { s with heap := sortedHeap s.heap a vs out }) :
    wpAny (model prog w) A (Builtin.«list.sort» ⟨[.ref a], []⟩) P E s := by
  by_cases h64 : vs.length < 64
  · exact list_sort_tree ho hI h64 h
  obtain ⟨v₁, v₂, rest, e⟩ : ∃ v₁ v₂ rest, vs = v₁ :: v₂ :: rest := by
    match vs, h64 with
    | [], h64 => exact absurd (by decide) h64
    | [_], h64 => exact absurd (by show 1 < 64; decide) h64
    | v₁ :: v₂ :: rest, _ => exact ⟨v₁, v₂, rest, rfl⟩
  have sz : vs.toArray.size = vs.length := by simp
  have ha : a < s.heap.objs.size := Heap.lt_size ho
  rw [list_sort_plain]
  refine wpAny_bind (listItems_at ho rfl (wpAny_bind (listUpdate_at ho rfl ?_)))
  obtain ⟨e1, ho1⟩ : ∃ e1, (s.heap.update a (Obj.mapSeq fun _ => #[])).get? a = some (seqObj "list" #[] e1) := ⟨_, get?_update_seq ho (fun _ => #[])⟩
  refine wpAny_bind (seqEpoch_at ho1 rfl (wpAny_bind (wpAny_newTuple (wpAny_bind (wpAny_newList (wpAny_holding ?_))))))
  have ho6 : (((s.heap.update a (Obj.mapSeq fun _ => #[])).push (seqObj "tuple" vs.toArray 0)).push (seqObj "list" #[] 0)).get? a = some (seqObj "list" #[] e1) := by
    rw [Heap.get?_push_ne _ _ _ (by rw [size_push', Heap.size_update]; exact Nat.ne_of_lt (Nat.lt_succ_of_lt ha)), Heap.get?_push_ne _ _ _ (by rw [Heap.size_update]; exact Nat.ne_of_lt ha)]
    exact ho1
  show wpAny (model prog w) A _ P E { s with heap := ((s.heap.update a (Obj.mapSeq fun _ => #[])).push (seqObj "tuple" vs.toArray 0)).push (seqObj "list" #[] 0) }
  have n2 : ¬ vs.toArray.size < 2 := by omega
  dsimp only
  rw [if_neg n2, if_neg n2]
  have kk : keyKind' vs.toArray = pure oneType' := by subst e; exact keyKind_ints hI
  rw [kk]
  refine wpAny_bind (wpAny_pure ?_)
  have run := wpS_sortAll (prog := prog) (w := w) (A := A) (E := E) (s := { s with heap := ((s.heap.update a (Obj.mapSeq fun _ => #[])).push (seqObj "tuple" vs.toArray 0)).push (seqObj "list" #[] 0) }) (a₀ := pairsOf vs) (st := SortSt.mk' oneType' (vs.toArray.zip vs.toArray) #[] 7 none)
    (Q := fun _ st' => (arrOf st').Perm (pairsOf vs) ∧ failedOf st' = none ∧ Upl (arrOf st').toList) hI.intKeys ⟨Array.Perm.refl _, rfl, rfl, rfl, Nat.zero_le _⟩ fun st' q1 q2 q3 => ⟨q1, q2, q3⟩
  refine wpAny_bind (wpAny_mono run ?_ fun _ _ e => e)
  rintro ⟨⟨⟩, st'⟩ s' ⟨rfl, hp, hf, hu⟩
  dsimp only
  refine wpAny_bind (seqEpoch_at ho6 rfl ?_)
  refine wpAny_bind (listUpdate_at ho6 rfl ?_ (hsz2 := by refine Nat.le_trans (Nat.le_of_eq ((Array.size_map ..).trans (hp.size_eq.trans (pairsOf_size _)))) ?_; omega))
  rw [hf]
  simp only [bne_self_eq_false, Bool.false_eq_true, if_false]
  obtain ⟨ns', h1, h2, h3⟩ := sorted_out hI hp (by rw [← hp.size_eq]; exact upl_to hu)
  exact wpAny_pure (h _ ns' h1 h2 h3)
theorem sorted_any {l : Addr} {vs : List Value} {ns : List Int} {Q : Value → Shared → Prop} (hl : s.heap.IsList l vs.toArray) (hI : IntsAre vs ns) (hz : vs.length ≤ sizeLine)
    (h : ∀ (out : Array Value) (ns' : List Int), IntsAre out.toList ns' → ns'.Perm ns → ns'.Pairwise (· ≤ ·) → Q (.ref (s.heap.objs.size + 1)) { s with heap := sortedAll s.heap vs out }) :
    wpAny (model prog w) A (call (.builtin "sorted") [.ref l]) Q E s := by
  refine Calls.call_function_entry kind_sorted plain_sorted entry_sorted (args_sorted1 _) ?_
  unfold Builtin.«sorted»
  refine wpAny_bind (m := checkCount "sorted" 1 1 _) (wpAny_pure ?_)
  refine wpAny_bind (collect_list hl ?_ hz)
  refine wpAny_bind (wpAny_newList ?_ hz)
  have hsz : ((s.heap.push (seqObj "list" #[] 0)).update s.heap.objs.size (Obj.mapSeq (· ++ vs.toArray))).objs.size = s.heap.objs.size + 1 := by
    rw [Heap.size_update, size_push']
  have hoL : (((s.heap.push (seqObj "list" #[] 0)).update s.heap.objs.size (Obj.mapSeq (· ++ vs.toArray))).push (seqObj "list" vs.toArray 0)).get? (s.heap.objs.size + 1) = some (seqObj "list" vs.toArray 0) := by
    rw [← hsz]; exact Heap.get?_push_size _ rfl
  show wpAny _ _ _ _ _ { s with heap := ((s.heap.push (seqObj "list" #[] 0)).update s.heap.objs.size (Obj.mapSeq (· ++ vs.toArray))).push (seqObj "list" vs.toArray 0) }
  rw [hsz]
  refine wpAny_bind (wpAny_holding (wpAny_call_entry slot_list_sort ⟨_, hoL, rfl⟩ entry_list_sort (sort_any hoL hI hz fun out ns' a1 a2 a3 => ⟨_, rfl, ?_⟩) (args_list_sort _)))
  exact wpAny_pure ⟨_, rfl, h out ns' a1 a2 a3⟩
end PyProof.Rows
namespace L2
open PySem PySem.Spec PyProof.Rows
section
variable {X : Cx}
def rSortA (K : PySem.W.Frag) : List V → Hp → VK → Prop := fun xs H Q => ∃ (p : Addr) (ns : List Int), xs = [.ref p] ∧ SqL K H p (ns.map V.int) ∧ ∀ (l : Addr) (out : List Int), H l = none → out.Perm ns → out.Pairwise (· ≤ ·) → Q (.ref l) (upd H l (.lst (out.map V.int)))
theorem call_sortA : CallR X (.builtin "sorted") (rSortA X.K) := by
  intro pins s σ H xs us Q I r h
  obtain ⟨p, ns, rfl, hq, q⟩ := h
  obtain ⟨u, rfl, ru⟩ := vals1 r
  cases ru
  obtain ⟨its, rv, pl, hz⟩ := I.list hq
  have hi := ints_are rv
  have hl := rv.length
  rw [List.length_map] at hl hz
  refine sorted_any pl.isList hi (by omega) fun out ns' a1 a2 a3 => ?_
  obtain ⟨e, he⟩ := sortedAll_at s.heap its out
  refine ⟨.ref (s.heap.objs.size + 1), _, I.laid (t' := s.toks) (fun _ _ => sortedAll_old) (Nat.le_succ _) (show ObjOk X.prog X.w _ _ _ (.lst (ns'.map V.int)) from ⟨?_, out.toList, e, vals_of a1, ?_⟩), rfl, q _ ns' (I.hok.fresh (Nat.le_succ _)) a2 a3⟩
  · rw [List.length_map, a2.length_eq]
    omega
  · exact he
end
end L2


namespace K8
theorem sub_le : ∀ {a b : List Nat}, a.Nodup → (∀ x ∈ a, x ∈ b) → a.length ≤ b.length
  | [], _, _, _ => Nat.zero_le _
  | x :: a, b, nd, h => by
    obtain ⟨n1, n2⟩ := List.nodup_cons.mp nd
    have hx := h x (by simp)
    have ih := sub_le (a := a) (b := b.erase x) n2 fun y hy => (List.mem_erase_of_ne (fun e : y = x => n1 (e ▸ hy))).mpr (h y (List.mem_cons_of_mem _ hy))
    rw [List.length_erase_of_mem hx] at ih
    have : 0 < b.length := List.length_pos_of_mem hx
    rw [List.length_cons]
    omega
theorem len_le {a : List Nat} {N : Nat} (nd : a.Nodup) (h : ∀ x ∈ a, x < N) : a.length ≤ N := by
  have := sub_le (b := List.range N) nd fun x hx => List.mem_range.mpr (h x hx)
  rwa [List.length_range] at this
theorem nd_inj {l : List Nat} (nd : l.Nodup) {i j x : Nat} (hi : l[i]? = some x) (hj : l[j]? = some x) : i = j := by
  have p := List.pairwise_iff_getElem.mp nd
  obtain ⟨h1, e1⟩ := List.getElem?_eq_some_iff.mp hi
  obtain ⟨h2, e2⟩ := List.getElem?_eq_some_iff.mp hj
  rcases Nat.lt_trichotomy i j with z | z | z
  · exact absurd (e1.trans e2.symm) (p i j h1 h2 z)
  · exact z
  · exact absurd (e2.trans e1.symm) (p j i h2 h1 z)
/-! the turns -/
abbrev En := List (Nat × Nat)
structure Turn0 (m : Nat) (es : En) (ts : List (List Nat)) : Prop where
  len : ts.length = m
  ends : ∀ e ∈ es, e.1 < m ∧ e.2 < m ∧ e.1 ≠ e.2
  nd : ∀ (p : Nat) (l : List Nat), ts[p]? = some l → l.Nodup
  mem : ∀ (p : Nat) (l : List Nat), ts[p]? = some l → ∀ t, t ∈ l ↔ ∃ e, es[t]? = some e ∧ (e.1 = p ∨ e.2 = p)
theorem turn_nil (m : Nat) : Turn0 m [] (List.replicate m []) where
  len := by simp
  ends := fun e h => by cases h
  nd := fun p l h => by
    rw [List.getElem?_replicate] at h
    split at h
    · cases h; exact List.nodup_nil
    · cases h
  mem := fun p l h t => by
    rw [List.getElem?_replicate] at h
    split at h
    · cases h; simp
    · cases h
def ins (l : List Nat) (k x : Nat) : List Nat := l.take k ++ x :: l.drop k
theorem ins_mem {l : List Nat} {k x y : Nat} : y ∈ ins l k x ↔ y = x ∨ y ∈ l := by
  unfold ins
  rw [List.mem_append, List.mem_cons]
  have := List.take_append_drop k l
  constructor
  · rintro (h | h | h)
    · exact .inr (List.mem_of_mem_take h)
    · exact .inl h
    · exact .inr (List.mem_of_mem_drop h)
  · rintro (h | h)
    · exact .inr (.inl h)
    · rw [← this] at h
      rcases List.mem_append.mp h with z | z
      · exact .inl z
      · exact .inr (.inr z)
theorem ins_nd {l : List Nat} {k x : Nat} (nd : l.Nodup) (h : x ∉ l) : (ins l k x).Nodup := by
  unfold ins
  have e := List.take_append_drop k l
  rw [← e] at nd
  obtain ⟨a, b, c⟩ := List.nodup_append.mp nd
  refine List.nodup_append.mpr ⟨a, List.nodup_cons.mpr ⟨fun z => h (List.mem_of_mem_drop z), b⟩, fun y hy z hz => ?_⟩
  rcases List.mem_cons.mp hz with q | q
  · intro w
    exact h (by rw [← q, ← w]; exact List.mem_of_mem_take hy)
  · exact c y hy z q
/-- the number of a new tie goes into both its places' lists -/
theorem Turn0.put {m : Nat} {es : En} {ts : List (List Nat)} {one two k j : Nat} {l l' : List Nat} (w : Turn0 m es ts) (h1 : one < m) (h2 : two < m) (hn : one ≠ two) (e1 : ts[one]? = some l) (e2 : ts[two]? = some l') :
    Turn0 m (es ++ [(one, two)]) ((ts.set one (ins l k es.length)).set two (ins l' j es.length)) := by
  have old : ∀ {p l}, ts[p]? = some l → es.length ∉ l := fun {p l} e z => by
    obtain ⟨x, hx, _⟩ := (w.mem p l e es.length).mp z
    have := (List.getElem?_eq_some_iff.mp hx).1
    omega
  have get : ∀ p q, ((ts.set one (ins l k es.length)).set two (ins l' j es.length))[p]? = some q → (p = two ∧ q = ins l' j es.length) ∨ (p = one ∧ p ≠ two ∧ q = ins l k es.length) ∨ (p ≠ one ∧ p ≠ two ∧ ts[p]? = some q) := fun p q e => by
    have L : two < (ts.set one (ins l k es.length)).length := by rw [List.length_set, w.len]; exact h2
    have L1 : one < ts.length := by rw [w.len]; exact h1
    rw [List.getElem?_set] at e
    by_cases z : two = p
    · rw [if_pos z, if_pos L] at e
      exact .inl ⟨z.symm, (Option.some.inj e).symm⟩
    · rw [if_neg z, List.getElem?_set] at e
      by_cases y : one = p
      · rw [if_pos y, if_pos L1] at e
        exact .inr (.inl ⟨y.symm, Ne.symm z, (Option.some.inj e).symm⟩)
      · rw [if_neg y] at e
        exact .inr (.inr ⟨Ne.symm y, Ne.symm z, e⟩)
  have esg : ∀ t x, (es ++ [(one, two)])[t]? = some x ↔ (es[t]? = some x) ∨ (t = es.length ∧ x = (one, two)) := fun t x => by
    by_cases z : t < es.length
    · rw [List.getElem?_append_left z]
      constructor
      · exact .inl
      · rintro (y | y)
        · exact y
        · omega
    · rw [List.getElem?_append_right (by omega)]
      constructor
      · intro y
        have hl := (List.getElem?_eq_some_iff.mp y).1
        rw [List.length_singleton] at hl
        have ht : t = es.length := by omega
        subst ht
        rw [Nat.sub_self] at y
        cases y
        exact .inr ⟨rfl, rfl⟩
      · rintro (y | ⟨y, rfl⟩)
        · have := (List.getElem?_eq_some_iff.mp y).1; omega
        · rw [y, Nat.sub_self]; rfl
  refine ⟨by rw [List.length_set, List.length_set]; exact w.len, fun e he => ?_, fun p q e => ?_, fun p q e t => ?_⟩
  · rcases List.mem_append.mp he with z | z
    · exact w.ends e z
    · have : e = (one, two) := by simpa using z
      subst this
      exact ⟨h1, h2, hn⟩
  · rcases get p q e with ⟨_, rfl⟩ | ⟨_, _, rfl⟩ | ⟨_, _, y⟩
    · exact ins_nd (w.nd two l' e2) (old e2)
    · exact ins_nd (w.nd one l e1) (old e1)
    · exact w.nd p q y
  · rcases get p q e with ⟨rfl, rfl⟩ | ⟨rfl, np, rfl⟩ | ⟨n1, n2, y⟩
    · rw [ins_mem, w.mem p l' e2 t]
      constructor
      · rintro (z | ⟨x, hx, hp⟩)
        · exact ⟨(one, p), (esg _ _).mpr (.inr ⟨z, rfl⟩), .inr rfl⟩
        · exact ⟨x, (esg _ _).mpr (.inl hx), hp⟩
      · rintro ⟨x, hx, hp⟩
        rcases (esg _ _).mp hx with z | ⟨z, _⟩
        · exact .inr ⟨x, z, hp⟩
        · exact .inl z
    · rw [ins_mem, w.mem p l e1 t]
      constructor
      · rintro (z | ⟨x, hx, hp⟩)
        · exact ⟨(p, two), (esg _ _).mpr (.inr ⟨z, rfl⟩), .inl rfl⟩
        · exact ⟨x, (esg _ _).mpr (.inl hx), hp⟩
      · rintro ⟨x, hx, hp⟩
        rcases (esg _ _).mp hx with z | ⟨z, _⟩
        · exact .inr ⟨x, z, hp⟩
        · exact .inl z
    · rw [w.mem p q y t]
      constructor
      · rintro ⟨x, hx, hp⟩
        exact ⟨x, (esg _ _).mpr (.inl hx), hp⟩
      · rintro ⟨x, hx, hp⟩
        rcases (esg _ _).mp hx with z | ⟨z, rfl⟩
        · exact ⟨x, z, hp⟩
        · rcases hp with hp | hp
          · exact absurd hp.symm n1
          · exact absurd hp.symm n2
/-! what follows a dart -/
def hd (es : En) (d : Nat) : Nat := match es[d / 2]? with | some e => if d % 2 = 0 then e.2 else e.1 | none => 0
def tl (es : En) (d : Nat) : Nat := match es[d / 2]? with | some e => if d % 2 = 0 then e.1 else e.2 | none => 0
def leave (es : En) (t p : Nat) : Nat := match es[t]? with | some e => if e.1 = p then 2 * t else 2 * t + 1 | none => 0
def nxt (l : List Nat) (t : Nat) : Nat := (l[(l.idxOf t + 1) % l.length]?).getD 0
def fol (es : En) (ts : List (List Nat)) (d : Nat) : Nat := leave es (nxt ((ts[hd es d]?).getD []) (d / 2)) (hd es d)
section
variable {m : Nat} {es : En} {ts : List (List Nat)}
theorem idx_get {l : List Nat} {t : Nat} (h : t ∈ l) : l[l.idxOf t]? = some t := by
  have hl := List.idxOf_lt_length_iff.mpr h
  rw [List.getElem?_eq_getElem hl, List.getElem_idxOf]
theorem nxt_get {l : List Nat} {t : Nat} (h : t ∈ l) : l[(l.idxOf t + 1) % l.length]? = some (nxt l t) := by
  have hl : 0 < l.length := List.length_pos_of_mem h
  have := Nat.mod_lt (l.idxOf t + 1) hl
  unfold nxt
  rw [List.getElem?_eq_getElem this]
  rfl
theorem Turn0.at (w : Turn0 m es ts) {d : Nat} (h : d < 2 * es.length) : ∃ e l, es[d / 2]? = some e ∧ hd es d = (if d % 2 = 0 then e.2 else e.1) ∧ tl es d = (if d % 2 = 0 then e.1 else e.2) ∧ hd es d < m ∧ ts[hd es d]? = some l ∧ d / 2 ∈ l := by
  have hl : d / 2 < es.length := by omega
  have e1 : es[d / 2]? = some es[d / 2] := List.getElem?_eq_getElem hl
  have q := w.ends _ (List.mem_of_getElem? e1)
  generalize es[d / 2] = e at e1 q
  have h1 : hd es d = (if d % 2 = 0 then e.2 else e.1) := by unfold hd; rw [e1]
  have h2 : tl es d = (if d % 2 = 0 then e.1 else e.2) := by unfold tl; rw [e1]
  have h3 : hd es d < m := by rw [h1]; split <;> omega
  have h4 : ts[hd es d]? = some (ts[hd es d]'(by rw [w.len]; exact h3)) := List.getElem?_eq_getElem _
  refine ⟨e, _, e1, h1, h2, h3, h4, (w.mem _ _ h4 _).mpr ⟨e, e1, ?_⟩⟩
  rw [h1]
  split
  · exact .inr rfl
  · exact .inl rfl
/-- all of what follows d -/
theorem Turn0.foll (w : Turn0 m es ts) {d : Nat} (h : d < 2 * es.length) : ∃ l e, ts[hd es d]? = some l ∧ d / 2 ∈ l ∧ es[nxt l (d / 2)]? = some e ∧ (e.1 = hd es d ∨ e.2 = hd es d) ∧ e.1 ≠ e.2 ∧ fol es ts d = (if e.1 = hd es d then 2 * nxt l (d / 2) else 2 * nxt l (d / 2) + 1) ∧ fol es ts d < 2 * es.length ∧ fol es ts d / 2 = nxt l (d / 2) ∧ tl es (fol es ts d) = hd es d := by
  obtain ⟨e0, l, h1, h2, h3, h4, h5, h6⟩ := w.at h
  have hn := nxt_get h6
  obtain ⟨e, he, hp⟩ := (w.mem _ _ h5 _).mp (List.mem_of_getElem? hn)
  have hlt := (List.getElem?_eq_some_iff.mp he).1
  have hne := (w.ends e (List.mem_of_getElem? he)).2.2
  have hf : fol es ts d = (if e.1 = hd es d then 2 * nxt l (d / 2) else 2 * nxt l (d / 2) + 1) := by
    unfold fol
    rw [h5]
    show leave es (nxt l (d / 2)) (hd es d) = _
    unfold leave
    rw [he]
  refine ⟨l, e, h5, h6, he, hp, hne, hf, ?_, ?_, ?_⟩
  · rw [hf]; split <;> omega
  · rw [hf]; split <;> omega
  · rw [hf]
    by_cases z : e.1 = hd es d
    · have a1 : 2 * nxt l (d / 2) / 2 = nxt l (d / 2) := by omega
      have a2 : 2 * nxt l (d / 2) % 2 = 0 := by omega
      rw [if_pos z]
      unfold tl
      rw [a1, he]
      show (if 2 * nxt l (d / 2) % 2 = 0 then e.1 else e.2) = _
      rw [if_pos a2, z]
    · have a1 : (2 * nxt l (d / 2) + 1) / 2 = nxt l (d / 2) := by omega
      have a2 : ¬ (2 * nxt l (d / 2) + 1) % 2 = 0 := by omega
      rw [if_neg z]
      unfold tl
      rw [a1, he]
      show (if (2 * nxt l (d / 2) + 1) % 2 = 0 then e.1 else e.2) = _
      rw [if_neg a2]
      exact hp.elim (fun y => absurd y z) id
theorem Turn0.inj (w : Turn0 m es ts) {a b : Nat} (ha : a < 2 * es.length) (hb : b < 2 * es.length) (h : fol es ts a = fol es ts b) : a = b := by
  obtain ⟨l, e, p1, p2, _, _, _, _, _, p3, p4⟩ := w.foll ha
  obtain ⟨l', e', q1, q2, _, _, _, _, _, q3, q4⟩ := w.foll hb
  have hh : hd es a = hd es b := by rw [← p4, ← q4, h]
  rw [hh, q1] at p1
  cases p1
  have hx : nxt l (a / 2) = nxt l (b / 2) := by rw [← p3, ← q3, h]
  have g1 := nxt_get p2
  have g2 := nxt_get q2
  rw [hx] at g1
  have ii := nd_inj (w.nd _ _ q1) g1 g2
  have i1 := List.idxOf_lt_length_iff.mpr p2
  have i2 := List.idxOf_lt_length_iff.mpr q2
  have ix : l.idxOf (a / 2) = l.idxOf (b / 2) := by
    generalize l.idxOf (a / 2) = x at *
    generalize l.idxOf (b / 2) = y at *
    by_cases z1 : x + 1 = l.length
    · by_cases z2 : y + 1 = l.length
      · omega
      · rw [z1, Nat.mod_self, Nat.mod_eq_of_lt (by omega)] at ii; omega
    · by_cases z2 : y + 1 = l.length
      · rw [z2, Nat.mod_self, Nat.mod_eq_of_lt (by omega)] at ii; omega
      · rw [Nat.mod_eq_of_lt (by omega), Nat.mod_eq_of_lt (by omega)] at ii; omega
  have ht : a / 2 = b / 2 := by
    have g3 := idx_get p2
    have g4 := idx_get q2
    rw [ix, g4] at g3
    exact (Option.some.inj g3).symm
  obtain ⟨e1, _, r1, r2, _, _, _, _⟩ := w.at ha
  obtain ⟨e2, _, s1, s2, _, _, _, _⟩ := w.at hb
  rw [ht, s1] at r1
  have ee : e2 = e1 := Option.some.inj r1
  rw [ee] at s1 s2
  have hne := (w.ends e1 (List.mem_of_getElem? s1)).2.2
  rw [r2, s2] at hh
  have : a % 2 = b % 2 := by
    by_cases z1 : a % 2 = 0 <;> by_cases z2 : b % 2 = 0
    · omega
    · rw [if_pos z1, if_neg z2] at hh; exact absurd hh.symm hne
    · rw [if_neg z1, if_pos z2] at hh; exact absurd hh hne
    · omega
  omega
end
/-! rounds of a one-to-one map -/
structure Perm1 (f : Nat → Nat) (N : Nat) : Prop where
  lt : ∀ d, d < N → f d < N
  inj : ∀ a b, a < N → b < N → f a = f b → a = b
end K8

namespace K8
open PySem L2
local macro_rules | `(tactic| walk_at "cc") => `(tactic| first | exact ⟨by decide, by decide⟩ | (show (0 : Int) < _; decide) | (show (0 : Int) < _; omega) | (show (0 : Int) ≤ _; omega) | exact ⟨by decide, by decide, by decide⟩ | exact ⟨by omega, by omega, by decide⟩ | exact Or.inl ⟨by decide, by decide⟩ | exact Or.inl ⟨by omega, by omega⟩)
local macro_rules | `(tactic| walk_at "rd") => `(tactic| repeat (first | refine ⟨_, rfl, ?_⟩ | refine ⟨_, _, rfl, rfl, ?_⟩ | refine ⟨rfl, ?_⟩ | (refine ⟨?cc, ?_⟩; (case cc => walk_at "cc"))))

def top (i : Nat) : Stmt := PySem.Challenge.pw_spinfloor_k07_what_follows_a_dart.main.body.getD i (.Pass ⟨0, 0, 0, 0⟩)
abbrev s_head : Stmt := top 2
abbrev s_leaving : Stmt := top 3
abbrev s_follower : Stmt := top 4
abbrev s_Tie___init : Stmt := inClass (top 9) 0
abbrev s_law_cell : Stmt := top 13
abbrev s_law_built : Stmt := top 14
abbrev s_law_ties : Stmt := top 15
abbrev s_law_behind : Stmt := top 16
abbrev s_law_number : Stmt := top 17
abbrev s_law : Stmt := top 18
/-! a tie as it lies -/
def tf (a b s : Int) : List (Str × V) := putF "strength" (.int s) (putF "two" (.int b) (putF "one" (.int a) []))
theorem tf_one (a b s : Int) : (tf a b s).lookup ("one" : Str) = some (.int a) := by
  unfold tf
  rw [lookup_putF, if_neg (by decide +kernel), lookup_putF, if_neg (by decide +kernel), lookup_putF, if_pos rfl]
theorem tf_two (a b s : Int) : (tf a b s).lookup ("two" : Str) = some (.int b) := by
  unfold tf
  rw [lookup_putF, if_neg (by decide +kernel), lookup_putF, if_pos rfl]
theorem f1_len (a : Int) : (putF "one" (.int a) []).length < 1000 := by show 1 < 1000; decide
theorem f2_len (a b : Int) : (putF "two" (.int b) (putF "one" (.int a) [])).length < 1000 := by
  have e : (putF "two" (.int b) (putF "one" (.int a) []) : List (Str × V)) = ([("one", .int a), ("two", .int b)] : List (Str × V)) := by
    show (if ("one" : Str) = "two" then [(("one" : Str), V.int b)] else (("one" : Str), V.int a) :: putF "two" (V.int b) []) = _
    rw [if_neg (by decide +kernel)]
    all_goals rfl
  rw [e]
  show 2 < 1000
  decide
/-- what is asked of a class of ties -/
structure CT (K : PySem.W.Frag) (C : Addr) : Prop where
  cl : Cls K C
  n1 : NoAttr K C "one"
  n2 : NoAttr K C "two"
  n3 : NoAttr K C "strength"
def spInit (K : PySem.W.Frag) : Sp := fun vs H Q _ => ∃ (p C dx : Addr) (a b s : Int), vs = [.ref p, .int a, .int b, .int s] ∧ H p = some (.ins C dx []) ∧ CT K C ∧ a ≠ b ∧ 0 ≤ a ∧ 0 ≤ b ∧ 0 ≤ s ∧
  ∀ H', H' p = some (.ins C dx (tf a b s)) → (∀ q o, H q = some o → q ≠ p → H' q = some o) → Q .non H'

theorem same_new {H : Hp} {p : Addr} (h : H p = none) (o : HO) : Same H (upd H p o) := fun b u q => by rw [upd_ne (ne_of_none q h)]; exact q
theorem same_upd {H H2 : Hp} {l : Addr} (h : Same H H2) (hl : H l = none) (o : HO) : Same H (upd H2 l o) := fun b u q => by rw [upd_ne (ne_of_none q hl)]; exact h b u q
def iV (p : Nat) : V := .int (p : Int)
theorem iV_at {hs : List Nat} {k x : Nat} (h : hs[k]? = some x) : atI (hs.map iV) (k : Int) = some (iV x) := atI_nat (by rw [List.getElem?_map, h]; rfl)
def EndsAt (H : Hp) (ys : List V) (es : En) : Prop := ys.length = es.length ∧ ∀ (i : Nat) (e : Nat × Nat), es[i]? = some e → ∃ p, ys[i]? = some (.ref p) ∧ H p = some (.tup [iV e.1, iV e.2])
theorem EndsAt.mono {H H' : Hp} {ys : List V} {es : En} (h : EndsAt H ys es) (s : Same H H') : EndsAt H' ys es := ⟨h.1, fun i e q => by
  obtain ⟨p, a, b⟩ := h.2 i e q
  exact ⟨p, a, s _ _ b⟩⟩
def TiesAt (K : PySem.W.Frag) (H : Hp) (xs : List V) (es : En) : Prop := xs.length = es.length ∧ ∀ (i : Nat) (e : Nat × Nat), es[i]? = some e → ∃ p C dx s, xs[i]? = some (.ref p) ∧ H p = some (.ins C dx (tf (e.1 : Int) (e.2 : Int) s)) ∧ CT K C
theorem TiesAt.mono {K : PySem.W.Frag} {H H' : Hp} {xs : List V} {es : En} (t : TiesAt K H xs es) (h : Same H H') : TiesAt K H' xs es := ⟨t.1, fun i e q => by
  obtain ⟨p, C, dx, s, a, b, d⟩ := t.2 i e q
  exact ⟨p, C, dx, s, a, h _ _ b, d⟩⟩
def RowsAt (H : Hp) (xs : List V) (ts : List (List Nat)) : Prop := xs.length = ts.length ∧ ∀ (i : Nat) (l : List Nat), ts[i]? = some l → ∃ p, xs[i]? = some (.ref p) ∧ H p = some (.lst (l.map iV))
theorem RowsAt.mono {H H' : Hp} {xs : List V} {ts : List (List Nat)} (h : RowsAt H xs ts) (s : Same H H') : RowsAt H' xs ts := ⟨h.1, fun i e q => by
  obtain ⟨p, a, b⟩ := h.2 i e q
  exact ⟨p, a, s _ _ b⟩⟩
theorem RowsAt.snoc {H : Hp} {xs : List V} {ts : List (List Nat)} {q : Addr} {l : List Nat} (h : RowsAt H xs ts) (e : H q = some (.lst (l.map iV))) : RowsAt H (xs ++ [.ref q]) (ts ++ [l]) := by
  refine ⟨by rw [List.length_append, List.length_append, h.1]; rfl, fun j k ej => ?_⟩
  by_cases hj : j < ts.length
  · rw [List.getElem?_append_left hj] at ej
    obtain ⟨p, a1, a2⟩ := h.2 j k ej
    exact ⟨p, by rw [List.getElem?_append_left (by rw [h.1]; exact hj)]; exact a1, a2⟩
  · rw [List.getElem?_append_right (by omega)] at ej
    have hj2 : j = ts.length := by
      have := (List.getElem?_eq_some_iff.mp ej).1
      rw [List.length_singleton] at this
      omega
    subst hj2
    rw [Nat.sub_self] at ej
    cases ej
    exact ⟨q, by rw [← h.1, List.getElem?_append_right (Nat.le_refl _), Nat.sub_self]; rfl, e⟩
/-- rows apart from some places -/
def RowsX (S : Addr → Prop) (H : Hp) (xs : List V) (ts : List (List Nat)) : Prop := xs.length = ts.length ∧ ∀ (i : Nat) (l : List Nat), ts[i]? = some l → ∃ p, xs[i]? = some (.ref p) ∧ ¬ S p ∧ H p = some (.lst (l.map iV))
theorem RowsX.mono {S : Addr → Prop} {H H' : Hp} {xs : List V} {ts : List (List Nat)} (h : RowsX S H xs ts) (s : ∀ b u, ¬ S b → H b = some u → H' b = some u) : RowsX S H' xs ts := ⟨h.1, fun i e q => by
  obtain ⟨p, a, n, b⟩ := h.2 i e q
  exact ⟨p, a, n, s _ _ n b⟩⟩
theorem RowsX.off {S : Addr → Prop} {H : Hp} {xs : List V} {ts : List (List Nat)} (h : RowsX S H xs ts) : RowsAt H xs ts := ⟨h.1, fun i e q => by
  obtain ⟨p, a, n, b⟩ := h.2 i e q
  exact ⟨p, a, b⟩⟩
theorem RowsX.snoc {S : Addr → Prop} {H : Hp} {xs : List V} {ts : List (List Nat)} {q : Addr} {l : List Nat} (h : RowsX S H xs ts) (n : ¬ S q) (e : H q = some (.lst (l.map iV))) : RowsX S H (xs ++ [.ref q]) (ts ++ [l]) := by
  refine ⟨by rw [List.length_append, List.length_append, h.1]; rfl, fun j k ej => ?_⟩
  by_cases hj : j < ts.length
  · rw [List.getElem?_append_left hj] at ej
    obtain ⟨p, a1, a2⟩ := h.2 j k ej
    exact ⟨p, by rw [List.getElem?_append_left (by rw [h.1]; exact hj)]; exact a1, a2⟩
  · rw [List.getElem?_append_right (by omega)] at ej
    have hj2 : j = ts.length := by
      have := (List.getElem?_eq_some_iff.mp ej).1
      rw [List.length_singleton] at this
      omega
    subst hj2
    rw [Nat.sub_self] at ej
    cases ej
    exact ⟨q, by rw [← h.1, List.getElem?_append_right (Nat.le_refl _), Nat.sub_self]; rfl, n, e⟩
/-- ties and turns as they are handed on -/
structure TT (K : PySem.W.Frag) (H : Hp) (a b : Addr) (m : Nat) (es : En) (ts : List (List Nat)) : Prop where
  xs : ∃ xs, SqL K H a xs ∧ TiesAt K H xs es
  ys : ∃ ys, SqL K H b ys ∧ RowsAt H ys ts
  w : Turn0 m es ts
  few : es.length ≤ 62
theorem TT.mono {K : PySem.W.Frag} {H H' : Hp} {a b : Addr} {m : Nat} {es : En} {ts : List (List Nat)} (t : TT K H a b m es ts) (s : Same H H') : TT K H' a b m es ts := by
  obtain ⟨⟨xs, h1, h2⟩, ⟨ys, h3, h4⟩, w, f⟩ := t
  exact ⟨⟨xs, s.seq h1, h2.mono s⟩, ⟨ys, s.seq h3, h4.mono s⟩, w, f⟩
theorem turn_small {m : Nat} {es : En} {ts : List (List Nat)} (w : Turn0 m es ts) (f : es.length ≤ 62) {p : Nat} {l : List Nat} (h : ts[p]? = some l) : (∀ t ∈ l, t < 62) ∧ l.length ≤ 62 := by
  have a : ∀ t ∈ l, t < es.length := fun t ht => by
    obtain ⟨e, he, _⟩ := (w.mem p l h t).mp ht
    exact (List.getElem?_eq_some_iff.mp he).1
  exact ⟨fun t ht => by have := a t ht; omega, Nat.le_trans (len_le (w.nd p l h) a) f⟩
theorem perm {m : Nat} {es : En} {ts : List (List Nat)} (w : Turn0 m es ts) : Perm1 (fol es ts) (2 * es.length) := ⟨fun d h => by
  obtain ⟨_, _, _, _, _, _, _, _, z, _⟩ := w.foll h
  exact z, fun a b ha hb h => w.inj ha hb h⟩
def spHead (K : PySem.W.Frag) : Sp := fun vs H Q _ => ∃ (a : Addr) (xs : List V) (es : En) (d : Nat), vs = [.ref a, .int (d : Int)] ∧ SqL K H a xs ∧ TiesAt K H xs es ∧ d < 2 * es.length ∧ Q (iV (hd es d)) H
def spLeav (K : PySem.W.Frag) : Sp := fun vs H Q _ => ∃ (a : Addr) (xs : List V) (es : En) (t p : Nat) (e : Nat × Nat), vs = [.ref a, .int (t : Int), .int (p : Int)] ∧ SqL K H a xs ∧ TiesAt K H xs es ∧ es[t]? = some e ∧ Q (iV (if e.1 = p then 2 * t else 2 * t + 1)) H
def spFol (K : PySem.W.Frag) : Sp := fun vs H Q _ => ∃ (a b : Addr) (m : Nat) (es : En) (ts : List (List Nat)) (d : Nat), vs = [.ref a, .ref b, .int (d : Int)] ∧ TT K H a b m es ts ∧ d < 2 * es.length ∧ Q (iV (fol es ts d)) H
def cellD (ns : List Int) (k : Nat) : Int := ns.getD k 0
def spCell (K : PySem.W.Frag) : Sp := fun vs H Q _ => ∃ (a : Addr) (k : Nat) (ns : List Int), vs = [.ref a, .int (k : Int)] ∧ SqL K H a (ns.map V.int) ∧ Q (.int (cellD ns k)) H
def spBuilt (K : PySem.W.Frag) : Sp := fun vs H Q _ => ∃ (a : Addr) (ns : List Int), vs = [.ref a] ∧ SqL K H a (ns.map V.int) ∧ ns.length ≤ 63 ∧
  ∀ (t pe pt : Addr) (ys xs : List V) (m : Nat) (es : En) (ts : List (List Nat)) (H' : Hp), Same H H' → H' t = some (.tup [.ref pe, .ref pt]) → H' pe = some (.lst ys) → EndsAt H' ys es → H' pt = some (.lst xs) → RowsAt H' xs ts → Turn0 m es ts → es.length ≤ 62 → m ≤ 40 → Q (.ref t) H'
def spTies (K : PySem.W.Frag) : Sp := fun vs H Q _ => ∃ (a : Addr) (ys : List V) (es : En), vs = [.ref a] ∧ SqL K H a ys ∧ EndsAt H ys es ∧ (∀ e ∈ es, e.1 ≠ e.2) ∧ es.length ≤ 62 ∧ ∀ q xs H', Same H H' → H' q = some (.lst xs) → TiesAt K H' xs es → Q (.ref q) H'
def spBehind (K : PySem.W.Frag) : Sp := fun vs H Q _ => ∃ (a b : Addr) (ys xs : List V) (m : Nat) (es : En) (ts : List (List Nat)) (d : Nat), vs = [.ref a, .ref b, .int (d : Int)] ∧ SqL K H a ys ∧ EndsAt H ys es ∧ SqL K H b xs ∧ RowsAt H xs ts ∧ Turn0 m es ts ∧ es.length ≤ 62 ∧ d < 2 * es.length ∧ Q (iV (fol es ts d)) H
def spNum : Sp := fun vs H Q _ => ∃ i : Int, vs = [.int i] ∧ Q (.bl true) H
def spLaw (K : PySem.W.Frag) : Sp := fun vs H Q _ => ∃ (a : Addr) (ns : List Int), vs = [.ref a] ∧ SqL K H a (ns.map V.int) ∧ ns.length ≤ 63 ∧ ∀ H', Q (.bl true) H'
structure Txt (mg : Str → Option Value) : Prop where
  n_len : mg "len" = none
  n_int : mg "int" = none
  n_bool : mg "bool" = none
  n_list : mg "list" = none
  n_tuple : mg "tuple" = none
  n_range : mg "range" = none
  n_enumerate : mg "enumerate" = none
  n_isinstance : mg "isinstance" = none
  n_sorted : mg "sorted" = none
section
variable {P : Program} {w : World} {K : PySem.W.Frag} {mg : Str → Option Value} {base : Heap}
theorem sc_head : FnScope ["ties", "dart", "tie"] ["ties", "dart"] (defScope s_head) := ⟨rfl, rfl, rfl, by decide +kernel, rfl, by decide +kernel, by decide +kernel⟩
theorem ok_head {f : Addr} {fd : FuncData} (F : Fun K "head" "head" s_head f fd) : FnOk P w K mg base CX0 1 f fd ["ties", "dart"] (spHead K) := by
  refine F.ok sc_head (fun vs H Q E h => ?_) (fun cdv A outer s H vs Q E hr h => ?_)
  · obtain ⟨a, xs, es, d, rfl, _⟩ := h
    rfl
  obtain ⟨a, xs, es, d, rfl, hS, hT, hdl, k⟩ := h
  have hl : d / 2 < es.length := by omega
  have e1 : es[d / 2]? = some es[d / 2] := List.getElem?_eq_getElem hl
  obtain ⟨p, C, dx, s', x1, x2, x3⟩ := hT.2 _ _ e1
  have hh : hd es d = if d % 2 = 0 then es[d / 2].2 else es[d / 2].1 := by unfold hd; rw [e1]
  have ed : (d : Int) / 2 = ((d / 2 : Nat) : Int) := by omega
  refine ⟨_, (pss_cons (ps_set (i := 2) sc_head.nd rfl (Or.inl rfl) (pe_ix ix_list (pv 0) (pe_op op_fdiv (pv 1) pe_int) (fun _ _ => rfl)))
      (pss_one (ps_ret (pe_ifExp (pt_cmpR op_eq (pe_op op_mod (pv 1) pe_int) pe_int (nomark _)) (pe_fld (pv 2) rfl) (pe_fld (pv 2) rfl))))), ?_⟩
  refine ⟨_, rfl, _, rfl, _, _, rfl, rfl, ⟨by decide, by decide⟩, a, xs, _, _, rfl, rfl, hS, (by rw [ed]; exact atI_nat x1), ?_⟩
  refine ⟨_, rfl, _, _, rfl, rfl, (by show (0 : Int) < 2; decide), rfl, _, rfl, ?_⟩
  refine ite2 (fun q => ?_) (fun q => ?_)
  · have q' : (d : Int) % 2 = 0 := V.int.inj (of_decide_eq_true q)
    refine ⟨_, rfl, p, C, dx, _, _, rfl, x2, x3.cl, x3.n2, tf_two _ _ _, ?_⟩
    rw [hh, if_pos (by omega)] at k
    exact k
  · have q' : ¬ (d : Int) % 2 = 0 := fun z => q (decide_eq_true (congrArg V.int z))
    refine ⟨_, rfl, p, C, dx, _, _, rfl, x2, x3.cl, x3.n1, tf_one _ _ _, ?_⟩
    rw [hh, if_neg (by omega)] at k
    exact k
theorem sc_leaving : FnScope ["ties", "number", "place"] ["ties", "number", "place"] (defScope s_leaving) := ⟨rfl, rfl, rfl, by decide +kernel, rfl, by decide +kernel, by decide +kernel⟩
theorem ok_leaving {f : Addr} {fd : FuncData} (F : Fun K "leaving" "leaving" s_leaving f fd) : FnOk P w K mg base CX0 1 f fd ["ties", "number", "place"] (spLeav K) := by
  refine F.ok sc_leaving (fun vs H Q E h => ?_) (fun cdv A outer s H vs Q E hr h => ?_)
  · obtain ⟨a, xs, es, t, p, e, rfl, _⟩ := h
    rfl
  obtain ⟨a, xs, es, t, pl, e, rfl, hS, hT, he, k⟩ := h
  obtain ⟨p, C, dx, s', x1, x2, x3⟩ := hT.2 _ _ he
  have m2 : CMul 2 (t : Int) := .inl ⟨by decide, by decide⟩
  refine ⟨_, (pss_one (ps_ret (pe_ifExp (pt_cmpR op_eq (pe_fld (pe_ix ix_list (pv 0) (pv 1) (fun _ _ => rfl)) rfl) (pv 2) (nomark _)) (pe_op op_mul pe_int (pv 1)) (pe_op op_add (pe_op op_mul pe_int (pv 1)) pe_int)))), ?_⟩
  refine ⟨_, rfl, _, rfl, a, xs, _, _, rfl, rfl, hS, atI_nat x1, p, C, dx, _, _, rfl, x2, x3.cl, x3.n1, tf_one _ _ _, _, rfl, rfl, _, rfl, ?_⟩
  refine ite2 (fun q => ?_) (fun q => ?_)
  · have q' : (e.1 : Int) = (pl : Int) := V.int.inj (of_decide_eq_true q)
    refine ⟨_, rfl, _, _, rfl, rfl, m2, ?_⟩
    rw [if_pos (by omega)] at k
    exact k
  · have q' : ¬ (e.1 : Int) = (pl : Int) := fun z => q (decide_eq_true (congrArg V.int z))
    refine ⟨_, rfl, _, _, rfl, rfl, m2, _, _, rfl, rfl, ?_⟩
    rw [if_neg (by omega)] at k
    exact k
theorem sc_follower : FnScope ["ties", "turns", "dart", "place", "about", "behind"] ["ties", "turns", "dart"] (defScope s_follower) := ⟨rfl, rfl, rfl, by decide +kernel, rfl, by decide +kernel, by decide +kernel⟩
theorem ok_follower {f fh fl : Addr} {fd fdh fdl : FuncData} (F : Fun K "follower" "follower" s_follower f fd) (T : Txt mg) (G_head : Cal P w K mg base 1 "head" ["ties", "dart"] (spHead K) fh fdh) (G_leaving : Cal P w K mg base 1 "leaving" ["ties", "number", "place"] (spLeav K) fl fdl) : FnOk P w K mg base CX0 2 f fd ["ties", "turns", "dart"] (spFol K) := by
  refine F.ok sc_follower (fun vs H Q E h => ?_) (fun cdv A outer s H vs Q E hr h => ?_)
  · obtain ⟨a, b, m, es, ts, d, rfl, _⟩ := h
    rfl
  obtain ⟨a, b, m, es, ts, d, rfl, tt, hdl, k⟩ := h
  obtain ⟨⟨xs, h1, h2⟩, ⟨ys, h3, h4⟩, w', few⟩ := tt
  obtain ⟨l, e, p1, p2, p3, p4, p5, p6, p7, p8, p9⟩ := w'.foll hdl
  obtain ⟨small, len⟩ := turn_small w' few p1
  obtain ⟨q, y1, y2⟩ := h4.2 _ _ p1
  have ed : (d : Int) / 2 = ((d / 2 : Nat) : Int) := by omega
  refine ⟨_, (pss_cons (ps_set (i := 3) sc_follower.nd rfl (Or.inl rfl) (pe_call G_head.ok (hr.mono (by decide)) rfl G_head.mg G_head.kp G_head.bn .nil pass0 (pa_cons (pv 0) (pa_cons (pv 2) pa_nil))))
      (pss_cons (ps_set (i := 4) sc_follower.nd rfl (Or.inl rfl) (pe_ix ix_list (pv 1) (pv 3) (fun _ _ => rfl)))
      (pss_cons (ps_set (i := 5) sc_follower.nd rfl (Or.inl rfl) (pe_op op_mod (pe_op op_add (pe_bm PySem.F.plainAttrs_list PySem.F.slot_list_index PySem.F.type_list_index mt_index (pv 4) (pa_cons (pe_op op_fdiv (pv 2) pe_int) pa_nil)) pe_int) (pe_callB call_len_seq (by rfl) T.n_len bt_len (pa_cons (pv 4) pa_nil))))
      (pss_one (ps_ret (pe_call G_leaving.ok (hr.mono (by decide)) rfl G_leaving.mg G_leaving.kp G_leaving.bn .nil pass0 (pa_cons (pv 0) (pa_cons (pe_ix ix_list (pv 4) (pv 5) (fun _ _ => rfl)) (pa_cons (pv 3) pa_nil))))))))), ?_⟩
  refine ⟨_, rfl, _, rfl, a, xs, es, d, rfl, h1, h2, hdl, ?_⟩
  refine ⟨_, rfl, _, rfl, b, ys, _, _, rfl, rfl, h3, atI_nat y1, ?_⟩
  have hlen : (l.map iV).length = l.length := List.length_map _
  have hl0 : 0 < l.length := List.length_pos_of_mem p2
  have hmod : (((l.idxOf (d / 2) : Nat) : Int) + 1) % ((l.map iV).length : Int) = (((l.idxOf (d / 2) + 1) % l.length : Nat) : Int) := by rw [hlen]; rfl
  refine ⟨_, rfl, .inl ⟨rfl, _, SqL.of y2⟩, _, rfl, _, _, rfl, rfl, ⟨by decide, by decide⟩, q, l, d / 2, rfl, congrArg (fun z => [V.int z]) ed, SqL.of y2, fun p hp => by have := small p hp; omega, by omega, p2, _, _, rfl, rfl, _, rfl, q, _, rfl, .inl (SqL.of y2), _, _, rfl, rfl, (by show (0 : Int) < ((l.map iV).length : Int); rw [hlen]; omega), ?_⟩
  refine ⟨_, rfl, _, rfl, _, rfl, q, _, _, _, rfl, rfl, SqL.of y2, (by rw [hmod]; exact iV_at (nxt_get p2)), _, rfl, a, xs, es, nxt l (d / 2), hd es d, e, rfl, h1, h2, p3, ?_⟩
  rw [p6] at k
  exact k
theorem sc_Tie___init : FnScope ["self", "one", "two", "strength"] ["self", "one", "two", "strength"] (defScope s_Tie___init) := ⟨rfl, rfl, rfl, by decide +kernel, rfl, by decide +kernel, by decide +kernel⟩
theorem ok_init {f : Addr} {fd : FuncData} (F : Fun K "__init__" "Tie.__init__" s_Tie___init f fd) : FnOk P w K mg base CX0 1 f fd ["self", "one", "two", "strength"] (spInit K) := by
  refine F.ok sc_Tie___init (fun vs H Q E h => ?_) (fun cdv A outer s H vs Q E hr h => ?_)
  · obtain ⟨p, C, dx, a, b, s, rfl, _⟩ := h
    rfl
  obtain ⟨p, C, dx, a, b, st, rfl, hp, T, hne, ha, hb, hs, k⟩ := h
  refine ⟨_, (pss_cons (ps_if (pt_cmpR op_eq (pv 1) (pv 2) (nomark _)) (pss_one ps_never) pss_nil)
      (pss_cons (ps_if (PW.pt (pw_or (pt_cmpR op_lt (pv 1) pe_int (nomark _)) (pw_or1 (pt_cmpR op_lt (pv 2) pe_int (nomark _))))) (pss_one ps_never) pss_nil)
      (pss_cons (ps_if (pt_cmpR op_lt (pv 3) pe_int (nomark _)) (pss_one ps_never) pss_nil)
      (pss_cons (ps_fld (pv 0) (pv 1) rfl)
      (pss_cons (ps_fld (pv 0) (pv 2) rfl)
      (pss_one (ps_fld (pv 0) (pv 3) rfl))))))), ?_⟩
  walk_at "rd"
  refine ite2 (fun c => absurd (V.int.inj (of_decide_eq_true c)) hne) (fun _ => ?_)
  walk_at "rd"
  refine ite2 (fun c => absurd (of_decide_eq_true c) (by omega)) (fun _ => ?_)
  walk_at "rd"
  refine ite2 (fun c => absurd (of_decide_eq_true c) (by omega)) (fun _ => ?_)
  walk_at "rd"
  refine ite2 (fun c => absurd (of_decide_eq_true c) (by omega)) (fun _ => ?_)
  refine ⟨_, rfl, _, rfl, p, C, dx, [], rfl, hp, T.cl, T.n1, (by show 0 < 1000; decide), ?_⟩
  refine ⟨_, rfl, _, rfl, p, C, dx, _, rfl, upd_same, T.cl, T.n2, f1_len a, ?_⟩
  refine ⟨_, rfl, _, rfl, p, C, dx, _, rfl, upd_same, T.cl, T.n3, f2_len a b, ?_⟩
  exact k _ upd_same fun q o e hq => by rw [upd_ne hq, upd_ne hq, upd_ne hq]; exact e
theorem sc_law_cell : FnScope ["script", "k"] ["script", "k"] (defScope s_law_cell) := ⟨rfl, rfl, rfl, by decide +kernel, rfl, by decide +kernel, by decide +kernel⟩
theorem ok_cell {f : Addr} {fd : FuncData} (F : Fun K "_law_cell" "_law_cell" s_law_cell f fd) (T : Txt mg) : FnOk P w K mg base CX0 1 f fd ["script", "k"] (spCell K) := by
  refine F.ok sc_law_cell (fun vs H Q E h => ?_) (fun cdv A outer s H vs Q E hr h => ?_)
  · obtain ⟨a, k, ns, rfl, _⟩ := h
    rfl
  obtain ⟨a, k, ns, rfl, hS, q⟩ := h
  refine ⟨_, (pss_cons (ps_if (pt_cmpR op_lt (pv 1) (pe_callB call_len_seq (by rfl) T.n_len bt_len (pa_cons (pv 0) pa_nil)) (nomark _)) (pss_one (ps_ret (pe_ix ix_list (pv 0) (pv 1) (fun _ _ => rfl)))) pss_nil)
      (pss_one (ps_ret pe_int))), ?_⟩
  refine ⟨_, rfl, _, rfl, a, _, rfl, .inl hS, _, _, rfl, rfl, _, rfl, ?_⟩
  refine ite2 (fun c => ?_) (fun c => ?_)
  · have c' : (k : Int) < ((ns.map V.int).length : Int) := of_decide_eq_true c
    rw [List.length_map] at c'
    have hk : k < ns.length := by omega
    have hat : atI (ns.map V.int) (k : Int) = some (.int (cellD ns k)) := atI_nat (by rw [List.getElem?_map, List.getElem?_eq_getElem hk]; unfold cellD; rw [List.getD_eq_getElem?_getD, List.getElem?_eq_getElem hk]; rfl)
    exact ⟨_, rfl, _, rfl, a, _, _, _, rfl, rfl, hS, hat, q⟩
  · have c' : ¬ (k : Int) < ((ns.map V.int).length : Int) := fun z => c (decide_eq_true z)
    rw [List.length_map] at c'
    have e : cellD ns k = 0 := by unfold cellD; rw [List.getD_eq_getElem?_getD, List.getElem?_eq_none (by omega)]; rfl
    rw [e] at q
    exact q
theorem sc_law_number : FnScope ["found"] ["found"] (defScope s_law_number) := ⟨rfl, rfl, rfl, by decide +kernel, rfl, by decide +kernel, by decide +kernel⟩
theorem ok_number {f : Addr} {fd : FuncData} (F : Fun K "_law_number" "_law_number" s_law_number f fd) (T : Txt mg) : FnOk P w K mg base CX0 1 f fd ["found"] spNum := by
  refine F.ok sc_law_number (fun vs H Q E h => ?_) (fun cdv A outer s H vs Q E hr h => ?_)
  · obtain ⟨i, rfl, _⟩ := h
    rfl
  obtain ⟨i, rfl, k⟩ := h
  refine ⟨_, (pss_one (ps_ret (pe_and (pe_callB call_isi (by rfl) T.n_isinstance bt_isinstance (pa_cons (pv 0) (pa_cons (pe_bltn (v := .ty "int") rfl T.n_int bt_int rfl) pa_nil))) (pe_one (pe_not (pe_callB call_isi (by rfl) T.n_isinstance bt_isinstance (pa_cons (pv 0) (pa_cons (pe_bltn (v := .ty "bool") rfl T.n_bool bt_bool rfl) pa_nil)))))))), ?_⟩
  refine ⟨_, rfl, _, _, _, _, _, rfl, TyOf.int i, Or.inl ⟨_, rfl, rfl⟩, kit_ii K, _, rfl, iteT ?_⟩
  exact ⟨_, rfl, _, _, _, _, _, rfl, TyOf.int i, Or.inl ⟨_, rfl, rfl⟩, kit_ib K, _, rfl, k⟩
theorem at0 {u v : V} : atI [u, v] 0 = some u := rfl
theorem at1 {u v : V} : atI [u, v] 1 = some v := rfl
theorem sc_law_behind : FnScope ["ends", "turns", "dart", "place", "row", "k", "tie"] ["ends", "turns", "dart"] (defScope s_law_behind) := ⟨rfl, rfl, rfl, by decide +kernel, rfl, by decide +kernel, by decide +kernel⟩
theorem ok_behind {f : Addr} {fd : FuncData} (F : Fun K "_law_behind" "_law_behind" s_law_behind f fd) (T : Txt mg) : FnOk P w K mg base CX0 1 f fd ["ends", "turns", "dart"] (spBehind K) := by
  refine F.ok sc_law_behind (fun vs H Q E h => ?_) (fun cdv A outer s H vs Q E hr h => ?_)
  · obtain ⟨a, b, ys, xs, m, es, ts, d, rfl, _⟩ := h
    rfl
  obtain ⟨a, b, ys, xs, m, es, ts, d, rfl, hS, hE, hB, hR, w', few, hdl, kk⟩ := h
  obtain ⟨l, e, p1, p2, p3, p4, p5, p6, p7, p8, p9⟩ := w'.foll hdl
  obtain ⟨small, len⟩ := turn_small w' few p1
  obtain ⟨q, y1, y2⟩ := hR.2 _ _ p1
  have hl : d / 2 < es.length := by omega
  have e1 : es[d / 2]? = some es[d / 2] := List.getElem?_eq_getElem hl
  obtain ⟨p, x1, x2⟩ := hE.2 _ _ e1
  obtain ⟨p', x1', x2'⟩ := hE.2 _ _ p3
  have hh : hd es d = if d % 2 = 0 then es[d / 2].2 else es[d / 2].1 := by unfold hd; rw [e1]
  have ed : (d : Int) / 2 = ((d / 2 : Nat) : Int) := by omega
  have hat : atI [iV es[d / 2].1, iV es[d / 2].2] (1 - (d : Int) % 2) = some (iV (hd es d)) := by
    by_cases z : d % 2 = 0
    · rw [hh, if_pos z, show (1 - (d : Int) % 2) = 1 by omega]; rfl
    · rw [hh, if_neg z, show (1 - (d : Int) % 2) = 0 by omega]; rfl
  have hl0 : 0 < l.length := List.length_pos_of_mem p2
  have hix : l.idxOf (d / 2) < l.length := List.idxOf_lt_length_of_mem p2
  refine ⟨_, (pss_cons (ps_set (i := 3) sc_law_behind.nd rfl (Or.inl rfl) (pe_ix ix_tup (pe_ix ix_list (pv 0) (pe_op op_fdiv (pv 2) pe_int) (fun _ _ => rfl)) (pe_op op_sub pe_int (pe_op op_mod (pv 2) pe_int)) (fun _ _ => rfl)))
      (pss_cons (ps_set (i := 4) sc_law_behind.nd rfl (Or.inl rfl) (pe_ix ix_list (pv 1) (pv 3) (fun _ _ => rfl)))
      (pss_cons (ps_set (i := 5) sc_law_behind.nd rfl (Or.inl rfl) pe_int)
      (pss_cons (ps_while PassesOwn.never (pt_cmpR op_ne (pe_ix ix_list (pv 4) (pv 5) (fun _ _ => rfl)) (pe_op op_fdiv (pv 2) pe_int) (nomark _)) (pss_one (ps_set (i := 5) sc_law_behind.nd rfl (Or.inl rfl) (pe_op op_add (pv 5) pe_int))))
      (pss_cons (ps_set (i := 6) sc_law_behind.nd rfl (Or.inl rfl) (pe_ix ix_list (pv 4) (pe_op op_mod (pe_op op_add (pv 5) pe_int) (pe_callB call_len_seq (by rfl) T.n_len bt_len (pa_cons (pv 4) pa_nil))) (fun _ _ => rfl)))
      (pss_cons (ps_if (pt_cmpR op_eq (pe_ix ix_tup (pe_ix ix_list (pv 0) (pv 6) (fun _ _ => rfl)) pe_int (fun _ _ => rfl)) (pv 3) (nomark _)) (pss_one (ps_ret (pe_op op_mul pe_int (pv 6)))) pss_nil)
      (pss_one (ps_ret (pe_op op_add (pe_op op_mul pe_int (pv 6)) pe_int))))))))), ?_⟩
  refine ⟨_, rfl, _, rfl, _, _, rfl, rfl, ⟨by decide, by decide⟩, a, ys, _, _, rfl, rfl, hS, (by rw [ed]; exact atI_nat x1), _, rfl, _, _, rfl, rfl, (by show (0 : Int) < 2; decide), _, _, rfl, rfl, p, _, _, _, rfl, rfl, SqT.of x2, hat, ?_⟩
  refine ⟨_, rfl, _, rfl, b, xs, _, _, rfl, rfl, hB, atI_nat y1, ?_⟩
  refine while_by (fun σ H2 => ∃ k : Nat, H2 = H ∧ σ = [some (.ref a), some (.ref b), some (.int (d : Int)), some (iV (hd es d)), some (.ref q), some (.int (k : Int)), none] ∧ k ≤ l.idxOf (d / 2))
    (fun σ H2 => match σ with | [_, _, _, _, _, some (.int k), _] => (200 - k).toNat | _ => 0) ⟨0, rfl, rfl, Nat.zero_le _⟩ ?_ ?_
  · rintro σ H2 ⟨k, rfl, rfl, hk⟩
    have hkl : l[k]? = some l[k] := List.getElem?_eq_getElem (by omega)
    generalize l[k] = x at hkl
    refine ⟨_, rfl, _, rfl, q, _, _, _, rfl, rfl, SqL.of y2, iV_at hkl, _, rfl, _, _, rfl, rfl, ⟨by decide, by decide⟩, rfl, _, rfl, ?_⟩
    refine ite2 (fun c => ?_) (fun c => ?_)
    · have c' : x ≠ d / 2 := fun z => by
        rw [decide_eq_true (show iV x = V.int ((d : Int) / 2) by rw [z, ed]; rfl)] at c
        cases c
      have hk2 : k ≠ l.idxOf (d / 2) := fun z => c' (by
        rw [z, idx_get p2] at hkl
        exact (Option.some.inj hkl).symm)
      refine ⟨_, rfl, _, _, rfl, rfl, ?_⟩
      refine ⟨⟨k + 1, rfl, rfl, by omega⟩, ?_⟩
      show (200 - ((k : Int) + 1)).toNat < (200 - (k : Int)).toNat
      omega
    · have c' : x = d / 2 := by
        by_cases z : x = d / 2
        · exact z
        · exact absurd (by rw [decide_eq_false (fun y => z (by have := V.int.inj y; omega))]; rfl) c
      subst c'
      have hk3 : k = l.idxOf (d / 2) := nd_inj (w'.nd _ _ p1) hkl (idx_get p2)
      subst hk3
      have hlen : (l.map iV).length = l.length := List.length_map _
      have hmod : (((l.idxOf (d / 2) : Nat) : Int) + 1) % ((l.map iV).length : Int) = (((l.idxOf (d / 2) + 1) % l.length : Nat) : Int) := by rw [hlen]; rfl
      have m2 : CMul 2 ((nxt l (d / 2) : Nat) : Int) := .inl ⟨by decide, by decide⟩
      refine ⟨_, rfl, _, rfl, _, _, rfl, rfl, _, rfl, q, _, rfl, .inl (SqL.of y2), _, _, rfl, rfl, (by show (0 : Int) < ((l.map iV).length : Int); rw [hlen]; omega), q, _, _, _, rfl, rfl, SqL.of y2, (by rw [hmod]; exact iV_at (nxt_get p2)), ?_⟩
      refine ⟨_, rfl, _, rfl, a, ys, _, _, rfl, rfl, hS, atI_nat x1', p', _, 0, _, rfl, rfl, SqT.of x2', at0, _, rfl, rfl, _, rfl, ?_⟩
      rw [p6] at kk
      refine ite2 (fun c => ?_) (fun c => ?_)
      · have c' : e.1 = hd es d := by have := V.int.inj (of_decide_eq_true c); omega
        rw [if_pos c'] at kk
        exact ⟨_, rfl, _, _, rfl, rfl, m2, kk⟩
      · have c' : ¬ e.1 = hd es d := fun z => c (decide_eq_true (congrArg iV z))
        rw [if_neg c'] at kk
        exact ⟨_, rfl, _, _, rfl, rfl, m2, _, _, rfl, rfl, kk⟩
  · rintro σ H2 Q1 Q2 hi ⟨v1, e1, v2, e2, p, xs, i, v, e3, e4, e5, e6, v3, e7, i', j', e8, e9, c, z1, b, e10, q'⟩
    exact ⟨v1, e1, v2, e2, p, xs, i, v, e3, e4, e5, e6, v3, e7, i', j', e8, e9, c, z1, b, e10, hi _ _ q'⟩
theorem TiesAt.put {H : Hp} {xs : List V} {es : En} {q : Addr} {ys : List V} {o : HO} (t : TiesAt K H xs es) (h : H q = some (.lst ys)) : TiesAt K (upd H q o) xs es := ⟨t.1, fun i e z => by
  obtain ⟨p, C, dx, s, a, b, d⟩ := t.2 i e z
  refine ⟨p, C, dx, s, a, ?_, d⟩
  rw [upd_ne (fun z => by rw [z, h] at b; cases b)]
  exact b⟩
theorem TiesAt.snoc {H : Hp} {xs : List V} {es : En} {e : Nat × Nat} {p C dx : Addr} {s : Int} (t : TiesAt K H xs es) (h : H p = some (.ins C dx (tf (e.1 : Int) (e.2 : Int) s))) (c : CT K C) : TiesAt K H (xs ++ [.ref p]) (es ++ [e]) := by
  refine ⟨by rw [List.length_append, List.length_append, t.1]; rfl, fun j k ej => ?_⟩
  by_cases hj : j < es.length
  · rw [List.getElem?_append_left hj] at ej
    obtain ⟨p, C', dx', s', a1, a2, a3⟩ := t.2 j k ej
    exact ⟨p, C', dx', s', by rw [List.getElem?_append_left (by rw [t.1]; exact hj)]; exact a1, a2, a3⟩
  · rw [List.getElem?_append_right (by omega)] at ej
    have hj2 : j = es.length := by
      have := (List.getElem?_eq_some_iff.mp ej).1
      rw [List.length_singleton] at this
      omega
    subst hj2
    rw [Nat.sub_self] at ej
    cases ej
    exact ⟨p, C, dx, s, by rw [← t.1, List.getElem?_append_right (Nat.le_refl _), Nat.sub_self]; rfl, h, c⟩
theorem sc_law_ties : FnScope ["ends", "ties", "i"] ["ends"] (defScope s_law_ties) := ⟨rfl, rfl, rfl, by decide +kernel, rfl, by decide +kernel, by decide +kernel⟩
theorem ok_ties {f fI PL PS : Addr} {fd fdI : FuncData} (F : Fun K "_law_ties" "_law_ties" s_law_ties f fd) (T : Txt mg) (M_Pull : Mak P w K mg base 1 "Pull" ["self", "one", "two", "strength"] (spInit K) PL fI fdI) (M_Push : Mak P w K mg base 1 "Push" ["self", "one", "two", "strength"] (spInit K) PS fI fdI) (TL : CT K PL) (TS : CT K PS) :
    FnOk P w K mg base CX0 3 f fd ["ends"] (spTies K) := by
  refine F.ok sc_law_ties (fun vs H Q E h => ?_) (fun cdv A outer s H vs Q E hr h => ?_)
  · obtain ⟨a, ys, es, rfl, _⟩ := h
    rfl
  obtain ⟨a, ys, es, rfl, hS, hE, hn, few, k⟩ := h
  have hyl : ys.length = es.length := hE.1
  refine ⟨_, (pss_cons (ps_set (i := 1) sc_law_ties.nd rfl (Or.inl rfl) (pe_lst pa_nil))
      (pss_cons (ps_for PassesOwn.never rfl (pi_range1 rfl T.n_range (pa_cons (pe_callB call_len_seq (by rfl) T.n_len bt_len (pa_cons (pv 0) pa_nil)) pa_nil)) (pg_name (i := 2) sc_law_ties.nd rfl (Or.inl rfl)) (pss_one (ps_if (pt_cmpR op_eq (pe_op op_mod (pe_op op_add (pe_ix ix_tup (pe_ix ix_list (pv 0) (pv 2) (fun _ _ => rfl)) pe_int (fun _ _ => rfl)) (pv 2)) pe_int) pe_int (nomark _)) (pss_one (ps_expr (pe_bm PySem.F.plainAttrs_list PySem.F.slot_list_append PySem.F.type_list_append mt_append (pv 1) (pa_cons (pe_make M_Push.mkc M_Push.ok (hr.mono (by decide)) rfl M_Push.mg M_Push.bn .nil pass0 (pa_cons (pe_ix ix_tup (pe_ix ix_list (pv 0) (pv 2) (fun _ _ => rfl)) pe_int (fun _ _ => rfl)) (pa_cons (pe_ix ix_tup (pe_ix ix_list (pv 0) (pv 2) (fun _ _ => rfl)) pe_int (fun _ _ => rfl)) (pa_cons (pv 2) pa_nil)))) pa_nil)))) (pss_one (ps_expr (pe_bm PySem.F.plainAttrs_list PySem.F.slot_list_append PySem.F.type_list_append mt_append (pv 1) (pa_cons (pe_make M_Pull.mkc M_Pull.ok (hr.mono (by decide)) rfl M_Pull.mg M_Pull.bn .nil pass0 (pa_cons (pe_ix ix_tup (pe_ix ix_list (pv 0) (pv 2) (fun _ _ => rfl)) pe_int (fun _ _ => rfl)) (pa_cons (pe_ix ix_tup (pe_ix ix_list (pv 0) (pv 2) (fun _ _ => rfl)) pe_int (fun _ _ => rfl)) (pa_cons pe_int pa_nil)))) pa_nil)))))))
      (pss_one (ps_ret (pv 1))))), ?_⟩
  refine ⟨(by show 0 ≤ sizeLine; decide), fun q hq => ?_⟩
  have s1 := same_new hq (.lst [])
  refine ⟨_, rfl, a, ys, rfl, .inl (s1.seq hS), _, rfl, by omega, by omega, for_range (n := (ys.length : Int).toNat) (fun i σ H2 => ∃ v2 xs, σ = [some (.ref a), some (.ref q), v2] ∧ Same H H2 ∧ H2 q = some (.lst xs) ∧ TiesAt K H2 xs (es.take i)) ⟨_, [], rfl, s1, upd_same, rfl, fun i e z => by simp at z⟩ ?_ ?_⟩
  · rintro i σ H2 hi ⟨v2, xs, rfl, s2, e1, tt⟩
    rw [Int.toNat_natCast, hyl] at hi
    have e0 : (0 : Int) + (i : Int) = (i : Int) := Int.zero_add _
    rw [e0]
    have he : es[i]? = some es[i] := List.getElem?_eq_getElem hi
    have hne := hn _ (List.mem_of_getElem? he)
    generalize es[i] = e at he hne
    have f1 : es.take (i + 1) = es.take i ++ [e] := by rw [List.take_add_one, he]; rfl
    have hxl : xs.length ≤ i := by rw [tt.1, List.length_take]; omega
    obtain ⟨p, x1, x2⟩ := (hE.mono s2).2 i e he
    have hA := s2.seq hS
    have hat := atI_nat x1
    refine ⟨_, rfl, _, rfl, a, ys, _, _, rfl, rfl, hA, hat, p, _, 0, _, rfl, rfl, SqT.of x2, at0, _, rfl, _, _, rfl, rfl, _, _, rfl, rfl, (by show (0 : Int) < 2; decide), rfl, _, rfl, ?_⟩
    have fin : ∀ (x C dx : Addr) (st : Int) (H' : Hp), Same H2 H' → CT K C → H' x = some (.ins C dx (tf (e.1 : Int) (e.2 : Int) st)) → ∃ v2 zs, ([some (.ref a), some (.ref q), some (.int (i : Int))] : St) = [some (.ref a), some (.ref q), v2] ∧ Same H (upd H' q (.lst (xs ++ [.ref x]))) ∧ (upd H' q (.lst (xs ++ [.ref x]))) q = some (.lst zs) ∧ TiesAt K (upd H' q (.lst (xs ++ [.ref x]))) zs (es.take (i + 1)) := fun x C dx st H' s4 c h1 => by
      refine ⟨_, _, rfl, same_upd (s2.trans s4) hq _, upd_same, ?_⟩
      rw [f1]
      exact ((tt.mono s4).snoc h1 c).put (s4 _ _ e1)
    refine ite2 (fun _ => ?_) (fun _ => ?_)
    · refine ⟨_, rfl, .inl ⟨rfl, _, SqL.of e1⟩, _, rfl, _, rfl, a, ys, _, _, rfl, rfl, hA, hat, p, _, 0, _, rfl, rfl, SqT.of x2, at0, _, rfl, _, rfl, a, ys, _, _, rfl, rfl, hA, hat, p, _, 1, _, rfl, rfl, SqT.of x2, at1, _, rfl, ?_⟩
      intro x dx nx ndx nex
      refine ⟨x, PS, dx, _, _, _, rfl, upd_same, TS, by omega, by omega, by omega, by omega, fun H' h1 h2 => ?_⟩
      have s4 : Same H2 H' := fun b o z => h2 b o (by rw [upd_ne (ne_of_none z nx), upd_ne (ne_of_none z ndx)]; exact z) (ne_of_none z nx)
      exact ⟨rfl, q, xs, _, rfl, rfl, s4 _ _ e1, small1000 (by omega), fin x PS dx _ H' s4 TS h1⟩
    · refine ⟨_, rfl, .inl ⟨rfl, _, SqL.of e1⟩, _, rfl, _, rfl, a, ys, _, _, rfl, rfl, hA, hat, p, _, 0, _, rfl, rfl, SqT.of x2, at0, _, rfl, _, rfl, a, ys, _, _, rfl, rfl, hA, hat, p, _, 1, _, rfl, rfl, SqT.of x2, at1, ?_⟩
      intro x dx nx ndx nex
      refine ⟨x, PL, dx, _, _, _, rfl, upd_same, TL, by omega, by omega, by omega, by decide, fun H' h1 h2 => ?_⟩
      have s4 : Same H2 H' := fun b o z => h2 b o (by rw [upd_ne (ne_of_none z nx), upd_ne (ne_of_none z ndx)]; exact z) (ne_of_none z nx)
      exact ⟨rfl, q, xs, _, rfl, rfl, s4 _ _ e1, small1000 (by omega), fin x PL dx _ H' s4 TL h1⟩
  · rintro σ H2 ⟨v2, xs, rfl, s2, e1, tt⟩
    rw [Int.toNat_natCast, hyl, List.take_length] at tt
    exact ⟨_, rfl, k q xs H2 s2 e1 tt⟩
theorem nats_rd {H : Hp} {a : Addr} {ps : List Nat} (h : SqL K H a (ps.map iV)) : RdD K H (.ref a) (.list ((ps.map fun (p : Nat) => ((p : Nat) : Int)).map PyData.int)) := by
  refine RdD.lst h (by simp) fun i x d e1 e2 => ?_
  rw [List.getElem?_map] at e1
  rw [List.getElem?_map, List.getElem?_map] at e2
  cases z : ps[i]? with
  | none => rw [z] at e1; cases e1
  | some n =>
    rw [z] at e1 e2
    cases e1
    cases e2
    exact .int _
theorem ints_flat (l : List Int) : (PyData.list (l.map PyData.int)).canLay0 = true ∧ (PyData.list (l.map PyData.int)).depth ≤ 10 := by
  have h1 : ∀ d ∈ l.map PyData.int, d.canLay0 = true ∧ d.depth ≤ 1 := fun d hd => by
    obtain ⟨x, _, rfl⟩ := List.mem_map.mp hd
    exact ⟨by simp [PyData.canLay0], by simp [PyData.depth]⟩
  have h2 := canLayAll_of fun d hd => (h1 d hd).1
  have h3 := depthAll_of fun d hd => (h1 d hd).2
  exact ⟨by simp only [PyData.canLay0]; exact h2, by simp only [PyData.depth]; omega⟩
theorem EndsAt.put {H : Hp} {ys : List V} {es : En} {q : Addr} {zs : List V} {o : HO} (t : EndsAt H ys es) (h : H q = some (.lst zs)) : EndsAt (upd H q o) ys es := ⟨t.1, fun i e z => by
  obtain ⟨p, a, b⟩ := t.2 i e z
  refine ⟨p, a, ?_⟩
  rw [upd_ne (fun z => by rw [z, h] at b; cases b)]
  exact b⟩
theorem EndsAt.snoc {H : Hp} {xs : List V} {es : En} {e : Nat × Nat} {p : Addr} (t : EndsAt H xs es) (h : H p = some (.tup [iV e.1, iV e.2])) : EndsAt H (xs ++ [.ref p]) (es ++ [e]) := by
  refine ⟨by rw [List.length_append, List.length_append, t.1]; rfl, fun j k ej => ?_⟩
  by_cases hj : j < es.length
  · rw [List.getElem?_append_left hj] at ej
    obtain ⟨p, a1, a2⟩ := t.2 j k ej
    exact ⟨p, by rw [List.getElem?_append_left (by rw [t.1]; exact hj)]; exact a1, a2⟩
  · rw [List.getElem?_append_right (by omega)] at ej
    have hj2 : j = es.length := by
      have := (List.getElem?_eq_some_iff.mp ej).1
      rw [List.length_singleton] at this
      omega
    subst hj2
    rw [Nat.sub_self] at ej
    cases ej
    exact ⟨p, by rw [← t.1, List.getElem?_append_right (Nat.le_refl _), Nat.sub_self]; rfl, h⟩
theorem ins_len {l : List Nat} {k n : Nat} : (ins l k n).length = l.length + 1 := by
  unfold ins
  rw [List.length_append, List.length_cons, List.length_take, List.length_drop]
  omega
theorem mod_le (X : Int) (n : Nat) : 0 ≤ X % ((n : Int) + 1) ∧ X % ((n : Int) + 1) ≤ (n : Int) := ⟨Int.emod_nonneg _ (by omega), by have := Int.emod_lt_of_pos X (show (0 : Int) < (n : Int) + 1 by omega); omega⟩
def Dist (xs : List V) : Prop := ∀ (i j : Nat) (p : Addr), xs[i]? = some (.ref p) → xs[j]? = some (.ref p) → i = j
theorem RowsX.set {S : Addr → Prop} {H : Hp} {xs : List V} {ts : List (List Nat)} {i : Nat} {p : Addr} {l' : List Nat} (h : RowsX S H xs ts) (D : Dist xs) (e : xs[i]? = some (.ref p)) : RowsX S (upd H p (.lst (l'.map iV))) xs (ts.set i l') := by
  refine ⟨by rw [List.length_set]; exact h.1, fun j l z => ?_⟩
  have hi : i < ts.length := by rw [← h.1]; exact (List.getElem?_eq_some_iff.mp e).1
  rw [List.getElem?_set] at z
  by_cases hj : i = j
  · subst hj
    rw [if_pos rfl, if_pos hi] at z
    cases z
    obtain ⟨p', a1, a2, a3⟩ := h.2 i _ (List.getElem?_eq_getElem hi)
    rw [e] at a1
    cases a1
    exact ⟨p, e, a2, upd_same⟩
  · rw [if_neg hj] at z
    obtain ⟨p', a1, a2, a3⟩ := h.2 j l z
    exact ⟨p', a1, a2, by rw [upd_ne (fun y => by rw [y] at a1; exact hj (D i j p e a1))]; exact a3⟩
theorem insV {l : List Nat} {k n : Nat} : (l.map iV).take k ++ V.int (n : Int) :: (l.map iV).drop k = (ins l k n).map iV := by
  unfold ins
  rw [List.map_append, List.map_cons, List.map_take, List.map_drop]
  rfl
theorem two_ne {o m x : Int} (h0 : 0 ≤ o) (h1 : o < m) (x0 : 0 ≤ x) (x1 : x < m - 1) : (o + 1 + x) % m ≠ o := by
  by_cases h : o + 1 + x < m
  · rw [Int.emod_eq_of_lt (by omega) h]
    omega
  · have e : (o + 1 + x) % m = (o + 1 + x - m) % m := by
      rw [← Int.add_mul_emod_self_left (o + 1 + x - m) m 1, Int.mul_one]
      congr 1
      omega
    rw [e, Int.emod_eq_of_lt (by omega) (by omega)]
    omega
theorem cut_few {ns : List Int} (h : ns.length ≤ 63) : (cutV (ns.map V.int) (some 1) (some 81)).length ≤ 62 ∧ ∀ x ∈ cutV (ns.map V.int) (some 1) (some 81), ∃ c, x = V.int c := by
  refine ⟨?_, fun x hx => ?_⟩
  · unfold cutV
    have q1 := HT.sIx_nat (ns.map V.int).length 0 1
    have q2 := HT.sIx_nat (ns.map V.int).length (ns.map V.int).length 81
    have z1 : ((1 : Nat) : Int) = 1 := rfl
    have z2 : ((81 : Nat) : Int) = 81 := rfl
    rw [z1] at q1
    rw [z2] at q2
    rw [q1, q2, List.length_take, List.length_drop, List.length_map]
    omega
  · unfold cutV at hx
    have := List.mem_of_mem_drop (List.mem_of_mem_take hx)
    obtain ⟨c, _, rfl⟩ := List.mem_map.mp this
    exact ⟨c, rfl⟩
theorem sc_law_built : FnScope ["script", "many", "ends", "turns", "cell", "mixed", "one", "two", "row"] ["script"] (defScope s_law_built) := ⟨rfl, rfl, rfl, by decide +kernel, rfl, by decide +kernel, by decide +kernel⟩
theorem ok_built {f fc : Addr} {fd fdc : FuncData} (F : Fun K "_law_built" "_law_built" s_law_built f fd) (T : Txt mg) (G_law_cell : Cal P w K mg base 1 "_law_cell" ["script", "k"] (spCell K) fc fdc) :
    FnOk P w K mg base CX0 2 f fd ["script"] (spBuilt K) := by
  refine F.ok sc_law_built (fun vs H Q E h => ?_) (fun cdv A outer s H vs Q E hr h => ?_)
  · obtain ⟨a, ns, rfl, _⟩ := h
    rfl
  obtain ⟨a, ns, rfl, hS, h63, kk⟩ := h
  refine ⟨_, (pss_cons (ps_set (i := 1) sc_law_built.nd rfl (Or.inl rfl) (pe_op op_add pe_int (pe_op op_mod (pe_call G_law_cell.ok (hr.mono (by decide)) rfl G_law_cell.mg G_law_cell.kp G_law_cell.bn .nil pass0 (pa_cons (pv 0) (pa_cons pe_int pa_nil))) pe_int)))
      (pss_cons (ps_set (i := 2) sc_law_built.nd rfl (Or.inl rfl) (pe_lst pa_nil))
      (pss_cons (ps_setComp (i := 3) rfl sc_law_built.nd rfl rfl (fr := []) (by exact CompOk.plain (by rfl) (by decide +kernel) (by rfl) (by decide +kernel) (by rfl) (by decide +kernel)) (pi_range1 rfl T.n_range (pa_cons (pv 1) pa_nil)) (fun C ex s H => (pe_lst pa_nil)))
      (pss_cons (ps_for PassesOwn.never rfl (pi_list (pe_slice sl_list (pv 0) (po_some pe_int) (po_some pe_int))) (pg_name (i := 4) sc_law_built.nd rfl (Or.inl rfl)) (pss_cons (ps_set (i := 5) sc_law_built.nd rfl (Or.inl rfl) (pe_op op_mod (pe_op op_mul (pe_op op_mod (pv 4) pe_int) pe_int) pe_int))
      (pss_cons (ps_set (i := 6) sc_law_built.nd rfl (Or.inl rfl) (pe_op op_mod (pv 5) (pv 1)))
      (pss_cons (ps_set (i := 5) sc_law_built.nd rfl (Or.inl rfl) (pe_op op_fdiv (pv 5) (pv 1)))
      (pss_cons (ps_set (i := 7) sc_law_built.nd rfl (Or.inl rfl) (pe_op op_mod (pe_op op_add (pe_op op_add (pv 6) pe_int) (pe_op op_mod (pv 5) (pe_op op_sub (pv 1) pe_int))) (pv 1)))
      (pss_cons (ps_set (i := 5) sc_law_built.nd rfl (Or.inl rfl) (pe_op op_fdiv (pv 5) (pe_op op_sub (pv 1) pe_int)))
      (pss_cons (ps_set (i := 8) sc_law_built.nd rfl (Or.inl rfl) (pe_ix ix_list (pv 3) (pv 6) (fun _ _ => rfl)))
      (pss_cons (ps_expr (pe_bm PySem.F.plainAttrs_list PySem.F.slot_list_insert PySem.F.type_list_insert mt_insert (pv 8) (pa_cons (pe_op op_mod (pv 5) (pe_op op_add (pe_callB call_len_seq (by rfl) T.n_len bt_len (pa_cons (pv 8) pa_nil)) pe_int)) (pa_cons (pe_callB call_len_seq (by rfl) T.n_len bt_len (pa_cons (pv 2) pa_nil)) pa_nil))))
      (pss_cons (ps_set (i := 5) sc_law_built.nd rfl (Or.inl rfl) (pe_op op_fdiv (pv 5) (pe_callB call_len_seq (by rfl) T.n_len bt_len (pa_cons (pv 8) pa_nil))))
      (pss_cons (ps_set (i := 8) sc_law_built.nd rfl (Or.inl rfl) (pe_ix ix_list (pv 3) (pv 7) (fun _ _ => rfl)))
      (pss_cons (ps_expr (pe_bm PySem.F.plainAttrs_list PySem.F.slot_list_insert PySem.F.type_list_insert mt_insert (pv 8) (pa_cons (pe_op op_mod (pv 5) (pe_op op_add (pe_callB call_len_seq (by rfl) T.n_len bt_len (pa_cons (pv 8) pa_nil)) pe_int)) (pa_cons (pe_callB call_len_seq (by rfl) T.n_len bt_len (pa_cons (pv 2) pa_nil)) pa_nil))))
      (pss_one (ps_expr (pe_bm PySem.F.plainAttrs_list PySem.F.slot_list_append PySem.F.type_list_append mt_append (pv 2) (pa_cons (pe_tup (pa_cons (pv 6) (pa_cons (pv 7) pa_nil))) pa_nil)))))))))))))))
      (pss_one (ps_ret (pe_tup (pa_cons (pv 2) (pa_cons (pv 3) pa_nil))))))))), ?_⟩
  refine ⟨_, rfl, a, 0, ns, rfl, hS, _, _, rfl, rfl, (by show (0 : Int) < 39; decide), _, _, rfl, rfl, ?_⟩
  obtain ⟨m, hm, m2, m40⟩ : ∃ m : Nat, 2 + cellD ns 0 % 39 = (m : Int) ∧ 2 ≤ m ∧ m ≤ 40 := ⟨(2 + cellD ns 0 % 39).toNat, by omega, by omega, by omega⟩
  rw [show ((fun (i j : Int) => V.int (i + j)) 2 (cellD ns 0 % 39)) = V.int (m : Int) from congrArg V.int hm]
  refine ⟨(by show 0 ≤ sizeLine; decide), fun pe hpe => ?_⟩
  have s1 := same_new hpe (.lst [])
  refine ⟨_, rfl, _, rfl, by omega, by omega, comp_range (n := (m : Int).toNat) (fun i xs H2 => Same (upd H pe (.lst [])) H2 ∧ RowsX (fun p => (upd H pe (.lst [])) p ≠ none) H2 xs (List.replicate i []) ∧ Dist xs) (by rw [Int.toNat_natCast]; exact Nat.le_of_lt (small1000 (by omega))) ⟨fun _ _ e => e, ⟨rfl, fun i l e => by simp at e⟩, fun i j p e => by simp at e⟩ ?_ ?_⟩
  · rintro i xs H2 hi ⟨s2, rx, D⟩
    refine ⟨(by show 0 ≤ sizeLine; decide), fun l hl => ?_⟩
    have s3 := same_new hl (.lst [])
    refine ⟨s2.trans s3, ?_, ?_⟩
    · rw [List.replicate_succ']
      refine (rx.mono fun b u _ z => s3 _ _ z).snoc (fun z => z ?_) upd_same
      cases y : (upd H pe (.lst [])) l with
      | none => rfl
      | some o => rw [s2 _ _ y] at hl; cases hl
    · have hx : xs.length = i := by rw [rx.1, List.length_replicate]
      have old : ∀ (j : Nat) (p : Addr), j < i → (xs ++ [V.ref l])[j]? = some (.ref p) → xs[j]? = some (.ref p) ∧ p ≠ l := fun j p hj e => by
        rw [List.getElem?_append_left (by omega)] at e
        obtain ⟨p', a1, _, a3⟩ := rx.2 j [] (by rw [List.getElem?_replicate, if_pos hj])
        rw [e] at a1
        cases a1
        exact ⟨e, ne_of_none a3 hl⟩
      have new : ∀ (j : Nat) (p : Addr), ¬ j < i → (xs ++ [V.ref l])[j]? = some (.ref p) → j = i ∧ p = l := fun j p hj e => by
        have := (List.getElem?_eq_some_iff.mp e).1
        rw [List.length_append, List.length_singleton] at this
        have hj2 : j = xs.length := by omega
        subst hj2
        rw [List.getElem?_append_right (Nat.le_refl _), Nat.sub_self] at e
        cases e
        exact ⟨hx, rfl⟩
      intro j k p e1 e2
      by_cases hj : j < i
      · obtain ⟨u1, u2⟩ := old j p hj e1
        by_cases hk : k < i
        · exact D j k p u1 (old k p hk e2).1
        · exact absurd (new k p hk e2).2 u2
      · obtain ⟨u1, u2⟩ := new j p hj e1
        by_cases hk : k < i
        · exact absurd u2 (old k p hk e2).2
        · rw [u1, (new k p hk e2).1]
  rintro xs H2 hxl ⟨s2, rx, D⟩ pt hpt
  rw [Int.toNat_natCast] at rx
  have hpt1 : (upd H pe (.lst [])) pt = none := by
    cases y : (upd H pe (.lst [])) pt with
    | none => rfl
    | some o => rw [s2 _ _ y] at hpt; cases hpt
  have s02 := s1.trans s2
  have hpt0 : H pt = none := by
    cases y : H pt with
    | none => rfl
    | some o => rw [s02 _ _ y] at hpt; cases hpt
  have npe : pe ≠ pt := fun z => by rw [← z, upd_same] at hpt1; cases hpt1
  have s3 := same_new hpt (.lst xs)
  have s03 := s02.trans s3
  refine ⟨_, rfl, _, rfl, _, rfl, a, _, rfl, s03.seq hS, fun b hb => ?_⟩
  have hb0 : H b = none := by
    cases y : H b with
    | none => rfl
    | some o => rw [s03 _ _ y] at hb; cases hb
  have e2 : H2 pe = some (.lst []) := s2 _ _ upd_same
  have npb : pe ≠ b := ne_of_none (s3 _ _ e2) hb
  have ntb : pt ≠ b := ne_of_none (H := upd H2 pt (.lst xs)) upd_same hb
  obtain ⟨cl, ci⟩ := cut_few h63
  generalize cutV (ns.map V.int) (some 1) (some 81) = cells at cl ci
  have s4 := s03.trans (same_new hb (.lst cells))
  have rx4 : RowsX (fun p => p = pe ∨ p = pt ∨ p = b ∨ H p ≠ none) (upd (upd H2 pt (.lst xs)) b (.lst cells)) xs (List.replicate m []) := ⟨rx.1, fun i l z => by
    obtain ⟨p, a1, a2, a3⟩ := rx.2 i l z
    have n1 : p ≠ pe := fun y => a2 (by show (upd H pe (.lst [])) p ≠ none; rw [y, upd_same]; exact fun u => nomatch u)
    have n2 : p ≠ pt := ne_of_none a3 hpt
    have a4 := s3 _ _ a3
    have n3 : p ≠ b := ne_of_none a4 hb
    refine ⟨p, a1, ?_, same_new hb _ _ _ a4⟩
    rintro (y | y | y | y)
    · exact n1 y
    · exact n2 y
    · exact n3 y
    · refine a2 ?_
      cases u : H p with
      | none => exact absurd u y
      | some o => show (upd H pe (.lst [])) p ≠ none; rw [s1 _ _ u]; exact fun u => nomatch u⟩
  refine ⟨b, rfl, ⟨_, SqL.of upd_same⟩, for_list (xs := cells) (fun i σ H5 => ∃ v4 v5 v6 v7 v8 ys es ts, σ = [some (.ref a), some (.int (m : Int)), some (.ref pe), some (.ref pt), v4, v5, v6, v7, v8] ∧ Same H H5 ∧ H5 b = some (.lst cells) ∧ H5 pe = some (.lst ys) ∧ EndsAt H5 ys es ∧ H5 pt = some (.lst xs) ∧ RowsX (fun p => p = pe ∨ p = pt ∨ p = b ∨ H p ≠ none) H5 xs ts ∧ Turn0 m es ts ∧ es.length = i)
    ⟨_, _, _, _, _, [], [], _, rfl, s4, upd_same, same_new hb _ _ _ (s3 _ _ e2), ⟨rfl, fun i e z => by simp at z⟩, same_new hb _ _ _ upd_same, rx4, turn_nil m, rfl⟩ (fun i σ H5 _ ⟨_, _, _, _, _, _, _, _, _, _, z, _⟩ => SqL.of z) ?_ ?_⟩
  · rintro i x σ H5 hx ⟨v4, v5, v6, v7, v8, ys, es, ts, rfl, s5, hb5, hpe5, en, hpt5, rx5, w', rfl⟩
    obtain ⟨c, rfl⟩ := ci x (List.mem_of_getElem? hx)
    have hil : es.length < cells.length := (List.getElem?_eq_some_iff.mp hx).1
    have hyl : ys.length = es.length := en.1
    refine ⟨_, rfl, _, _, rfl, rfl, (by show (0 : Int) < 1000000007; decide), _, _, rfl, rfl, .inr ⟨by decide, by decide⟩, _, _, rfl, rfl, (by show (0 : Int) < 2147483647; decide), ?_⟩
    have hmp : (0 : Int) < (m : Int) := by omega
    have hmp1 : (0 : Int) < (m : Int) - 1 := by omega
    refine ⟨_, rfl, _, rfl, _, _, rfl, rfl, hmp, ?_⟩
    refine ⟨_, rfl, _, rfl, _, _, rfl, rfl, ⟨hmp, by show (m : Int) < 1073741824; omega⟩, ?_⟩
    refine ⟨_, rfl, _, _, rfl, rfl, _, rfl, _, rfl, _, _, rfl, rfl, _, _, rfl, rfl, hmp1, _, _, rfl, rfl, _, rfl, _, _, rfl, rfl, hmp, ?_⟩
    refine ⟨_, rfl, _, rfl, _, _, rfl, rfl, _, _, rfl, rfl, ⟨hmp1, by show (m : Int) - 1 < 1073741824; omega⟩, ?_⟩
    obtain ⟨M, hM⟩ : ∃ M, c % 1000000007 * 48271 % 2147483647 = M := ⟨_, rfl⟩
    have o1 := Int.emod_nonneg M (show (m : Int) ≠ 0 by omega)
    have o2 := Int.emod_lt_of_pos M hmp
    have o3 := Int.emod_nonneg (M / (m : Int)) (show (m : Int) - 1 ≠ 0 by omega)
    have o4 := Int.emod_lt_of_pos (M / (m : Int)) hmp1
    have o5 := two_ne o1 o2 o3 o4
    have o6 := Int.emod_nonneg (M % (m : Int) + 1 + M / (m : Int) % ((m : Int) - 1)) (show (m : Int) ≠ 0 by omega)
    have o7 := Int.emod_lt_of_pos (M % (m : Int) + 1 + M / (m : Int) % ((m : Int) - 1)) hmp
    obtain ⟨o, ho⟩ : ∃ o : Nat, M % (m : Int) = (o : Int) := ⟨_, (Int.toNat_of_nonneg o1).symm⟩
    obtain ⟨u, hu⟩ : ∃ u : Nat, (M % (m : Int) + 1 + M / (m : Int) % ((m : Int) - 1)) % (m : Int) = (u : Int) := ⟨_, (Int.toNat_of_nonneg o6).symm⟩
    have hom : o < m := by omega
    have hum : u < m := by omega
    have hou : o ≠ u := by omega
    rw [← hM] at ho hu
    have tl : ts.length = m := w'.len
    obtain ⟨l, hl⟩ : ∃ l, ts[o]? = some l := ⟨_, List.getElem?_eq_getElem (by omega)⟩
    obtain ⟨l', hl'⟩ : ∃ l, ts[u]? = some l := ⟨_, List.getElem?_eq_getElem (by omega)⟩
    obtain ⟨p1, y1, y2, y3⟩ := rx5.2 o l hl
    obtain ⟨p2, z1, z2, z3⟩ := rx5.2 u l' hl'
    have n12 : p2 ≠ p1 := fun y => hou (D o u p1 y1 (y ▸ z1))
    have few : es.length ≤ 62 := by omega
    have f1 := (turn_small w' few hl).2
    have f2 := (turn_small w' few hl').2
    have len1 : (l.map iV).length = l.length := List.length_map _
    have len2 : (l'.map iV).length = l'.length := List.length_map _
    have hp1 : H p1 = none := by
      cases y : H p1 with
      | none => rfl
      | some o => exact absurd (.inr (.inr (.inr (by rw [y]; exact fun z => nomatch z)))) y2
    have hp2 : H p2 = none := by
      cases y : H p2 with
      | none => rfl
      | some o => exact absurd (.inr (.inr (.inr (by rw [y]; exact fun z => nomatch z)))) z2
    -- row = turns[one]; row.insert
    refine ⟨_, rfl, _, rfl, pt, xs, _, _, rfl, rfl, SqL.of hpt5, (by rw [ho]; exact atI_nat y1), ?_⟩
    refine ⟨_, rfl, .inl ⟨rfl, _, SqL.of y3⟩, _, rfl, _, rfl, p1, _, rfl, .inl (SqL.of y3), _, _, rfl, rfl, _, _, rfl, rfl, (by show (0 : Int) < ((l.map iV).length : Int) + 1; omega), _, rfl, pe, ys, rfl, .inl (SqL.of hpe5), p1, _, _, _, rfl, rfl, y3, (mod_le _ _).1, (mod_le _ _).2, small1000 (by omega), ?_⟩
    rw [hyl, insV]
    refine ⟨_, rfl, _, rfl, p1, _, rfl, .inl (SqL.of upd_same), _, _, rfl, rfl, ⟨by rw [List.length_map, ins_len]; omega, by rw [List.length_map, ins_len]; omega⟩, ?_⟩
    -- row = turns[two]; row.insert
    have ne_S : ∀ {p q : Addr}, ¬ (p = pe ∨ p = pt ∨ p = b ∨ H p ≠ none) → (q = pe ∨ q = pt ∨ q = b) → q ≠ p := fun n y z => n (by rw [← z]; rcases y with y | y | y <;> simp [y])
    have hpt6 : ∀ o, (upd H5 p1 o) pt = some (.lst xs) := fun o => by rw [upd_ne (ne_S y2 (.inr (.inl rfl)))]; exact hpt5
    have hpe6 : ∀ o, (upd H5 p1 o) pe = some (.lst ys) := fun o => by rw [upd_ne (ne_S y2 (.inl rfl))]; exact hpe5
    have z6 : ∀ o, (upd H5 p1 o) p2 = some (.lst (l'.map iV)) := fun o => by rw [upd_ne n12]; exact z3
    have hpe7 : ∀ o o', (upd (upd H5 p1 o) p2 o') pe = some (.lst ys) := fun o o' => by rw [upd_ne (ne_S z2 (.inl rfl))]; exact hpe6 o
    have fin : ∀ (k1 k2 : Nat) (t : Addr) (v4 v5 v6 v7 v8 : Option V) (vo vu : V), vo = iV o → vu = iV u → (upd (upd H5 p1 (.lst ((ins l k1 es.length).map iV))) p2 (.lst ((ins l' k2 es.length).map iV))) t = none → ∃ w4 w5 w6 w7 w8 zs es' ts', ([some (.ref a), some (.int (m : Int)), some (.ref pe), some (.ref pt), v4, v5, v6, v7, v8] : St) = [some (.ref a), some (.int (m : Int)), some (.ref pe), some (.ref pt), w4, w5, w6, w7, w8] ∧
        Same H (upd (upd (upd (upd H5 p1 (.lst ((ins l k1 es.length).map iV))) p2 (.lst ((ins l' k2 es.length).map iV))) t (.tup [vo, vu])) pe (.lst (ys ++ [.ref t]))) ∧
        (upd (upd (upd (upd H5 p1 (.lst ((ins l k1 es.length).map iV))) p2 (.lst ((ins l' k2 es.length).map iV))) t (.tup [vo, vu])) pe (.lst (ys ++ [.ref t]))) b = some (.lst cells) ∧
        (upd (upd (upd (upd H5 p1 (.lst ((ins l k1 es.length).map iV))) p2 (.lst ((ins l' k2 es.length).map iV))) t (.tup [vo, vu])) pe (.lst (ys ++ [.ref t]))) pe = some (.lst zs) ∧
        EndsAt (upd (upd (upd (upd H5 p1 (.lst ((ins l k1 es.length).map iV))) p2 (.lst ((ins l' k2 es.length).map iV))) t (.tup [vo, vu])) pe (.lst (ys ++ [.ref t]))) zs es' ∧
        (upd (upd (upd (upd H5 p1 (.lst ((ins l k1 es.length).map iV))) p2 (.lst ((ins l' k2 es.length).map iV))) t (.tup [vo, vu])) pe (.lst (ys ++ [.ref t]))) pt = some (.lst xs) ∧
        RowsX (fun p => p = pe ∨ p = pt ∨ p = b ∨ H p ≠ none) (upd (upd (upd (upd H5 p1 (.lst ((ins l k1 es.length).map iV))) p2 (.lst ((ins l' k2 es.length).map iV))) t (.tup [vo, vu])) pe (.lst (ys ++ [.ref t]))) xs ts' ∧ Turn0 m es' ts' ∧ es'.length = es.length + 1 := fun k1 k2 t v4 v5 v6 v7 v8 vo vu hvo hvu ht => by
      subst hvo hvu
      have sn := same_new ht (.tup [iV o, iV u])
      have hb7 : (upd (upd H5 p1 (.lst ((ins l k1 es.length).map iV))) p2 (.lst ((ins l' k2 es.length).map iV))) b = some (.lst cells) := by rw [upd_ne (ne_S z2 (.inr (.inr rfl))), upd_ne (ne_S y2 (.inr (.inr rfl)))]; exact hb5
      have hpt7 : (upd (upd H5 p1 (.lst ((ins l k1 es.length).map iV))) p2 (.lst ((ins l' k2 es.length).map iV))) pt = some (.lst xs) := by rw [upd_ne (ne_S z2 (.inr (.inl rfl)))]; exact hpt6 _
      refine ⟨_, _, _, _, _, _, es ++ [(o, u)], _, rfl, same_upd ((same_upd (same_upd s5 hp1 _) hp2 _).trans sn) hpe _, ?_, upd_same, ?_, ?_, ?_, w'.put (k := k1) (j := k2) hom hum hou hl hl', by rw [List.length_append]; rfl⟩
      · rw [upd_ne npb.symm]
        exact sn _ _ hb7
      · exact ((((en.put y3).put (z6 _)).mono sn).snoc upd_same).put (sn _ _ (hpe7 _ _))
      · rw [upd_ne npe.symm]
        exact sn _ _ hpt7
      · refine ((rx5.set D y1).set D z1).mono fun p x n e => ?_
        rw [upd_ne (fun z => n (.inl z))]
        exact sn _ _ e
    refine ⟨_, rfl, _, rfl, pt, xs, _, _, rfl, rfl, SqL.of (hpt6 _), (by rw [hu]; exact atI_nat z1), ?_⟩
    refine ⟨_, rfl, .inl ⟨rfl, _, SqL.of (z6 _)⟩, _, rfl, _, rfl, p2, _, rfl, .inl (SqL.of (z6 _)), _, _, rfl, rfl, _, _, rfl, rfl, (by show (0 : Int) < ((l'.map iV).length : Int) + 1; omega), _, rfl, pe, ys, rfl, .inl (SqL.of (hpe6 _)), p2, _, _, _, rfl, rfl, z6 _, (mod_le _ _).1, (mod_le _ _).2, small1000 (by omega), ?_⟩
    rw [hyl, insV]
    refine ⟨_, rfl, .inl ⟨rfl, _, SqL.of (hpe7 _ _)⟩, _, rfl, _, rfl, (by show 2 ≤ sizeLine; decide), fun t ht => ?_⟩
    refine ⟨pe, ys, _, rfl, rfl, same_new ht _ _ _ (hpe7 _ _), small1000 (by omega), ?_⟩
    exact fin _ _ t _ _ _ _ _ _ _ (congrArg V.int ho) (congrArg V.int hu) ht
  · rintro σ H5 ⟨v4, v5, v6, v7, v8, ys, es, ts, rfl, s5, hb5, hpe5, en, hpt5, rx5, w', hl⟩
    refine ⟨_, rfl, _, rfl, (by show 2 ≤ sizeLine; decide), fun t ht => ?_⟩
    have s6 := same_new ht (.tup [.ref pe, .ref pt])
    exact kk t pe pt ys xs m es ts _ (s5.trans s6) upd_same (s6 _ _ hpe5) (en.mono s6) (s6 _ _ hpt5) (rx5.off.mono s6) w' (by omega) m40
theorem rows_rd {H : Hp} {a : Addr} {xs : List V} {ts : List (List Nat)} (h : SqL K H a xs) (hR : RowsAt H xs ts) : RdD K H (.ref a) (.list (ts.map fun l => PyData.list ((l.map fun (p : Nat) => ((p : Nat) : Int)).map PyData.int))) := by
  refine RdD.lst h (by rw [List.length_map]; exact hR.1) fun i x d e1 e2 => ?_
  rw [List.getElem?_map] at e2
  obtain ⟨l, hl, rfl⟩ := Option.map_eq_some_iff.mp e2
  obtain ⟨p, a1, a2⟩ := hR.2 i l hl
  rw [e1] at a1
  cases a1
  exact nats_rd (SqL.of a2)
theorem rows_shaped (ts : List (List Nat)) : SeqAt.shaped (.list (ts.map fun l => PyData.list ((l.map fun (p : Nat) => ((p : Nat) : Int)).map PyData.int))) = true := shaped_flat fun d hd => by
  obtain ⟨l, _, rfl⟩ := List.mem_map.mp hd
  exact ints_flat _
theorem ends_rd {H : Hp} {a : Addr} {xs : List V} {es : En} (h : SqL K H a xs) (hE : EndsAt H xs es) : RdD K H (.ref a) (.list (es.map fun e => PyData.tuple [.int (e.1 : Int), .int (e.2 : Int)])) := by
  refine RdD.lst h (by rw [List.length_map]; exact hE.1) fun i x d e1 e2 => ?_
  rw [List.getElem?_map] at e2
  obtain ⟨e, he, rfl⟩ := Option.map_eq_some_iff.mp e2
  obtain ⟨p, a1, a2⟩ := hE.2 i e he
  rw [e1] at a1
  cases a1
  refine RdD.tup (SqT.of a2) rfl fun j x d' q1 q2 => ?_
  match j with
  | 0 => cases q1; cases q2; exact .int _
  | 1 => cases q1; cases q2; exact .int _
  | j + 2 => cases q1
theorem ends_shaped (es : En) : SeqAt.shaped (.list (es.map fun e => PyData.tuple [.int (e.1 : Int), .int (e.2 : Int)])) = true := shaped_flat fun d hd => by
  obtain ⟨l, _, rfl⟩ := List.mem_map.mp hd
  exact flat2 _ _
theorem ints_rd' {H : Hp} {a : Addr} {ns : List Int} (h : SqL K H a (ns.map V.int)) : RdD K H (.ref a) (.list (ns.map PyData.int)) := by
  refine RdD.lst h (by rw [List.length_map, List.length_map]) fun i x d e1 e2 => ?_
  rw [List.getElem?_map] at e1 e2
  cases z : ns[i]? with
  | none => rw [z] at e1; cases e1
  | some n =>
    rw [z] at e1 e2
    cases e1
    cases e2
    exact .int _
/-- a permutation in order is all numbers below -/
theorem all_below {f : Nat → Nat} {N : Nat} (p : Perm1 f N) {out : List Int} (h : out.Perm (((List.range N).map f).map fun (x : Nat) => ((x : Nat) : Int))) (up : out.Pairwise (· ≤ ·)) : out = (List.range N).map fun (x : Nat) => ((x : Nat) : Int) := by
  have nd : ((List.range N).map f).Nodup := by
    refine List.pairwise_map.mpr (List.nodup_range.imp_of_mem fun {a b} ha hb hne e => hne ?_)
    exact p.inj a b (List.mem_range.mp ha) (List.mem_range.mp hb) e
  have lt : ∀ x ∈ (List.range N).map f, x < N := fun x hx => by
    obtain ⟨d, hd, rfl⟩ := List.mem_map.mp hx
    exact p.lt d (List.mem_range.mp hd)
  have pm : ((List.range N).map f).Perm (List.range N) := (List.perm_ext_iff_of_nodup nd List.nodup_range).mpr fun x => by
    refine ⟨fun hx => List.mem_range.mpr (lt x hx), fun hx => ?_⟩
    by_cases c : x ∈ (List.range N).map f
    · exact c
    · have := len_le (a := x :: (List.range N).map f) (N := N) (List.nodup_cons.mpr ⟨c, nd⟩) fun y hy => by
        rcases List.mem_cons.mp hy with rfl | hy
        · exact List.mem_range.mp hx
        · exact lt y hy
      rw [List.length_cons, List.length_map, List.length_range] at this
      omega
  have up2 : ((List.range N).map fun (x : Nat) => ((x : Nat) : Int)).Pairwise (· ≤ ·) := List.pairwise_map.mpr (List.pairwise_lt_range.imp fun {a b} (z : a < b) => by show (a : Int) ≤ (b : Int); omega)
  exact (h.trans (pm.map _)).eq_of_pairwise (fun a b _ _ h1 h2 => Int.le_antisymm h1 h2) up up2
theorem sc_law : FnScope ["script", "built", "ends", "turns", "ties", "handed", "told", "dart", "found"] ["script"] (defScope s_law) := ⟨rfl, rfl, rfl, by decide +kernel, rfl, by decide +kernel, by decide +kernel⟩
theorem ok_law {f fB fT fF fb fN : Addr} {fd fdB fdT fdF fdb fdN : FuncData} (F : Fun K "law" "law" s_law f fd) (T : Txt mg) (G_law_built : Cal P w K mg base 2 "_law_built" ["script"] (spBuilt K) fB fdB) (G_law_ties : Cal P w K mg base 3 "_law_ties" ["ends"] (spTies K) fT fdT)
    (G_follower : Cal P w K mg base 2 "follower" ["ties", "turns", "dart"] (spFol K) fF fdF) (G_law_behind : Cal P w K mg base 1 "_law_behind" ["ends", "turns", "dart"] (spBehind K) fb fdb) (G_law_number : Cal P w K mg base 1 "_law_number" ["found"] spNum fN fdN) :
    FnOk P w K mg base CX0 5 f fd ["script"] (spLaw K) := by
  refine F.ok sc_law (fun vs H Q E h => ?_) (fun cdv A outer s H vs Q E hr h => ?_)
  · obtain ⟨a, ns, rfl, _⟩ := h
    rfl
  obtain ⟨a, ns, rfl, hS, h63, k⟩ := h
  have hu := hu_of hr
  have hu64 := hr.units
  refine ⟨_, (pss_cons (ps_set (i := 1) sc_law.nd rfl (Or.inl rfl) (pe_call G_law_built.ok (hr.mono (by decide)) rfl G_law_built.mg G_law_built.kp G_law_built.bn .nil pass0 (pa_cons (pv 0) pa_nil)))
      (pss_cons (ps_set (i := 2) sc_law.nd rfl (Or.inl rfl) (pe_ix ix_tup (pv 1) pe_int (fun _ _ => rfl)))
      (pss_cons (ps_set (i := 3) sc_law.nd rfl (Or.inl rfl) (pe_ix ix_tup (pv 1) pe_int (fun _ _ => rfl)))
      (pss_cons (ps_set (i := 4) sc_law.nd rfl (Or.inl rfl) (pe_call G_law_ties.ok (hr.mono (by decide)) rfl G_law_ties.mg G_law_ties.kp G_law_ties.bn .nil pass0 (pa_cons (pv 2) pa_nil)))
      (pss_cons (ps_setComp (i := 5) rfl sc_law.nd rfl rfl (fr := []) (by exact CompOk.plain (by rfl) (by decide +kernel) (by rfl) (by decide +kernel) (by rfl) (by decide +kernel)) (pi_list (pv 3)) (fun C ex s H => (pe_callTy (callK_list (K := K) rfl) (by rfl) T.n_list bt_list (pa_cons (pv 0) pa_nil))))
      (pss_cons (ps_set (i := 6) sc_law.nd rfl (Or.inl rfl) (pe_lst pa_nil))
      (pss_cons (ps_for PassesOwn.never rfl (pi_range1 rfl T.n_range (pa_cons (pe_op op_mul pe_int (pe_callB call_len_seq (by rfl) T.n_len bt_len (pa_cons (pv 2) pa_nil))) pa_nil)) (pg_name (i := 7) sc_law.nd rfl (Or.inl rfl)) (pss_cons (ps_set (i := 8) sc_law.nd rfl (Or.inl rfl) (pe_call G_follower.ok (hr.mono (by decide)) rfl G_follower.mg G_follower.kp G_follower.bn .nil pass0 (pa_cons (pv 4) (pa_cons (pv 5) (pa_cons (pv 7) pa_nil)))))
      (pss_cons (ps_if (PW.pt (pw_or (pt_not (pt_val (pe_call G_law_number.ok (hr.mono (by decide)) rfl G_law_number.mg G_law_number.kp G_law_number.bn .nil pass0 (pa_cons (pv 8) pa_nil)))) (pw_or1 (pt_cmpR op_ne (pv 8) (pe_call G_law_behind.ok (hr.mono (by decide)) rfl G_law_behind.mg G_law_behind.kp G_law_behind.bn .nil pass0 (pa_cons (pv 2) (pa_cons (pv 3) (pa_cons (pv 7) pa_nil)))) (nomark _))))) (pss_one (ps_ret pe_bl)) pss_nil)
      (pss_one (ps_expr (pe_bm PySem.F.plainAttrs_list PySem.F.slot_list_append PySem.F.type_list_append mt_append (pv 6) (pa_cons (pv 8) pa_nil)))))))
      (pss_cons (ps_if (PW.pt (pw_or (pt_cmpR (op_neD hu64) (pe_callB call_sortA (by rfl) T.n_sorted bt_sorted (pa_cons (pv 6) pa_nil)) (pe_listrange rfl rfl T.n_list rfl T.n_range (pe_op op_mul pe_int (pe_callB call_len_seq (by rfl) T.n_len bt_len (pa_cons (pv 2) pa_nil)))) (nomark _)) (pw_or1 (pt_cmpR (op_neD hu64) (pv 5) (pv 3) (nomark _))))) (pss_one (ps_ret pe_bl)) pss_nil)
      (pss_one (ps_ret (pe_cmpR (op_eqD hu64) (pe_comp rfl (fr := []) (by exact CompOk.plain (by rfl) (by decide +kernel) (by rfl) (by decide +kernel) (by rfl) (by decide +kernel)) (pi_list (pv 4)) (fun C ex s H => (pe_tup (pa_cons (pe_fldK (K := K) rfl (pv 0) rfl) (pa_cons (pe_fldK (K := K) rfl (pv 0) rfl) pa_nil))))) (pv 2) (nomark _)))))))))))), ?_⟩
  refine ⟨_, rfl, a, ns, rfl, hS, h63, fun t pe pt ys xs m es ts H1 _ ht hpe hE hpt hR w' few m40 => ?_⟩
  have hyl : ys.length = es.length := hE.1
  have hxm : xs.length = m := by rw [hR.1, w'.len]
  have pm := perm w'
  refine ⟨_, rfl, t, _, 0, _, rfl, rfl, SqT.of ht, at0, ?_⟩
  refine ⟨_, rfl, t, _, 1, _, rfl, rfl, SqT.of ht, at1, ?_⟩
  refine ⟨_, rfl, pe, ys, es, rfl, SqL.of hpe, hE, fun e he => (w'.ends e he).2.2, few, fun qt us H2 s2 hqt hT => ?_⟩
  have hpt2 := s2 _ _ hpt
  have hR2 := hR.mono s2
  -- handed
  refine ⟨_, rfl, pt, rfl, ⟨_, SqL.of hpt2⟩, comp_list (K := K) (xs := xs) (fun i zs H3 => Same H2 H3 ∧ RowsAt H3 zs (ts.take i)) (Nat.le_of_lt (small1000 (by omega))) ⟨fun _ _ e => e, rfl, fun i l e => by simp at e⟩ (fun i zs H3 _ z => SqL.of (z.1 _ _ hpt2)) ?_ ?_⟩
  · rintro i x zs H3 hx ⟨s3, rz⟩
    have hi : i < ts.length := by rw [← hR.1]; exact (List.getElem?_eq_some_iff.mp hx).1
    obtain ⟨l, hl⟩ : ∃ l, ts[i]? = some l := ⟨_, List.getElem?_eq_getElem hi⟩
    obtain ⟨p, a1, a2⟩ := (hR2.mono s3).2 i l hl
    rw [hx] at a1
    cases a1
    refine ⟨_, rfl, p, _, rfl, .inl (SqL.of a2), fun g hg => ?_⟩
    have s4 := same_new hg (.lst (l.map iV))
    refine ⟨s3.trans s4, ?_⟩
    rw [show ts.take (i + 1) = ts.take i ++ [l] by rw [List.take_add_one, hl]; rfl]
    exact (rz.mono s4).snoc upd_same
  rintro zs H3 _ ⟨s3, rz⟩ qh hqh
  rw [hR.1, List.take_length] at rz
  have s4 := same_new hqh (.lst zs)
  have s24 := s3.trans s4
  have s14 := s2.trans s24
  have hqh4 : upd H3 qh (.lst zs) qh = some (.lst zs) := upd_same
  have tt4 : TT K (upd H3 qh (.lst zs)) qt qh m es ts := ⟨⟨us, SqL.of (s24 _ _ hqt), hT.mono s24⟩, ⟨zs, SqL.of upd_same, rz.mono s4⟩, w', few⟩
  -- told
  refine ⟨(by show 0 ≤ sizeLine; decide), fun qd hqd => ?_⟩
  have s5 := same_new hqd (.lst [])
  have hpe5 := (s14.trans s5) _ _ hpe
  refine ⟨_, rfl, pe, ys, rfl, .inl (SqL.of hpe5), _, _, rfl, rfl, .inl ⟨by decide, by decide⟩, _, rfl, by omega, by omega, for_range (n := (2 * ((ys.length : Nat) : Int)).toNat) (fun i σ H6 => ∃ v7 v8 : Option V, σ = [some (.ref a), some (.ref t), some (.ref pe), some (.ref pt), some (.ref qt), some (.ref qh), some (.ref qd), v7, v8] ∧ Same (upd H3 qh (.lst zs)) H6 ∧ H6 qd = some (.lst (((List.range i).map (fol es ts)).map iV))) ⟨_, _, rfl, s5, upd_same⟩ ?_ ?_⟩
  · rintro i σ H6 hi ⟨v7, v8, rfl, s6, hq6⟩
    have hi' : i < 2 * es.length := by omega
    have e0 : (0 : Int) + (i : Int) = (i : Int) := Int.zero_add _
    rw [e0]
    have s16 := s14.trans s6
    refine ⟨_, rfl, _, rfl, _, rfl, qt, qh, m, es, ts, i, rfl, tt4.mono s6, hi', ?_⟩
    refine ⟨_, rfl, ((fol es ts i : Nat) : Int), rfl, _, rfl, iteF ?_⟩
    refine ⟨_, rfl, _, rfl, _, rfl, _, rfl, pe, pt, ys, xs, m, es, ts, i, rfl, SqL.of (s16 _ _ hpe), hE.mono s16, SqL.of (s16 _ _ hpt), hR.mono s16, w', few, hi', rfl, _, rfl, iteNS rfl ?_⟩
    refine ⟨_, rfl, .inl ⟨rfl, _, SqL.of hq6⟩, _, rfl, qd, _, _, rfl, rfl, hq6, small1000 (by rw [List.length_map, List.length_map, List.length_range]; omega), ?_⟩
    refine ⟨_, _, rfl, same_upd s6 hqd _, ?_⟩
    rw [upd_same, List.range_succ, List.map_append, List.map_append]
    rfl
  · rintro σ H6 ⟨v7, v8, rfl, s6, hq6⟩
    have eN : (2 * ((ys.length : Nat) : Int)).toNat = 2 * es.length := by omega
    rw [eN] at hq6
    have s16 := s14.trans s6
    have hpe6 := s16 _ _ hpe
    have e1 : (((List.range (2 * es.length)).map (fol es ts)).map iV) = (((List.range (2 * es.length)).map (fol es ts)).map fun (x : Nat) => ((x : Nat) : Int)).map V.int := by rw [List.map_map (g := V.int)]; rfl
    refine ⟨_, rfl, qd, _, rfl, (by rw [← e1]; exact SqL.of hq6), fun ql out hql op ou => ?_⟩
    have eo := all_below pm op ou
    have s7 := same_new hql (.lst (out.map V.int))
    refine ⟨_, rfl, pe, ys, rfl, .inl (SqL.of (s7 _ _ hpe6)), _, _, rfl, rfl, .inl ⟨by decide, by decide⟩, 2 * es.length, congrArg V.int (by omega), by omega, fun qm hqm => ?_⟩
    have s8 := same_new hqm (.lst ((List.range (2 * es.length)).map fun (i : Nat) => V.int ((i : Nat) : Int)))
    have e2 : ((List.range (2 * es.length)).map fun (i : Nat) => V.int ((i : Nat) : Int)) = out.map V.int := by rw [eo, List.map_map]; rfl
    refine ⟨_, ints_rd' (SqL.of (s8 _ _ upd_same)), ints_rd' (ns := out) (by rw [← e2]; exact SqL.of upd_same), PySem.W.shaped_ints _, _, rfl, iteF ?_⟩
    have s68 := s7.trans s8
    have s48 := s6.trans s68
    have s28 := s24.trans s48
    have s18 := s14.trans s48
    refine ⟨_, rfl, _, rfl, _, rows_rd (SqL.of (s48 _ _ hqh4)) ((rz.mono s4).mono s48), rows_rd (SqL.of (s28 _ _ hpt2)) (hR2.mono s28), rows_shaped ts, _, rfl, iteF ?_⟩
    have hT9 := hT.mono s28
    have hqt9 := s28 _ _ hqt
    have hul : us.length = es.length := hT.1
    have hpe9 := s18 _ _ hpe
    refine ⟨_, rfl, qt, rfl, ⟨_, SqL.of hqt9⟩, comp_list (K := K) (xs := us) (fun i zs H11 => Same (upd (upd H6 ql (.lst (out.map V.int))) qm (.lst ((List.range (2 * es.length)).map fun (i : Nat) => V.int ((i : Nat) : Int)))) H11 ∧ EndsAt H11 zs (es.take i)) (Nat.le_of_lt (small1000 (by omega))) ⟨fun _ _ e => e, rfl, fun i l e => by simp at e⟩ (fun i zs H11 _ z => SqL.of (z.1 _ _ hqt9)) ?_ ?_⟩
    · rintro i x zs H11 hx ⟨s11, ez⟩
      have hi : i < es.length := by rw [← hT.1]; exact (List.getElem?_eq_some_iff.mp hx).1
      obtain ⟨e, he⟩ : ∃ e, es[i]? = some e := ⟨_, List.getElem?_eq_getElem hi⟩
      obtain ⟨p, C, dx, st, a1, a2, a3⟩ := (hT9.mono s11).2 i e he
      rw [hx] at a1
      cases a1
      refine ⟨_, rfl, p, C, dx, _, _, rfl, a2, a3.cl, a3.n1, tf_one _ _ _, _, rfl, p, C, dx, _, _, rfl, a2, a3.cl, a3.n2, tf_two _ _ _, (by show 2 ≤ sizeLine; decide), fun g hg => ?_⟩
      have s12 := same_new hg (.tup [iV e.1, iV e.2])
      refine ⟨s11.trans s12, ?_⟩
      rw [show es.take (i + 1) = es.take i ++ [e] by rw [List.take_add_one, he]; rfl]
      exact (ez.mono s12).snoc upd_same
    rintro zs2 H11 _ ⟨s11, ez⟩ qz hqz
    rw [hT.1, List.take_length] at ez
    have s12 := same_new hqz (.lst zs2)
    have s13 := s11.trans s12
    refine ⟨_, rfl, _, ends_rd (SqL.of upd_same) (ez.mono s12), ends_rd (SqL.of (s13 _ _ hpe9)) ((hE.mono s18).mono s13), ends_shaped es, ?_⟩
    exact k _
end
theorem all_mk {l : PySem.W.OpenLaw} {w : World} {K : PySem.W.Frag} {h : Heap} {mg : Str → Option Value} {fa C_Pull C_Push f_head f_leaving f_follower f_Tie___init f_law_cell f_law_built f_law_ties f_law_behind f_law_number f_law : Addr} (X : K.In h) (G : h.Ns mainGlobals mg) (hfa : mg "law" = some (.ref fa))
    {od_head an_head od_leaving an_leaving od_follower an_follower od_Tie___init an_Tie___init od_law_cell an_law_cell od_law_built an_law_built od_law_ties an_law_ties od_law_behind an_law_behind od_law_number an_law_number od_law an_law : Option Addr} {sl_head sl_leaving sl_follower sl_Tie___init sl_law_cell sl_law_built sl_law_ties sl_law_behind sl_law_number sl_law : Array (Option Value)} {oc_head kV_head dc_head pm_head cd_head ct_head oc_leaving kV_leaving dc_leaving pm_leaving cd_leaving ct_leaving oc_follower kV_follower dc_follower pm_follower cd_follower ct_follower oc_Tie___init kV_Tie___init dc_Tie___init pm_Tie___init cd_Tie___init ct_Tie___init oc_law_cell kV_law_cell dc_law_cell pm_law_cell cd_law_cell ct_law_cell oc_law_built kV_law_built dc_law_built pm_law_built cd_law_built ct_law_built oc_law_ties kV_law_ties dc_law_ties pm_law_ties cd_law_ties ct_law_ties oc_law_behind kV_law_behind dc_law_behind pm_law_behind cd_law_behind ct_law_behind oc_law_number kV_law_number dc_law_number pm_law_number cd_law_number ct_law_number oc_law kV_law dc_law pm_law cd_law ct_law : Value}
    (aC_Pull : PySem.W.nsIn K mainGlobals "Pull" = some (some (.ref C_Pull)))
    (aC_Push : PySem.W.nsIn K mainGlobals "Push" = some (some (.ref C_Push)))
    (me_Pull_init : PySem.W.findIn K (.ref C_Pull) "__init__" = some (some (.ref f_Tie___init)))
    (me_Push_init : PySem.W.findIn K (.ref C_Push) "__init__" = some (some (.ref f_Tie___init)))
    (a_head : PySem.W.nsIn K mainGlobals "head" = some (some (.ref f_head)))
    (l_head : K.lookup f_head = some ⟨oc_head, od_head, .func (PySem.W.fnOf "head" "head" (defArgs s_head) (defBody s_head) (defScope s_head) .none kV_head dc_head pm_head an_head cd_head ct_head), sl_head⟩)
    (c_head : PySem.W.codeIn K cd_head "head" = true)
    (k_head : PySem.W.keepIn K (.ref f_head) = true)
    (a_leaving : PySem.W.nsIn K mainGlobals "leaving" = some (some (.ref f_leaving)))
    (l_leaving : K.lookup f_leaving = some ⟨oc_leaving, od_leaving, .func (PySem.W.fnOf "leaving" "leaving" (defArgs s_leaving) (defBody s_leaving) (defScope s_leaving) .none kV_leaving dc_leaving pm_leaving an_leaving cd_leaving ct_leaving), sl_leaving⟩)
    (c_leaving : PySem.W.codeIn K cd_leaving "leaving" = true)
    (k_leaving : PySem.W.keepIn K (.ref f_leaving) = true)
    (a_follower : PySem.W.nsIn K mainGlobals "follower" = some (some (.ref f_follower)))
    (l_follower : K.lookup f_follower = some ⟨oc_follower, od_follower, .func (PySem.W.fnOf "follower" "follower" (defArgs s_follower) (defBody s_follower) (defScope s_follower) .none kV_follower dc_follower pm_follower an_follower cd_follower ct_follower), sl_follower⟩)
    (c_follower : PySem.W.codeIn K cd_follower "follower" = true)
    (k_follower : PySem.W.keepIn K (.ref f_follower) = true)
    (l_Tie___init : K.lookup f_Tie___init = some ⟨oc_Tie___init, od_Tie___init, .func (PySem.W.fnOf "__init__" "Tie.__init__" (defArgs s_Tie___init) (defBody s_Tie___init) (defScope s_Tie___init) .none kV_Tie___init dc_Tie___init pm_Tie___init an_Tie___init cd_Tie___init ct_Tie___init), sl_Tie___init⟩)
    (c_Tie___init : PySem.W.codeIn K cd_Tie___init "Tie.__init__" = true)
    (k_Tie___init : PySem.W.keepIn K (.ref f_Tie___init) = true)
    (i_Tie___init : PySem.W.isFn K (.ref f_Tie___init) = true)
    (a_law_cell : PySem.W.nsIn K mainGlobals "_law_cell" = some (some (.ref f_law_cell)))
    (l_law_cell : K.lookup f_law_cell = some ⟨oc_law_cell, od_law_cell, .func (PySem.W.fnOf "_law_cell" "_law_cell" (defArgs s_law_cell) (defBody s_law_cell) (defScope s_law_cell) .none kV_law_cell dc_law_cell pm_law_cell an_law_cell cd_law_cell ct_law_cell), sl_law_cell⟩)
    (c_law_cell : PySem.W.codeIn K cd_law_cell "_law_cell" = true)
    (k_law_cell : PySem.W.keepIn K (.ref f_law_cell) = true)
    (a_law_built : PySem.W.nsIn K mainGlobals "_law_built" = some (some (.ref f_law_built)))
    (l_law_built : K.lookup f_law_built = some ⟨oc_law_built, od_law_built, .func (PySem.W.fnOf "_law_built" "_law_built" (defArgs s_law_built) (defBody s_law_built) (defScope s_law_built) .none kV_law_built dc_law_built pm_law_built an_law_built cd_law_built ct_law_built), sl_law_built⟩)
    (c_law_built : PySem.W.codeIn K cd_law_built "_law_built" = true)
    (k_law_built : PySem.W.keepIn K (.ref f_law_built) = true)
    (a_law_ties : PySem.W.nsIn K mainGlobals "_law_ties" = some (some (.ref f_law_ties)))
    (l_law_ties : K.lookup f_law_ties = some ⟨oc_law_ties, od_law_ties, .func (PySem.W.fnOf "_law_ties" "_law_ties" (defArgs s_law_ties) (defBody s_law_ties) (defScope s_law_ties) .none kV_law_ties dc_law_ties pm_law_ties an_law_ties cd_law_ties ct_law_ties), sl_law_ties⟩)
    (c_law_ties : PySem.W.codeIn K cd_law_ties "_law_ties" = true)
    (k_law_ties : PySem.W.keepIn K (.ref f_law_ties) = true)
    (a_law_behind : PySem.W.nsIn K mainGlobals "_law_behind" = some (some (.ref f_law_behind)))
    (l_law_behind : K.lookup f_law_behind = some ⟨oc_law_behind, od_law_behind, .func (PySem.W.fnOf "_law_behind" "_law_behind" (defArgs s_law_behind) (defBody s_law_behind) (defScope s_law_behind) .none kV_law_behind dc_law_behind pm_law_behind an_law_behind cd_law_behind ct_law_behind), sl_law_behind⟩)
    (c_law_behind : PySem.W.codeIn K cd_law_behind "_law_behind" = true)
    (k_law_behind : PySem.W.keepIn K (.ref f_law_behind) = true)
    (a_law_number : PySem.W.nsIn K mainGlobals "_law_number" = some (some (.ref f_law_number)))
    (l_law_number : K.lookup f_law_number = some ⟨oc_law_number, od_law_number, .func (PySem.W.fnOf "_law_number" "_law_number" (defArgs s_law_number) (defBody s_law_number) (defScope s_law_number) .none kV_law_number dc_law_number pm_law_number an_law_number cd_law_number ct_law_number), sl_law_number⟩)
    (c_law_number : PySem.W.codeIn K cd_law_number "_law_number" = true)
    (k_law_number : PySem.W.keepIn K (.ref f_law_number) = true)
    (a_law : PySem.W.nsIn K mainGlobals "law" = some (some (.ref f_law)))
    (l_law : K.lookup f_law = some ⟨oc_law, od_law, .func (PySem.W.fnOf "law" "law" (defArgs s_law) (defBody s_law) (defScope s_law) .none kV_law dc_law pm_law an_law cd_law ct_law), sl_law⟩)
    (c_law : PySem.W.codeIn K cd_law "law" = true)
    (k_law : PySem.W.keepIn K (.ref f_law) = true)
    (pg_Pull : PySem.W.plainGet K C_Pull Str.empty = true)
    (hd_Pull : PySem.W.hasDictIn K C_Pull = true)
    (po_Pull : PySem.W.plainOver K C_Pull = true)
    (sa_Pull : PySem.W.findIn K (.ref C_Pull) "__setattr__" = some (some (.builtin "object.__setattr__")))
    (mk_Pull : PySem.W.makesIn K C_Pull = true)
    (kc_Pull : PySem.W.keepIn K (.ref C_Pull) = true)
    (na_Pull_one : PySem.W.findIn K (.ref C_Pull) "one" = some none)
    (na_Pull_two : PySem.W.findIn K (.ref C_Pull) "two" = some none)
    (na_Pull_strength : PySem.W.findIn K (.ref C_Pull) "strength" = some none)
    (pg_Push : PySem.W.plainGet K C_Push Str.empty = true)
    (hd_Push : PySem.W.hasDictIn K C_Push = true)
    (po_Push : PySem.W.plainOver K C_Push = true)
    (sa_Push : PySem.W.findIn K (.ref C_Push) "__setattr__" = some (some (.builtin "object.__setattr__")))
    (mk_Push : PySem.W.makesIn K C_Push = true)
    (kc_Push : PySem.W.keepIn K (.ref C_Push) = true)
    (na_Push_one : PySem.W.findIn K (.ref C_Push) "one" = some none)
    (na_Push_two : PySem.W.findIn K (.ref C_Push) "two" = some none)
    (na_Push_strength : PySem.W.findIn K (.ref C_Push) "strength" = some none)
    (z_len : PySem.W.nsIn K mainGlobals "len" = some none)
    (z_int : PySem.W.nsIn K mainGlobals "int" = some none)
    (z_bool : PySem.W.nsIn K mainGlobals "bool" = some none)
    (z_list : PySem.W.nsIn K mainGlobals "list" = some none)
    (z_tuple : PySem.W.nsIn K mainGlobals "tuple" = some none)
    (z_range : PySem.W.nsIn K mainGlobals "range" = some none)
    (z_enumerate : PySem.W.nsIn K mainGlobals "enumerate" = some none)
    (z_isinstance : PySem.W.nsIn K mainGlobals "isinstance" = some none)
    (z_sorted : PySem.W.nsIn K mainGlobals "sorted" = some none)
    : ∃ fd : FuncData, (∀ (s : Shared) (v : Value), BindsTo s fd ⟨[v], []⟩ [("script", v)]) ∧ ∀ base : Heap, K.In base → base.Ns mainGlobals mg → FnOk l.prog w K mg base CX0 5 fa fd ["script"] (spLaw K) := by
  have e := hfa.symm.trans (PySem.W.mg_of X G a_law)
  cases e
  have F_head := fun_mk (st := s_head) l_head c_head k_head
  have b_head := F_head.binds (ps := ["ties", "dart"]) fun _ _ _ _ _ _ us hl => match us, hl with | [_, _], _ => rfl
  have F_leaving := fun_mk (st := s_leaving) l_leaving c_leaving k_leaving
  have b_leaving := F_leaving.binds (ps := ["ties", "number", "place"]) fun _ _ _ _ _ _ us hl => match us, hl with | [_, _, _], _ => rfl
  have F_follower := fun_mk (st := s_follower) l_follower c_follower k_follower
  have b_follower := F_follower.binds (ps := ["ties", "turns", "dart"]) fun _ _ _ _ _ _ us hl => match us, hl with | [_, _, _], _ => rfl
  have F_Tie___init := fun_mk (st := s_Tie___init) l_Tie___init c_Tie___init k_Tie___init
  have b_Tie___init := F_Tie___init.binds (ps := ["self", "one", "two", "strength"]) fun _ _ _ _ _ _ us hl => match us, hl with | [_, _, _, _], _ => rfl
  have F_law_cell := fun_mk (st := s_law_cell) l_law_cell c_law_cell k_law_cell
  have b_law_cell := F_law_cell.binds (ps := ["script", "k"]) fun _ _ _ _ _ _ us hl => match us, hl with | [_, _], _ => rfl
  have F_law_built := fun_mk (st := s_law_built) l_law_built c_law_built k_law_built
  have b_law_built := F_law_built.binds (ps := ["script"]) fun _ _ _ _ _ _ us hl => match us, hl with | [_], _ => rfl
  have F_law_ties := fun_mk (st := s_law_ties) l_law_ties c_law_ties k_law_ties
  have b_law_ties := F_law_ties.binds (ps := ["ends"]) fun _ _ _ _ _ _ us hl => match us, hl with | [_], _ => rfl
  have F_law_behind := fun_mk (st := s_law_behind) l_law_behind c_law_behind k_law_behind
  have b_law_behind := F_law_behind.binds (ps := ["ends", "turns", "dart"]) fun _ _ _ _ _ _ us hl => match us, hl with | [_, _, _], _ => rfl
  have F_law_number := fun_mk (st := s_law_number) l_law_number c_law_number k_law_number
  have b_law_number := F_law_number.binds (ps := ["found"]) fun _ _ _ _ _ _ us hl => match us, hl with | [_], _ => rfl
  have F_law := fun_mk (st := s_law) l_law c_law k_law
  refine ⟨PySem.W.fnOf "law" "law" (defArgs s_law) (defBody s_law) (defScope s_law) .none kV_law dc_law pm_law an_law cd_law ct_law, fun s v => .of_eq rfl, fun base _ _ => ?_⟩
  have m_head := PySem.W.mg_of X G a_head
  have m_leaving := PySem.W.mg_of X G a_leaving
  have m_follower := PySem.W.mg_of X G a_follower
  have m_law_cell := PySem.W.mg_of X G a_law_cell
  have m_law_built := PySem.W.mg_of X G a_law_built
  have m_law_ties := PySem.W.mg_of X G a_law_ties
  have m_law_behind := PySem.W.mg_of X G a_law_behind
  have m_law_number := PySem.W.mg_of X G a_law_number
  have m_law := PySem.W.mg_of X G a_law
  have m_Pull := PySem.W.mg_of X G aC_Pull
  have m_Push := PySem.W.mg_of X G aC_Push
  have n_len := PySem.W.mg_none_of X G z_len
  have n_int := PySem.W.mg_none_of X G z_int
  have n_bool := PySem.W.mg_none_of X G z_bool
  have n_list := PySem.W.mg_none_of X G z_list
  have n_tuple := PySem.W.mg_none_of X G z_tuple
  have n_range := PySem.W.mg_none_of X G z_range
  have n_enumerate := PySem.W.mg_none_of X G z_enumerate
  have n_isinstance := PySem.W.mg_none_of X G z_isinstance
  have n_sorted := PySem.W.mg_none_of X G z_sorted
  have TL : CT K C_Pull := ⟨⟨pg_Pull, hd_Pull, po_Pull, sa_Pull⟩, na_Pull_one, na_Pull_two, na_Pull_strength⟩
  have TS : CT K C_Push := ⟨⟨pg_Push, hd_Push, po_Push, sa_Push⟩, na_Push_one, na_Push_two, na_Push_strength⟩
  have T : Txt mg := ⟨n_len, n_int, n_bool, n_list, n_tuple, n_range, n_enumerate, n_isinstance, n_sorted⟩
  have GI : FnOk l.prog w K mg base CX0 1 f_Tie___init _ _ (spInit K) := ok_init F_Tie___init
  have ML : Mak l.prog w K mg base 1 "Pull" _ (spInit K) C_Pull f_Tie___init _ := ⟨⟨mk_Pull, me_Pull_init, i_Tie___init, kc_Pull⟩, GI, b_Tie___init, m_Pull⟩
  have MS : Mak l.prog w K mg base 1 "Push" _ (spInit K) C_Push f_Tie___init _ := ⟨⟨mk_Push, me_Push_init, i_Tie___init, kc_Push⟩, GI, b_Tie___init, m_Push⟩
  have Gh : Cal l.prog w K mg base 1 "head" _ (spHead K) f_head _ := ⟨ok_head F_head, b_head, m_head, k_head⟩
  have Gl : Cal l.prog w K mg base 1 "leaving" _ (spLeav K) f_leaving _ := ⟨ok_leaving F_leaving, b_leaving, m_leaving, k_leaving⟩
  have Gf : Cal l.prog w K mg base 2 "follower" _ (spFol K) f_follower _ := ⟨ok_follower F_follower T Gh Gl, b_follower, m_follower, k_follower⟩
  have Gc : Cal l.prog w K mg base 1 "_law_cell" _ (spCell K) f_law_cell _ := ⟨ok_cell F_law_cell T, b_law_cell, m_law_cell, k_law_cell⟩
  have GB : Cal l.prog w K mg base 2 "_law_built" _ (spBuilt K) f_law_built _ := ⟨ok_built F_law_built T Gc, b_law_built, m_law_built, k_law_built⟩
  have GT : Cal l.prog w K mg base 3 "_law_ties" _ (spTies K) f_law_ties _ := ⟨ok_ties F_law_ties T ML MS TL TS, b_law_ties, m_law_ties, k_law_ties⟩
  have Gb : Cal l.prog w K mg base 1 "_law_behind" _ (spBehind K) f_law_behind _ := ⟨ok_behind F_law_behind T, b_law_behind, m_law_behind, k_law_behind⟩
  have Gn : Cal l.prog w K mg base 1 "_law_number" _ spNum f_law_number _ := ⟨ok_number F_law_number T, b_law_number, m_law_number, k_law_number⟩
  exact ok_law F_law T GB GT Gf Gb Gn
theorem walk {l : PySem.W.OpenLaw} {q : Program} {loose : List Str} {XP : (Str → Option Value) → Heap → Prop} {YP : World → Heap → Prop} {d : DefRec} {K : Params → PySem.W.Frag} (hn : l.most = some 63) (hdf : d.params.defaults = [])
    (hY : ∀ (w : World) (h : Heap), YP w h → (K w.params).In h)
    (F : ∀ (w : World) (mg : Str → Option Value) (fa : Addr) (h : Heap), (K w.params).In h → h.Ns mainGlobals mg → mg d.name = some (.ref fa) →
      ∃ fd : FuncData, (∀ (s : Shared) (u : Value), BindsTo s fd ⟨[u], []⟩ [("script", u)]) ∧ ∀ base : Heap, (K w.params).In base → base.Ns mainGlobals mg → FnOk l.prog w (K w.params) mg base CX0 5 fa fd ["script"] (spLaw (K w.params))) :
    PySem.W.WalkO q loose XP YP l.row.toRowW d [] (fun f vs => PySem.call f vs) :=
  L2.walk_of (n := 63) (k := 5) (x := "script") (CX := fun _ => CX0) (sp := fun w => spLaw (K w.params)) hn (by decide) hdf ⟨rfl, by decide, by decide⟩ hY F (fun _ _ a ns hl _ hS => ⟨a, ns, rfl, hS, hl, fun _ => rfl⟩) fun _ _ _ _ _ z => z
end K8


open PySem PySem.W PyProof.Rows
set_option maxRecDepth 100000 in
set_option maxHeartbeats 0 in
theorem PySem.Challenge.cw_spinfloor_k07_what_follows_a_dart_holds : PySem.Challenge.rw_spinfloor_k07_what_follows_a_dart.Holds := by
  w_on; o_law; k_head; (case hw => w_witness2)
  k_fill
  refine K8.walk (l := PySem.Challenge.rw_spinfloor_k07_what_follows_a_dart) rfl rfl (fun w h Y => PySem.W.kIn_of Y) ?F
  case F =>
    intro w mg fa h KX G hmg
    refine' K8.all_mk KX G hmg ?aC_Pull ?aC_Push ?me_Pull_init ?me_Push_init ?a_head ?l_head ?c_head ?k_head ?a_leaving ?l_leaving ?c_leaving ?k_leaving ?a_follower ?l_follower ?c_follower ?k_follower ?l_Tie___init ?c_Tie___init ?k_Tie___init ?i_Tie___init ?a_law_cell ?l_law_cell ?c_law_cell ?k_law_cell ?a_law_built ?l_law_built ?c_law_built ?k_law_built ?a_law_ties ?l_law_ties ?c_law_ties ?k_law_ties ?a_law_behind ?l_law_behind ?c_law_behind ?k_law_behind ?a_law_number ?l_law_number ?c_law_number ?k_law_number ?a_law ?l_law ?c_law ?k_law ?pg_Pull ?hd_Pull ?po_Pull ?sa_Pull ?mk_Pull ?kc_Pull ?na_Pull_one ?na_Pull_two ?na_Pull_strength ?pg_Push ?hd_Push ?po_Push ?sa_Push ?mk_Push ?kc_Push ?na_Push_one ?na_Push_two ?na_Push_strength ?z_len ?z_int ?z_bool ?z_list ?z_tuple ?z_range ?z_enumerate ?z_isinstance ?z_sorted
    (case aC_Pull => k_is)
    (case aC_Push => k_is)
    (case me_Pull_init => k_is)
    (case me_Push_init => k_is)
    (case a_head => k_is)
    (case l_head => k_is)
    (case c_head => k_is)
    (case k_head => k_is)
    (case a_leaving => k_is)
    (case l_leaving => k_is)
    (case c_leaving => k_is)
    (case k_leaving => k_is)
    (case a_follower => k_is)
    (case l_follower => k_is)
    (case c_follower => k_is)
    (case k_follower => k_is)
    (case l_Tie___init => k_is)
    (case c_Tie___init => k_is)
    (case k_Tie___init => k_is)
    (case i_Tie___init => k_is)
    (case a_law_cell => k_is)
    (case l_law_cell => k_is)
    (case c_law_cell => k_is)
    (case k_law_cell => k_is)
    (case a_law_built => k_is)
    (case l_law_built => k_is)
    (case c_law_built => k_is)
    (case k_law_built => k_is)
    (case a_law_ties => k_is)
    (case l_law_ties => k_is)
    (case c_law_ties => k_is)
    (case k_law_ties => k_is)
    (case a_law_behind => k_is)
    (case l_law_behind => k_is)
    (case c_law_behind => k_is)
    (case k_law_behind => k_is)
    (case a_law_number => k_is)
    (case l_law_number => k_is)
    (case c_law_number => k_is)
    (case k_law_number => k_is)
    (case a_law => k_is)
    (case l_law => k_is)
    (case c_law => k_is)
    (case k_law => k_is)
    (case pg_Pull => k_is)
    (case hd_Pull => k_is)
    (case po_Pull => k_is)
    (case sa_Pull => k_is)
    (case mk_Pull => k_is)
    (case kc_Pull => k_is)
    (case na_Pull_one => k_is)
    (case na_Pull_two => k_is)
    (case na_Pull_strength => k_is)
    (case pg_Push => k_is)
    (case hd_Push => k_is)
    (case po_Push => k_is)
    (case sa_Push => k_is)
    (case mk_Push => k_is)
    (case kc_Push => k_is)
    (case na_Push_one => k_is)
    (case na_Push_two => k_is)
    (case na_Push_strength => k_is)
    (case z_len => k_is)
    (case z_int => k_is)
    (case z_bool => k_is)
    (case z_list => k_is)
    (case z_tuple => k_is)
    (case z_range => k_is)
    (case z_enumerate => k_is)
    (case z_isinstance => k_is)
    (case z_sorted => k_is)

